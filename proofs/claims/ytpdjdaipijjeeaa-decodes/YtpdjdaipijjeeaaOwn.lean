/-
  Rows that a call made, and what a call leaves as it was: lemmas that name no function of the program.
-/
import Derived.Test.YtpdjdaipijjeeaaMsg
import Derived.Test.YtpdjdaipijjeeaaSumW
import Derived.Laws.AppendOwnNone
import Derived.Deep.AppendLies
namespace Go.Proofs.Ytpdjdaipijjeeaa
open Go.RowKit

theorem grown_of_below {w w' : World} (hb : Below w.heap.size w w') : w.grownBy w' none := ⟨hb.os, hb.tape, hb.output, hb.size, fun k hk _ => hb.block k hk⟩
theorem below_step {a u w' : World} (h : Below a.heap.size a u) (hb : Below u.heap.size u w') : Below a.heap.size a w' := h.trans (hb.mono h.size)
theorem cell_keep {W W' : World} {a : Addr} {u : Value} (h : W.cell? a = some u) (hb : Below W.heap.size W W') : W'.cell? a = some u :=
  (hb.cell (World.block_lt_of_cell? W a h)).trans h
theorem owns_below {w w' : World} {base : Nat} {e : TypeId} {size : Nat} {v : Value} {n : Nat} {xs : List Value} (h : w.ownsRow base e size v n xs) (hb : Below w.heap.size w w') : w'.ownsRow base e size v n xs :=
  h.kept (grown_of_below hb) (by cases hv : v.ownBlock <;> simp)
theorem frozen_keep {W W' : World} {a : Addr} {u : Value} (h : W.cell? a = some u) (hz : W.frozen? a = false) (hb : Below W.heap.size W W') : W'.frozen? a = false :=
  (hb.frozen (World.block_lt_of_cell? W a h)).trans hz
theorem Try.infoNode : (Try.prog.info? 100).map (fun i => (i.zero, i.size, i.bytes)) = some (some (.agg #[.int .i64 0, .int .i64 0, .string ByteArray.empty]), 3, 32) := by kernel_rfl
theorem cellsN_length (ns : List PN) : (cellsN ns).length = ns.length * 3 := by
  induction ns with
  | nil => rfl
  | cons x ns ih =>
    have e : cellsN (x :: ns) = [Value.int .i64 x.kind, .int .i64 x.dig, .string x.ev] ++ cellsN ns := by unfold cellsN; rw [List.map_cons, List.flatten_cons]
    rw [e, List.length_append, ih, List.length_cons]; simp; omega
theorem cellsN_append (a b : List PN) : cellsN (a ++ b) = cellsN a ++ cellsN b := by unfold cellsN; rw [List.map_append, List.flatten_append]
theorem cellsN_one (ns : List PN) : ∀ u ∈ cellsN ns, u.oneCell' = true := by
  intro u hu
  unfold cellsN at hu
  obtain ⟨l, hl, hu⟩ := List.mem_flatten.1 hu
  obtain ⟨x, _, rfl⟩ := List.mem_map.1 hl
  simp at hu
  rcases hu with rfl | rfl | rfl <;> rfl
theorem cellsN_get (ns : List PN) (j r : Nat) (hj : j < ns.length) (hr : r < 3) : (cellsN ns)[j * 3 + r]? = [Value.int .i64 ns[j].kind, .int .i64 ns[j].dig, .string ns[j].ev][r]? := by
  induction ns generalizing j with
  | nil => simp at hj
  | cons x ns ih =>
    have e : cellsN (x :: ns) = [Value.int .i64 x.kind, .int .i64 x.dig, .string x.ev] ++ cellsN ns := by unfold cellsN; rw [List.map_cons, List.flatten_cons]
    rw [e]
    cases j with
    | zero =>
      rw [List.getElem?_append_left (by simp; omega)]
      simp
    | succ j =>
      rw [List.getElem?_append_right (by simp; omega)]
      have e2 : (j + 1) * 3 + r - [Value.int .i64 x.kind, .int .i64 x.dig, .string x.ev].length = j * 3 + r := by simp; omega
      rw [e2, ih j (by simpa using hj)]
      rfl
/-- A row of nodes that the call made. -/
theorem NodesAt.of_owns {w : World} {base : Nat} {v : Value} {n : Nat} {ns : List PN} (h : w.ownsRow base 100 3 v n (cellsN ns)) : NodesAt w v ns := by
  have hn : ns.length = n := by have := h.1; rw [cellsN_length] at this; omega
  subst hn
  rcases h.2 with ⟨rfl, h0⟩ | ⟨g, cap, cur, rfl, _, hgg, _, _, _, htake⟩
  · exact ⟨none, 0, by rw [h0], fun _ => rfl, fun hl => by omega⟩
  · refine ⟨_, cap, rfl, fun h => (by cases h), fun _ => ⟨g, 0, cur, _, rfl, hgg, fun j hj => ?_⟩⟩
    have H : ∀ r, r < 3 → cur[j * 3 + r]? = [Value.int .i64 ns[j].kind, .int .i64 ns[j].dig, .string ns[j].ev][r]? := by
      intro r hr
      have h1 := cellsN_get ns j r hj hr
      rw [← htake, List.getElem?_take, if_pos (by omega)] at h1
      simpa using h1
    rw [Nat.zero_add]
    exact ⟨H 0 (by omega), H 1 (by omega), H 2 (by omega)⟩
/-- The cells of nodes, as an append reads them. -/
theorem NodesAt.news {w : World} {ao : Option Addr} {n cap : Nat} {ns : List PN} (h : NodesAt w (.slice ao n cap) ns) (a : Addr) (ha : ao = some a) : ∀ j u, (cellsN ns)[j]? = some u → w.cell? (a.add j) = some u := by
  intro j u hu
  obtain ⟨ao', cap', e, _, hh⟩ := h
  simp only [Value.slice.injEq] at e
  obtain ⟨rfl, rfl, rfl⟩ := e
  have hjl : j < ns.length * 3 := by have := (List.getElem?_eq_some_iff.1 hu).1; rwa [cellsN_length] at this
  obtain ⟨b, o, cur, fr, e, hg, hc⟩ := hh (by omega)
  rw [e] at ha
  cases ha
  rw [show (⟨b, o, none⟩ : Addr).add j = ⟨b, o + j, none⟩ by unfold Addr.add; split <;> simp_all, cell_of_row _ _ _ _ _ _ hg]
  obtain ⟨c0, c1, c2⟩ := hc (j / 3) (by omega)
  have hget := cellsN_get ns (j / 3) (j % 3) (by omega) (by omega)
  rw [show j / 3 * 3 + j % 3 = j by omega, hu] at hget
  have hr : j % 3 = 0 ∨ j % 3 = 1 ∨ j % 3 = 2 := by omega
  rcases hr with hr | hr | hr
  · rw [hr] at hget; rw [show o + j = o + j / 3 * 3 by omega, c0]; exact hget.symm
  · rw [hr] at hget; rw [show o + j = o + j / 3 * 3 + 1 by omega, c1]; exact hget.symm
  · rw [hr] at hget; rw [show o + j = o + j / 3 * 3 + 2 by omega, c2]; exact hget.symm
theorem owns_base {w : World} {base base' : Nat} {e : TypeId} {size : Nat} {v : Value} {n : Nat} {xs : List Value} (h : w.ownsRow base e size v n xs) (hb : base' ≤ base) : w.ownsRow base' e size v n xs := by
  obtain ⟨h1, h2⟩ := h
  refine ⟨h1, ?_⟩
  rcases h2 with h2 | ⟨g, cap, cur, hv, hg, r⟩
  · exact .inl h2
  · exact .inr ⟨g, cap, cur, hv, by omega, r⟩
/-- All blocks but a log's own and its row's are as they were. -/
structure Frame2 (w w' : World) (B : Nat) (row : Option Nat) : Prop where
  os : w'.os = w.os
  tape : w'.tape = w.tape
  output : w'.output = w.output
  size : w.heap.size ≤ w'.heap.size
  block : ∀ k, k < w.heap.size → k ≠ B → some k ≠ row → w'.heap[k]? = w.heap[k]?
theorem Frame2.below {w w' : World} {B b : Nat} {row : Option Nat} (h : Frame2 w w' B row) (hB : b ≤ B) (hr : ∀ k, row = some k → b ≤ k) (hw : b ≤ w.heap.size) : Below b w w' :=
  ⟨h.os, h.tape, h.output, h.size, fun k hk => h.block k (by omega) (by omega) (fun e => by have := hr k e.symm; omega)⟩
theorem owns_frame2 {w w' : World} {B base : Nat} {row : Option Nat} {e : TypeId} {size : Nat} {v : Value} {n : Nat} {xs : List Value} (h : w.ownsRow base e size v n xs) (hF : Frame2 w w' B row) (hB : v.ownBlock ≠ some B) (hr : ∀ g, v.ownBlock = some g → row ≠ some g) : w'.ownsRow base e size v n xs := by
  obtain ⟨h1, h2⟩ := h
  refine ⟨h1, ?_⟩
  rcases h2 with h2 | ⟨g, cap, cur, rfl, hb, hg, r⟩
  · exact .inl h2
  · refine .inr ⟨g, cap, cur, rfl, hb, ?_, r⟩
    rw [hF.block g (lt_of_heap hg) (fun e => hB (by rw [← e]; rfl)) (fun e => hr g rfl e.symm)]
    exact hg
end Go.Proofs.Ytpdjdaipijjeeaa
