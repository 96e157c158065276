/-
  The walks of the two sums: the document's (steleref.Sum) and the program's (stele.Sum, sum.Of).
-/
import Derived.Test.YtlndinigbppafaaRows
import Derived.Test.YtlndinigbppafaaSm
import Derived.WalkKit
import Derived.WalkSpells
import Derived.WalkLawsBesides
import Derived.Laws.AppendOwnNone
import Derived.Deep.AppendLies
namespace Go.Proofs.Ytlndinigbppafaa
open Go.RowKit

theorem byte_bd (b : UInt8) : 0 ≤ (b.toNat : Int) ∧ (b.toNat : Int) ≤ 255 := by have := b.toNat_lt; omega
theorem smStep_l (v : Int) (b : UInt8) : smStep v b = (257 * v + b.toNat + 1) % 65521 := by unfold smStep; rw [Int.mul_comm]

set_option maxHeartbeats 400000 in
theorem refSum_any (s : ByteArray) (w : World) (hs : s.size ≤ maxLen) :
    Calls Try.prog 11 #[.string s] w fun e w' => e = .returned (.int .i64 (sm s.data.toList)) ∧ w' = w := by
  unfold maxLen at hs
  go_enter Try.func11, Try.ntmps11
  go_wp2
  go_loop [3, 4] (fun v i => ∃ k : Nat, k ≤ s.size ∧ i = .int .i64 k ∧ v = .int .i64 (sm (s.data.toList.take k))) (fun _ i => s.size - (intOf i).toNat)
  case atStart => exact ⟨0, Nat.zero_le _, rfl, rfl⟩
  case round =>
    obtain ⟨k, hk, rfl, rfl⟩ := hrel
    have hd := sm_bd (s.data.toList.take k)
    by_cases hlt : k < s.size
    · have HS : Hid (sm (s.data.toList.take (k + 1)) = smStep (sm (s.data.toList.take k)) s[k]) := by
        rw [bytes_snoc s k hlt]; exact sm_snoc _ _
      generalize sm (s.data.toList.take k) = v at *
      have hb := byte_bd s[k]
      go_wp2
      go_round
      case rel => exact ⟨k + 1, by omega, by go_num, by rw [HS.out, smStep_l]; try simp only [wrap64_byte]; go_num⟩
      case measure => simp [intOf]; omega
    · go_wp2
      go_ret
      exact ⟨ret_int (by rw [List.take_of_length_le (by simp; omega)]), rfl⟩

set_option maxHeartbeats 400000 in
theorem sumOf_any (ls : List (List UInt8)) (v : Value) (w : World) (hv : RowsAt w v ls) (hn : ls.length ≤ 9223372036854775807) (hl : ∀ l ∈ ls, l.length ≤ 9223372036854775807) :
    Calls Try.prog 29 #[v] w fun e w' => e = .returned (.int .i64 (sm ls.flatten)) ∧ w' = w := by
  obtain ⟨ao, cap, rfl, hc⟩ := hv.cells
  clear hv
  go_enter Try.func29, Try.ntmps29
  go_wp2
  go_loop [3, 10] (fun v i => ∃ k : Nat, k ≤ ls.length ∧ i = .int .i64 k ∧ v = .int .i64 (sm (ls.take k).flatten)) (fun _ i => ls.length - (intOf i).toNat)
  case atStart => exact ⟨0, Nat.zero_le _, rfl, rfl⟩
  case round =>
    obtain ⟨k, hk, rfl, rfl⟩ := hrel
    by_cases hlt : k < ls.length
    · obtain ⟨b, o, rfl, hcell⟩ := hc (by omega)
      obtain ⟨u, hu, hbytes⟩ := hcell k hlt
      obtain ⟨bo, cp, rfl, _, hb⟩ := hbytes.cells
      clear hbytes
      have hll := hl _ (List.getElem_mem hlt)
      have HF : Hid (sm (ls.take (k + 1)).flatten = smFrom (sm (ls.take k).flatten) ls[k]) := by rw [flatten_snoc ls k hlt]; exact sm_append _ _
      have hv0 := sm_bd (ls.take k).flatten
      generalize sm (ls.take k).flatten = v0 at *
      generalize ls[k] = l at *
      clear hcell hc
      go_wp2
      go_loop [3, 16] (fun v i => ∃ j : Nat, j ≤ l.length ∧ i = .int .i64 j ∧ v = .int .i64 (smFrom v0 (l.take j))) (fun _ i => l.length - (intOf i).toNat)
      case atStart => exact ⟨0, Nat.zero_le _, rfl, rfl⟩
      case round =>
        obtain ⟨j, hj, rfl, rfl⟩ := hrel
        have hd := smFrom_bd v0 (l.take j) hv0
        by_cases hjl : j < l.length
        · obtain ⟨bb, oo, rfl, hcb⟩ := hb (by omega)
          have hcj := hcb j hjl
          have hbd := byte_bd l[j]
          have HS : Hid (smFrom v0 (l.take (j + 1)) = smStep (smFrom v0 (l.take j)) l[j]) := by rw [take_snoc l j hjl]; exact smFrom_snoc _ _ _
          generalize smFrom v0 (l.take j) = v1 at *
          clear hcb
          go_wp2
          go_round
          case rel => exact ⟨j + 1, by omega, by go_num, by rw [HS.out]; unfold smStep; first | rfl | (refine congrArg (Value.int .i64) ?_; omega)⟩
          case measure => simp [intOf]; omega
        · have HT : Hid (smFrom v0 (l.take j) = smFrom v0 l) := by rw [List.take_of_length_le (by omega)]; exact rfl
          clear hb
          go_wp2
          go_round
          case rel => exact ⟨k + 1, by omega, by go_num, by rw [HF.out, HT.out]⟩
          case measure => simp [intOf]; omega
    · go_wp2
      go_ret
      exact ⟨ret_int (by rw [List.take_of_length_le (by omega)]), rfl⟩

set_option maxHeartbeats 400000 in
theorem sum_any (ls : List (List UInt8)) (v : Value) (w : World) (hv : RowsAt w v ls) (hn : ls.length ≤ 9223372036854775807) (hl : ∀ l ∈ ls, l.length ≤ 9223372036854775807) :
    Calls Try.prog 10 #[v] w fun e w' => e = .returned (.int .i64 (sm ls.flatten)) ∧ w' = w := by
  go_enter Try.func10, Try.ntmps10
  go_wp2_with (go_at_call 29; refine (sumOf_any ls _ _ hv hn hl).mono ?_; rintro e w' ⟨rfl, rfl⟩)
  go_ret
  exact ⟨rfl, rfl⟩
end Go.Proofs.Ytlndinigbppafaa

/-
  Rows that a call made, and what a call leaves as it was: lemmas that name no function of the program.
-/
namespace Go.Proofs.Ytlndinigbppafaa
open Go.RowKit

theorem grown_of_below {w w' : World} (hb : Below w.heap.size w w') : w.grownBy w' none := ⟨hb.os, hb.tape, hb.output, hb.size, fun k hk _ => hb.block k hk⟩
theorem below_step {a u w' : World} (h : Below a.heap.size a u) (hb : Below u.heap.size u w') : Below a.heap.size a w' := h.trans (hb.mono h.size)
theorem cell_keep {W W' : World} {a : Addr} {u : Value} (h : W.cell? a = some u) (hb : Below W.heap.size W W') : W'.cell? a = some u :=
  (hb.cell (World.block_lt_of_cell? W a h)).trans h
theorem owns_below {w w' : World} {base : Nat} {e : TypeId} {size : Nat} {v : Value} {n : Nat} {xs : List Value} (h : w.ownsRow base e size v n xs) (hb : Below w.heap.size w w') : w'.ownsRow base e size v n xs :=
  h.kept (grown_of_below hb) (by cases hv : v.ownBlock <;> simp)
theorem frozen_keep {W W' : World} {a : Addr} {u : Value} (h : W.cell? a = some u) (hz : W.frozen? a = false) (hb : Below W.heap.size W W') : W'.frozen? a = false :=
  (hb.frozen (World.block_lt_of_cell? W a h)).trans hz
theorem Try.infoNode : (Try.prog.info? 100).map (fun i => (i.zero, i.size, i.bytes)) = some (some (.agg #[.int .i64 0, .int .i64 0, .string ByteArray.empty]), 3, 32) := by kernel_rfl
theorem cellsN_length (ns : List PN) : (cellsN ns).length = ns.length * 3 := by
  induction ns with
  | nil => rfl
  | cons x ns ih =>
    have e : cellsN (x :: ns) = [Value.int .i64 x.kind, .int .i64 x.dig, .string x.ev] ++ cellsN ns := by unfold cellsN; rw [List.map_cons, List.flatten_cons]
    rw [e, List.length_append, ih, List.length_cons]; simp; omega
theorem cellsN_append (a b : List PN) : cellsN (a ++ b) = cellsN a ++ cellsN b := by unfold cellsN; rw [List.map_append, List.flatten_append]
theorem cellsN_one (ns : List PN) : ∀ u ∈ cellsN ns, u.oneCell' = true := by
  intro u hu
  unfold cellsN at hu
  obtain ⟨l, hl, hu⟩ := List.mem_flatten.1 hu
  obtain ⟨x, _, rfl⟩ := List.mem_map.1 hl
  simp at hu
  rcases hu with rfl | rfl | rfl <;> rfl
theorem cellsN_get (ns : List PN) (j r : Nat) (hj : j < ns.length) (hr : r < 3) : (cellsN ns)[j * 3 + r]? = [Value.int .i64 ns[j].kind, .int .i64 ns[j].dig, .string ns[j].ev][r]? := by
  induction ns generalizing j with
  | nil => simp at hj
  | cons x ns ih =>
    have e : cellsN (x :: ns) = [Value.int .i64 x.kind, .int .i64 x.dig, .string x.ev] ++ cellsN ns := by unfold cellsN; rw [List.map_cons, List.flatten_cons]
    rw [e]
    cases j with
    | zero =>
      rw [List.getElem?_append_left (by simp; omega)]
      simp
    | succ j =>
      rw [List.getElem?_append_right (by simp; omega)]
      have e2 : (j + 1) * 3 + r - [Value.int .i64 x.kind, .int .i64 x.dig, .string x.ev].length = j * 3 + r := by simp; omega
      rw [e2, ih j (by simpa using hj)]
      rfl
/-- A row of nodes that the call made. -/
theorem NodesAt.of_owns {w : World} {base : Nat} {v : Value} {n : Nat} {ns : List PN} (h : w.ownsRow base 100 3 v n (cellsN ns)) : NodesAt w v ns := by
  have hn : ns.length = n := by have := h.1; rw [cellsN_length] at this; omega
  subst hn
  rcases h.2 with ⟨rfl, h0⟩ | ⟨g, cap, cur, rfl, _, hgg, _, _, _, htake⟩
  · exact ⟨none, 0, by rw [h0], fun _ => rfl, fun hl => by omega⟩
  · refine ⟨_, cap, rfl, fun h => (by cases h), fun _ => ⟨g, 0, cur, _, rfl, hgg, fun j hj => ?_⟩⟩
    have H : ∀ r, r < 3 → cur[j * 3 + r]? = [Value.int .i64 ns[j].kind, .int .i64 ns[j].dig, .string ns[j].ev][r]? := by
      intro r hr
      have h1 := cellsN_get ns j r hj hr
      rw [← htake, List.getElem?_take, if_pos (by omega)] at h1
      simpa using h1
    rw [Nat.zero_add]
    exact ⟨H 0 (by omega), H 1 (by omega), H 2 (by omega)⟩
/-- The cells of nodes, as an append reads them. -/
theorem NodesAt.news {w : World} {ao : Option Addr} {n cap : Nat} {ns : List PN} (h : NodesAt w (.slice ao n cap) ns) (a : Addr) (ha : ao = some a) : ∀ j u, (cellsN ns)[j]? = some u → w.cell? (a.add j) = some u := by
  intro j u hu
  obtain ⟨ao', cap', e, _, hh⟩ := h
  simp only [Value.slice.injEq] at e
  obtain ⟨rfl, rfl, rfl⟩ := e
  have hjl : j < ns.length * 3 := by have := (List.getElem?_eq_some_iff.1 hu).1; rwa [cellsN_length] at this
  obtain ⟨b, o, cur, fr, e, hg, hc⟩ := hh (by omega)
  rw [e] at ha
  cases ha
  rw [show (⟨b, o, none⟩ : Addr).add j = ⟨b, o + j, none⟩ by unfold Addr.add; split <;> simp_all, cell_of_row _ _ _ _ _ _ hg]
  obtain ⟨c0, c1, c2⟩ := hc (j / 3) (by omega)
  have hget := cellsN_get ns (j / 3) (j % 3) (by omega) (by omega)
  rw [show j / 3 * 3 + j % 3 = j by omega, hu] at hget
  have hr : j % 3 = 0 ∨ j % 3 = 1 ∨ j % 3 = 2 := by omega
  rcases hr with hr | hr | hr
  · rw [hr] at hget; rw [show o + j = o + j / 3 * 3 by omega, c0]; exact hget.symm
  · rw [hr] at hget; rw [show o + j = o + j / 3 * 3 + 1 by omega, c1]; exact hget.symm
  · rw [hr] at hget; rw [show o + j = o + j / 3 * 3 + 2 by omega, c2]; exact hget.symm
theorem owns_base {w : World} {base base' : Nat} {e : TypeId} {size : Nat} {v : Value} {n : Nat} {xs : List Value} (h : w.ownsRow base e size v n xs) (hb : base' ≤ base) : w.ownsRow base' e size v n xs := by
  obtain ⟨h1, h2⟩ := h
  refine ⟨h1, ?_⟩
  rcases h2 with h2 | ⟨g, cap, cur, hv, hg, r⟩
  · exact .inl h2
  · exact .inr ⟨g, cap, cur, hv, by omega, r⟩
/-- All blocks but a log's own and its row's are as they were. -/
structure Frame2 (w w' : World) (B : Nat) (row : Option Nat) : Prop where
  os : w'.os = w.os
  tape : w'.tape = w.tape
  output : w'.output = w.output
  size : w.heap.size ≤ w'.heap.size
  block : ∀ k, k < w.heap.size → k ≠ B → some k ≠ row → w'.heap[k]? = w.heap[k]?
theorem Frame2.below {w w' : World} {B b : Nat} {row : Option Nat} (h : Frame2 w w' B row) (hB : b ≤ B) (hr : ∀ k, row = some k → b ≤ k) (hw : b ≤ w.heap.size) : Below b w w' :=
  ⟨h.os, h.tape, h.output, h.size, fun k hk => h.block k (by omega) (by omega) (fun e => by have := hr k e.symm; omega)⟩
theorem owns_frame2 {w w' : World} {B base : Nat} {row : Option Nat} {e : TypeId} {size : Nat} {v : Value} {n : Nat} {xs : List Value} (h : w.ownsRow base e size v n xs) (hF : Frame2 w w' B row) (hB : v.ownBlock ≠ some B) (hr : ∀ g, v.ownBlock = some g → row ≠ some g) : w'.ownsRow base e size v n xs := by
  obtain ⟨h1, h2⟩ := h
  refine ⟨h1, ?_⟩
  rcases h2 with h2 | ⟨g, cap, cur, rfl, hb, hg, r⟩
  · exact .inl h2
  · refine .inr ⟨g, cap, cur, rfl, hb, ?_, r⟩
    rw [hF.block g (lt_of_heap hg) (fun e => hB (by rw [← e]; rfl)) (fun e => hr g rfl e.symm)]
    exact hg
end Go.Proofs.Ytlndinigbppafaa
