/-
  The walk of the document's reader at a node whose first byte is right.
-/
import Derived.Test.YtpdjdaipijjeeaaScanB
namespace Go.Proofs.Ytpdjdaipijjeeaa
open Go.RowKit

/-- A node's value in a block of its own. -/
def NAt (w : World) (H : Nat) (x : PN) : Prop := w.heap[H]? = some (.cells #[.int .i64 x.kind, .int .i64 x.dig, .string x.ev] 100 (0, 0))
theorem NAt.cell {w : World} {H : Nat} {x : PN} (h : NAt w H x) : w.cell? ⟨H, 0, none⟩ = some (.int .i64 x.kind) ∧ w.cell? ⟨H, 1, none⟩ = some (.int .i64 x.dig) ∧ w.cell? ⟨H, 2, none⟩ = some (.string x.ev) := by
  refine ⟨?_, ?_, ?_⟩ <;> (rw [cell_of_row _ _ _ _ _ _ h]; rfl)
theorem NAt.frozen {w : World} {H : Nat} {x : PN} (h : NAt w H x) (j : Nat) : w.frozen? ⟨H, j, none⟩ = false := by
  unfold World.frozen?; rw [h]; simp
theorem NAt.frame {w w' : World} {H B : Nat} {row : Option Nat} {x : PN} (h : NAt w H x) (hF : Frame2 w w' B row) (hB : H ≠ B) (hr : some H ≠ row) : NAt w' H x := by
  unfold NAt; rw [hF.block H (lt_of_heap h) hB hr]; exact h
theorem NAt.below {w w' : World} {H : Nat} {x : PN} (h : NAt w H x) (hb : Below w.heap.size w w') : NAt w' H x := by
  unfold NAt; rw [hb.block H (lt_of_heap h)]; exact h
theorem NAt.set1 {w : World} {H : Nat} {x : PN} (h : NAt w H x) (g : Int) : NAt (w.setCell ⟨H, 1, none⟩ (.int .i64 g)) H ⟨x.kind, g, x.ev⟩ := by
  unfold NAt at h ⊢; simp [World.setCell, Array.getElem?_modify, h]
theorem NAt.set2 {w : World} {H : Nat} {x : PN} (h : NAt w H x) (t : ByteArray) : NAt (w.setCell ⟨H, 2, none⟩ (.string t)) H ⟨x.kind, x.dig, t⟩ := by
  unfold NAt at h ⊢; simp [World.setCell, Array.getElem?_modify, h]
theorem ScanAt.setFar {w : World} {b0 B : Nat} {s : ByteArray} {a e q : Int} {V : Value} {ns : List PN} (h : ScanAt w b0 B s a e q V ns) (H j : Nat) (u : Value) (hB : H ≠ B) (hr : V.ownBlock ≠ some H) : ScanAt (w.setCell ⟨H, j, none⟩ u) b0 B s a e q V ns :=
  ⟨h.1, by rw [Below.heap_setCell _ _ _ _ (show B ≠ H from fun e => hB e.symm)]; exact h.2.1, ownsRow_setCell_other h.2.2 hr _⟩
theorem ScanAt.row_lt {w : World} {b0 B : Nat} {s : ByteArray} {a e q : Int} {V : Value} {ns : List PN} (h : ScanAt w b0 B s a e q V ns) : ∀ g, V.ownBlock = some g → g < w.heap.size ∧ b0 ≤ g := by
  intro g hg
  rcases h.2.2.2 with ⟨rfl, _⟩ | ⟨g', cap, cur, rfl, hb, hgg, _⟩
  · simp [Value.ownBlock] at hg
  · simp [Value.ownBlock] at hg
    subst hg
    exact ⟨lt_of_heap hgg, hb⟩

/-- A store into a block that is neither. -/
theorem Frame2.put {w w' : World} {B H j : Nat} {u : Value} (h : Frame2 w w' B none) : Frame2 w (w'.setCell ⟨H, j, none⟩ u) B (some H) :=
  ⟨h.os, h.tape, h.output, by simpa [World.setCell] using h.size, fun k hk hB hr => by rw [Below.heap_setCell _ _ _ _ (show k ≠ H from fun e => hr (by rw [e]))]; exact h.block k hk hB (by simp)⟩
/-- The cells of one of its nodes. -/
theorem ScanAt.at {w : World} {b0 B : Nat} {s : ByteArray} {a e q : Int} {V : Value} {ns : List PN} (h : ScanAt w b0 B s a e q V ns) (g n cap : Nat) (hV : V = .slice (some ⟨g, 0, none⟩) n cap) (i : Nat) (hi : i < ns.length) :
    (∃ u, w.cell? ⟨g, i * 3, none⟩ = some u) ∧ (∃ u, w.cell? ⟨g, i * 3 + 1, none⟩ = some u) ∧ (∃ u, w.cell? ⟨g, i * 3 + 2, none⟩ = some u) ∧ (∀ j, w.frozen? ⟨g, j, none⟩ = false) := by
  subst hV
  rcases h.2.2.2 with ⟨hx, _⟩ | ⟨g', cap', cur, hx, _, hgg, hle, _, hsz, _⟩
  · cases hx
  · simp only [Value.slice.injEq, Option.some.injEq, Addr.mk.injEq] at hx
    obtain ⟨⟨rfl, _, _⟩, _, rfl⟩ := hx
    rw [cell_of_row _ _ _ _ _ _ hgg, cell_of_row _ _ _ _ _ _ hgg, cell_of_row _ _ _ _ _ _ hgg]
    have hc : ∀ j, j < cur.size → ∃ u, cur[j]? = some u := fun j hj => ⟨_, Array.getElem?_eq_getElem hj⟩
    have h3 : i * 3 + 2 < cur.size := by rw [hsz]; omega
    exact ⟨hc _ (by omega), hc _ (by omega), hc _ h3, fun j => by unfold World.frozen?; rw [hgg]; simp⟩

theorem cellsN_cons (x : PN) (ns : List PN) : cellsN (x :: ns) = .int .i64 x.kind :: .int .i64 x.dig :: .string x.ev :: cellsN ns := by
  unfold cellsN; rw [List.map_cons, List.flatten_cons]; rfl
theorem cellsN_set (ns : List PN) (i : Nat) (x : PN) (hi : i < ns.length) : cellsN (ns.set i x) = (((cellsN ns).set (i * 3) (.int .i64 x.kind)).set (i * 3 + 1) (.int .i64 x.dig)).set (i * 3 + 2) (.string x.ev) := by
  induction ns generalizing i with
  | nil => simp at hi
  | cons y ns ih =>
    cases i with
    | zero => rw [List.set_cons_zero, cellsN_cons, cellsN_cons]; rfl
    | succ i =>
      rw [List.set_cons_succ, cellsN_cons, cellsN_cons, ih i (by simpa using hi)]
      rw [show (i + 1) * 3 = i * 3 + 1 + 1 + 1 by omega]
      simp only [List.set_cons_succ]
/-- A node is written over. -/
theorem scan_put {w : World} {b0 B g n cap : Nat} {s : ByteArray} {a e q : Int} {ns : List PN} (h : ScanAt w b0 B s a e q (.slice (some ⟨g, 0, none⟩) n cap) ns) (x : PN) (i : Nat) (hi : i < ns.length) :
    ScanAt (((w.setCell ⟨g, i * 3, none⟩ (.int .i64 x.kind)).setCell ⟨g, i * 3 + 1, none⟩ (.int .i64 x.dig)).setCell ⟨g, i * 3 + 2, none⟩ (.string x.ev)).drew b0 B s a e q (.slice (some ⟨g, 0, none⟩) n cap) (ns.set i x) ∧
    Frame2 w (((w.setCell ⟨g, i * 3, none⟩ (.int .i64 x.kind)).setCell ⟨g, i * 3 + 1, none⟩ (.int .i64 x.dig)).setCell ⟨g, i * 3 + 2, none⟩ (.string x.ev)).drew B (some g) := by
  have hne := h.row_ne
  have hgB : B ≠ g := fun e => hne (by rw [e]; rfl)
  have hot : ∀ k, k ≠ g → (((w.setCell ⟨g, i * 3, none⟩ (.int .i64 x.kind)).setCell ⟨g, i * 3 + 1, none⟩ (.int .i64 x.dig)).setCell ⟨g, i * 3 + 2, none⟩ (.string x.ev)).drew.heap[k]? = w.heap[k]? := fun k hk => by
    show (((w.setCell ⟨g, i * 3, none⟩ (.int .i64 x.kind)).setCell ⟨g, i * 3 + 1, none⟩ (.int .i64 x.dig)).setCell ⟨g, i * 3 + 2, none⟩ (.string x.ev)).heap[k]? = w.heap[k]?
    rw [Below.heap_setCell _ _ _ _ hk, Below.heap_setCell _ _ _ _ hk, Below.heap_setCell _ _ _ _ hk]
  refine ⟨⟨h.1, by rw [hot B hgB]; exact h.2.1, ?_⟩, ⟨rfl, rfl, rfl, by simp [World.setCell], fun k _ _ hr => hot k (fun e => hr (by rw [e]))⟩⟩
  obtain ⟨h1, h2⟩ := h.2.2
  refine ⟨by rw [cellsN_length, List.length_set], ?_⟩
  rcases h2 with ⟨hx, _⟩ | ⟨g', cap', cur, hx, hb, hgg, hle, hmax, hsz, htake⟩
  · cases hx
  · simp only [Value.slice.injEq, Option.some.injEq, Addr.mk.injEq] at hx
    obtain ⟨⟨rfl, _, _⟩, rfl, rfl⟩ := hx
    refine .inr ⟨g, cap, ((cur.setIfInBounds (i * 3) (.int .i64 x.kind)).setIfInBounds (i * 3 + 1) (.int .i64 x.dig)).setIfInBounds (i * 3 + 2) (.string x.ev), ?_, hb, ?_, ?_, hmax, by simpa using hsz, ?_⟩
    · rw [List.length_set]
    · show (((w.setCell ⟨g, i * 3, none⟩ (.int .i64 x.kind)).setCell ⟨g, i * 3 + 1, none⟩ (.int .i64 x.dig)).setCell ⟨g, i * 3 + 2, none⟩ (.string x.ev)).heap[g]? = _
      simp [World.setCell, Array.getElem?_modify, hgg]
    · rw [List.length_set]; exact hle
    · rw [cellsN_set ns i x hi, ← htake, List.length_set]
      simp only [Array.toList_setIfInBounds, List.take_set]

theorem set_last (ns : List PN) (x y : PN) : (ns ++ [x]).set ns.length y = ns ++ [y] := by simp
/-- The frames of a node's walk, one behind the other. -/
theorem Frame2.close {w w3 w5 w7 w8 : World} {B H g n cap : Nat} {V : Value} (hF3 : Frame2 w w3 B none) (hK5 : Kept w3 w5 B V (.slice (some ⟨g, 0, none⟩) n cap)) (hF7 : Frame2 w5 w7 B (some H)) (hF8 : Frame2 w7 w8 B (some g)) (hH : w.heap.size ≤ H) : Kept w w8 B V (.slice (some ⟨g, 0, none⟩) n cap) := by
  obtain ⟨hF5, hat⟩ := hK5
  have hr : V.ownBlock = some g ∨ w3.heap.size ≤ g := by
    rcases hat with e | ⟨g', e, hg'⟩
    · left; rw [← e]; rfl
    · right; simp [Value.ownBlock] at e; omega
  refine ⟨⟨hF8.os.trans (hF7.os.trans (hF5.os.trans hF3.os)), hF8.tape.trans (hF7.tape.trans (hF5.tape.trans hF3.tape)), hF8.output.trans (hF7.output.trans (hF5.output.trans hF3.output)), ?_, fun k hk hkB hkr => ?_⟩, ?_⟩
  · exact Nat.le_trans hF3.size (Nat.le_trans hF5.size (Nat.le_trans hF7.size hF8.size))
  · have s3 := hF3.size
    have s5 := hF5.size
    have s7 := hF7.size
    rw [hF8.block k (by omega) hkB (fun e => ?_), hF7.block k (by omega) hkB (fun e => by cases e; omega), hF5.block k (by omega) hkB hkr, hF3.block k hk hkB (by simp)]
    cases e
    rcases hr with hr | hr
    · exact hkr hr.symm
    · omega
  · rcases hat with e | ⟨g', e, hg'⟩
    · exact .inl e
    · exact .inr ⟨g', e, Nat.le_trans hF3.size hg'⟩

/-- What is left behind an append. -/
theorem scan_appended {w3 w4 : World} {b0 B g cap2 : Nat} {s : ByteArray} {a e q : Int} {V : Value} {ns : List PN} {x : PN} {X : Obj} (h : ScanAt w3 b0 B s a e q V ns)
    (hown : w4.ownsRow b0 100 3 (.slice (some ⟨g, 0, none⟩) (ns.length + 1) cap2) (ns.length + 1) (cellsN ns ++ cellsN [x])) (hgrow : (w3.drew.alloc X).grownBy w4 V.ownBlock) (hat : V.ownBlock = some g ∨ g = (w3.drew.alloc X).heap.size) :
    ScanAt (w4.setCell ⟨B, 4, none⟩ (.slice (some ⟨g, 0, none⟩) (ns.length + 1) cap2)) b0 B s a e q (.slice (some ⟨g, 0, none⟩) (ns.length + 1) cap2) (ns ++ [x]) ∧ Kept w3 (w4.setCell ⟨B, 4, none⟩ (.slice (some ⟨g, 0, none⟩) (ns.length + 1) cap2)) B V (.slice (some ⟨g, 0, none⟩) (ns.length + 1) cap2) := by
  have hne := h.row_ne
  have hBlt := lt_of_heap h.2.1
  have hgB : g ≠ B := by
    rcases hat with hat | hat
    · intro e; rw [hat, e] at hne; exact hne rfl
    · rw [hat]; simp; omega
  have hB2 : w4.heap[B]? = some (.cells #[.string s, .int .i64 a, .int .i64 e, .int .i64 q, V] 96 (0, 0)) := by
    rw [hgrow.block B (by simp; omega) (fun e => hne e.symm), Below.heap_alloc _ _ _ (by simp; omega)]
    exact h.2.1
  have hother : ∀ k, k ≠ B → (w4.setCell ⟨B, 4, none⟩ (.slice (some ⟨g, 0, none⟩) (ns.length + 1) cap2)).heap[k]? = w4.heap[k]? := fun k hk => Below.heap_setCell _ _ _ _ hk
  refine ⟨⟨h.1, ?_, ?_⟩, ⟨?_, ?_, ?_, ?_, fun k hk hkB hkr => ?_⟩, ?_⟩
  · simp [World.setCell, Array.getElem?_modify, hB2]
  · rw [List.length_append, cellsN_append]
    exact ownsRow_setCell_other hown (by simpa [Value.ownBlock] using hgB) _
  · exact hgrow.os
  · exact hgrow.tape
  · exact hgrow.output
  · have := hgrow.size
    simp at this
    simp [World.setCell]
    omega
  · rw [hother k hkB, hgrow.block k (by simp; omega) hkr, Below.heap_alloc _ _ _ (by simpa using hk)]
    rfl
  · rcases hat with h | h
    · left; rw [h]; rfl
    · right; refine ⟨g, rfl, ?_⟩; rw [h]; simp

set_option maxRecDepth 100000 in
set_option maxHeartbeats 1000000 in
theorem node_stub (w : World) (b0 B : Nat) (s : ByteArray) (a : Nat) (q : Int) (V : Value) (ns : List PN) (k M N R : Int) (T : Value) (p d : Nat) (h : ScanAt w b0 B s a 0 q V ns) (ha : a < s.size) (hk : (s[a].toNat : Int) = 0) (hk2 : kindOf k M N p d = 0) (hs : s.size ≤ 4000) (hd : d ≤ 16) (hp : p ≤ 1000000) (hn : ns.length ≤ 100000) (hb0 : b0 ≤ w.heap.size) :
    Calls Try.prog 59 #[.pointer (some ⟨B, 0, none⟩), .agg #[.int .i64 k, .int .i64 M, .int .i64 N, .int .i64 R, T], .int .i64 p, .int .i64 d] w fun r w' => r = .returned (.tuple #[]) ∧
      ∃ V', ScanAt w' b0 B s (nuA s (a + 1) 0) (nuE s (a + 1) 0) (nuQ s (a + 1) 0 q) V' (ns ++ [⟨0, nuR s (a + 1) 0, ByteArray.empty⟩]) ∧ Kept w w' B V V' := by
  obtain ⟨i0, hi, hz0, hz1, hz2⟩ := info_parts Try.infoNode
  obtain ⟨c0, c1, c2, c3, c4⟩ := h.cell
  have hB := lt_of_heap h.2.1
  have hA : Below w.heap.size w (w.alloc (.cells #[.int .i64 k, .int .i64 M, .int .i64 N, .int .i64 R, T] 42)) := (Below.refl _ _).alloc (Nat.le_refl _) _
  go_enter Try.func59, Try.ntmps59
  go_wp2_with fail
  refine (next_ok _ _ _ _ _ _ _ _ (h.below hA) ha hs).mono ?_
  rintro r w1 ⟨rfl, h1, hF1⟩
  obtain ⟨m0, m1, m2, m3, m4⟩ := msg_frame (msg_new w k M N R T) hF1 (by omega) (by simp)
  have hF := (Frame2.of_below B none hA).trans hF1
  clear hA hF1
  obtain ⟨d0, d1, d2, d3, d4⟩ := h1.cell
  rw [hk]
  go_wp2_with fail
  refine (kind_any k M N R T p d w1 hd hp).mono ?_
  rintro r w2 ⟨rfl, hb2⟩
  rw [hk2]
  have h2 := h1.below hb2
  obtain ⟨f0, f1, f2, f3, f4⟩ := h2.cell
  obtain ⟨ao, cap, rfl, _⟩ := id (NodesAt.of_owns h2.2.2)
  have hB2 := lt_of_heap h2.2.1
  go_wp2
  have h3 := h2.below ((Below.refl _ _).alloc (Nat.le_refl _) (.cells #[.int .i64 0, .int .i64 0, .string ⟨#[]⟩] 100))
  have hN3 : NAt (w2.alloc (.cells #[.int .i64 0, .int .i64 0, .string ⟨#[]⟩] 100)) w2.heap.size ⟨0, 0, ⟨#[]⟩⟩ := heap_alloc_new _ _
  have hF3 := (hF.then hb2).then ((Below.refl _ _).alloc (Nat.le_refl _) (.cells #[.int .i64 0, .int .i64 0, .string ⟨#[]⟩] 100))
  have hVH : (Value.slice ao ns.length cap).ownBlock ≠ some w2.heap.size := fun x => by have := (h2.row_lt _ x).1; omega
  have hHw : w.heap.size ≤ w2.heap.size := (hF.then hb2).size
  generalize (w2.alloc (.cells #[.int .i64 0, .int .i64 0, .string ⟨#[]⟩] 100)) = w3 at *
  generalize w2.heap.size = H at *
  have hH3 := lt_of_heap hN3
  have c3' := h3.cell
  obtain ⟨g0, g1, g2, g3, g4⟩ := c3'
  obtain ⟨n0, n1, n2⟩ := hN3.cell
  have hne := h3.row_ne
  have hB3 := lt_of_heap h3.2.1
  clear c0 c1 c2 c3 c4 m0 m1 m2 m3 m4 d0 d1 d2 d3 d4 f0 f1 f2 f3 f4 hF hb2 h1 h2
  go_region_law (first
    | (refine step_append_lies _ rfl (.tmp 53) (.tmp 55) 40 rfl b0 100 i0 (.agg #[.int .i64 0, .int .i64 0, .string ByteArray.empty]) 3 32 Try.underlying40 hi hz0 hz1 hz2 rfl (by decide) (.slice ao ns.length cap) ns.length (cellsN ns) (by simp [Act.eval]) (h3.below ((Below.refl _ _).drew) |>.2.2.alloc _) ⟨w3.heap.size, 0, none⟩ 1 1 (cellsN [⟨0, 0, ⟨#[]⟩⟩]) (by simp [Act.eval]) rfl (World.news_of_block (heap_alloc_new w3.drew _)) (cellsN_one _) (by decide) (by unfold maxLen; omega) (by omega) (by simp; omega) _ rfl ?_; intro gg cap2 w4 hown4 hgrow4 hat4 hlt4; have c4 : w4.cell? ⟨B, 4, none⟩ = some (.slice ao ns.length cap) := (hgrow4.cell_far ⟨B, 4, none⟩ (by simp; omega) (fun e => hne e.symm)).trans (cell_keep g4 ((Below.refl _ _).drew.alloc (Nat.le_refl _) _)); have z4 : w4.frozen? ⟨B, 4, none⟩ = false := (hgrow4.frozen_far ⟨B, 4, none⟩ (by simp; omega) (fun e => hne e.symm)).trans (frozen_keep g4 (h3.frozen 4) ((Below.refl _ _).drew.alloc (Nat.le_refl _) _))))
  all_goals
    obtain ⟨h5, hK5⟩ := scan_appended (x := ⟨0, 0, ⟨#[]⟩⟩) h3 hown4 hgrow4 hat4
    have hN5 : NAt (w4.setCell ⟨B, 4, none⟩ (.slice (some ⟨gg, 0, none⟩) (ns.length + 1) cap2)) H ⟨0, 0, ⟨#[]⟩⟩ := hN3.frame hK5.1 (by omega) (fun e => hVH e.symm)
    have hVH5 : (Value.slice (some ⟨gg, 0, none⟩) (ns.length + 1) cap2).ownBlock ≠ some H := by
      rcases hK5.2 with e | ⟨g', e, hg'⟩
      · rw [e]; exact hVH
      · rw [e]; intro x; cases x; omega
    have hlt5 : H < (w4.setCell ⟨B, 4, none⟩ (.slice (some ⟨gg, 0, none⟩) (ns.length + 1) cap2)).heap.size := lt_of_heap hN5
    clear hown4 hgrow4 hat4 c4 z4 g0 g1 g2 g3 g4 n0 n1 n2 hne hlt4
    generalize w4.setCell ⟨B, 4, none⟩ (.slice (some ⟨gg, 0, none⟩) (ns.length + 1) cap2) = w5 at *
    have hB5 := lt_of_heap h5.2.1
    obtain ⟨c0, c1, c2, c3, c4⟩ := h5.cell
    obtain ⟨n0, n1, n2⟩ := hN5.cell
  all_goals
    go_wp2_with (go_at_call 58; refine (number_any _ _ _ _ _ _ _ _ _ h5 hs).mono ?_; rintro r w6 ⟨rfl, h6, hF6⟩; have hN6 : NAt w6 H ⟨0, 0, ⟨#[]⟩⟩ := hN5.frame hF6 (by omega) (by simp); have z6 := hN6.frozen 1; obtain ⟨e0, e1, e2⟩ := hN6.cell; have hH6 := lt_of_heap hN6)
  all_goals
    have h7 := h6.setFar H 1 (.int .i64 (nuR s (a + 1) 0)) (by omega) hVH5
    have hN7 := hN6.set1 (nuR s (a + 1) 0)
    have hF7 : Frame2 w5 (w6.setCell ⟨H, 1, none⟩ (.int .i64 (nuR s (a + 1) 0))) B (some H) := hF6.put
    clear h6 hN6 hF6 z6 e0 e1 e2 hH6 c0 c1 c2 c3 c4 n0 n1 n2
    generalize w6.setCell ⟨H, 1, none⟩ (.int .i64 (nuR s (a + 1) 0)) = w7 at *
    obtain ⟨c0, c1, c2, c3, c4⟩ := h7.cell
    obtain ⟨n0, n1, n2⟩ := hN7.cell
    obtain ⟨⟨u0, p0⟩, ⟨u1, p1⟩, ⟨u2, p2⟩, pz⟩ := h7.at gg (ns.length + 1) cap2 rfl ns.length (by simp)
    have z0 := pz (ns.length * 3)
    have z1 := pz (ns.length * 3 + 1)
    have z2 := pz (ns.length * 3 + 2)
  all_goals go_region
  all_goals
    obtain ⟨h8, hF8⟩ := scan_put h7 ⟨0, nuR s (a + 1) 0, ⟨#[]⟩⟩ ns.length (by simp)
    rw [set_last] at h8
  all_goals go_returns
  all_goals exact ⟨rfl, _, h8, hF3.close hK5 hF7 hF8 hHw⟩
end Go.Proofs.Ytpdjdaipijjeeaa
