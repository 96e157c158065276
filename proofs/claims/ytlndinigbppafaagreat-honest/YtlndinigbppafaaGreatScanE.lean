/-
  The walk of the document's reader at an event: what is there, and what is not.
-/
import Derived.Test.YtlndinigbppafaaGreatScanD
namespace Go.Proofs.YtlndinigbppafaaGreat
open Go.RowKit

theorem NAt.setFar {w : World} {H B j : Nat} {x : PN} {u : Value} (h : NAt w H x) (hB : H ≠ B) : NAt (w.setCell ⟨B, j, none⟩ u) H x := by
  unfold NAt; rw [Below.heap_setCell _ _ _ _ hB]; exact h

set_option maxRecDepth 100000 in
set_option maxHeartbeats 1000000 in
theorem leaf_short2 (w : World) (b0 B : Nat) (s : ByteArray) (a : Nat) (q : Int) (V : Value) (ns : List PN) (k M N R : Int) (T : Value) (p d : Nat) (h : ScanAt w b0 B s a 0 q V ns) (ha : a < s.size) (hk : (s[a].toNat : Int) = 1) (hk2 : kindOf k M N p d = 1) (hs : s.size ≤ 4000) (hd : d ≤ 16) (hp : p ≤ 1000000) (hn : ns.length ≤ 100000) (hb0 : b0 ≤ w.heap.size) (hz : a + 1 < s.size) (hl : s[a + 1].toNat ≤ 50) (hq : s.size < a + 2 + s[a + 1].toNat) :
    Calls Tryz.prog 104 #[.pointer (some ⟨B, 0, none⟩), .agg #[.int .i64 k, .int .i64 M, .int .i64 N, .int .i64 R, T], .int .i64 p, .int .i64 d] w fun r w' => r = .returned (.tuple #[]) ∧
      ∃ V', ScanAt w' b0 B s (a + 2 : Nat) 5 s.size V' (ns ++ [⟨1, 0, ByteArray.empty⟩]) ∧ Kept w w' B V V' := by
  obtain ⟨i0, hi, hz0, hz1, hz2⟩ := info_parts Tryz.infoNode
  obtain ⟨c0, c1, c2, c3, c4⟩ := h.cell
  have hB := lt_of_heap h.2.1
  have hA : Below w.heap.size w (w.alloc (.cells #[.int .i64 k, .int .i64 M, .int .i64 N, .int .i64 R, T] 63)) := (Below.refl _ _).alloc (Nat.le_refl _) _
  go_enter Tryz.func104, Tryz.ntmps104
  go_wp2_with fail
  refine (next_ok _ _ _ _ _ _ _ _ (h.below hA) ha hs).mono ?_
  rintro r w1 ⟨rfl, h1, hF1⟩
  obtain ⟨m0, m1, m2, m3, m4⟩ := msg_frame (msg_new w k M N R T) hF1 (by omega) (by simp)
  have hF := (Frame2.of_below B none hA).trans hF1
  clear hA hF1
  obtain ⟨d0, d1, d2, d3, d4⟩ := h1.cell
  rw [hk]
  go_wp2_with fail
  refine (kind_any k M N R T p d w1 hd hp).mono ?_
  rintro r w2 ⟨rfl, hb2⟩
  rw [hk2]
  have h2 := h1.below hb2
  obtain ⟨f0, f1, f2, f3, f4⟩ := h2.cell
  obtain ⟨ao, cap, rfl, _⟩ := id (NodesAt.of_owns h2.2.2)
  have hB2 := lt_of_heap h2.2.1
  go_wp2
  have h3 := h2.below ((Below.refl _ _).alloc (Nat.le_refl _) (.cells #[.int .i64 1, .int .i64 0, .string ⟨#[]⟩] 116))
  have hN3 : NAt (w2.alloc (.cells #[.int .i64 1, .int .i64 0, .string ⟨#[]⟩] 116)) w2.heap.size ⟨1, 0, ⟨#[]⟩⟩ := heap_alloc_new _ _
  have hF3 := (hF.then hb2).then ((Below.refl _ _).alloc (Nat.le_refl _) (.cells #[.int .i64 1, .int .i64 0, .string ⟨#[]⟩] 116))
  have hVH : (Value.slice ao ns.length cap).ownBlock ≠ some w2.heap.size := fun x => by have := (h2.row_lt _ x).1; omega
  have hHw : w.heap.size ≤ w2.heap.size := (hF.then hb2).size
  generalize (w2.alloc (.cells #[.int .i64 1, .int .i64 0, .string ⟨#[]⟩] 116)) = w3 at *
  generalize w2.heap.size = H at *
  have hH3 := lt_of_heap hN3
  have c3' := h3.cell
  obtain ⟨g0, g1, g2, g3, g4⟩ := c3'
  obtain ⟨n0, n1, n2⟩ := hN3.cell
  have hne := h3.row_ne
  have hB3 := lt_of_heap h3.2.1
  clear c0 c1 c2 c3 c4 m0 m1 m2 m3 m4 d0 d1 d2 d3 d4 f0 f1 f2 f3 f4 hF hb2 h1 h2
  go_region_law (first
    | (refine step_append_lies _ rfl (.tmp 53) (.tmp 55) 61 rfl b0 116 i0 (.agg #[.int .i64 0, .int .i64 0, .string ByteArray.empty]) 3 32 Tryz.underlying61 hi hz0 hz1 hz2 rfl (by decide) (.slice ao ns.length cap) ns.length (cellsN ns) (by simp [Act.eval]) (h3.below ((Below.refl _ _).drew) |>.2.2.alloc _) ⟨w3.heap.size, 0, none⟩ 1 1 (cellsN [⟨1, 0, ⟨#[]⟩⟩]) (by simp [Act.eval]) rfl (World.news_of_block (heap_alloc_new w3.drew _)) (cellsN_one _) (by decide) (by unfold maxLen; omega) (by omega) (by simp; omega) _ rfl ?_; intro gg cap2 w4 hown4 hgrow4 hat4 hlt4; have c4 : w4.cell? ⟨B, 4, none⟩ = some (.slice ao ns.length cap) := (hgrow4.cell_far ⟨B, 4, none⟩ (by simp; omega) (fun e => hne e.symm)).trans (cell_keep g4 ((Below.refl _ _).drew.alloc (Nat.le_refl _) _)); have z4 : w4.frozen? ⟨B, 4, none⟩ = false := (hgrow4.frozen_far ⟨B, 4, none⟩ (by simp; omega) (fun e => hne e.symm)).trans (frozen_keep g4 (h3.frozen 4) ((Below.refl _ _).drew.alloc (Nat.le_refl _) _))))
  all_goals
    obtain ⟨h5, hK5⟩ := scan_appended (x := ⟨1, 0, ⟨#[]⟩⟩) h3 hown4 hgrow4 hat4
    have hN5 : NAt (w4.setCell ⟨B, 4, none⟩ (.slice (some ⟨gg, 0, none⟩) (ns.length + 1) cap2)) H ⟨1, 0, ⟨#[]⟩⟩ := hN3.frame hK5.1 (by omega) (fun e => hVH e.symm)
    have hVH5 : (Value.slice (some ⟨gg, 0, none⟩) (ns.length + 1) cap2).ownBlock ≠ some H := by
      rcases hK5.2 with e | ⟨g', e, hg'⟩
      · rw [e]; exact hVH
      · rw [e]; intro x; cases x; omega
    have hlt5 : H < (w4.setCell ⟨B, 4, none⟩ (.slice (some ⟨gg, 0, none⟩) (ns.length + 1) cap2)).heap.size := lt_of_heap hN5
    clear hown4 hgrow4 hat4 c4 z4 g0 g1 g2 g3 g4 n0 n1 n2 hne hlt4
    generalize w4.setCell ⟨B, 4, none⟩ (.slice (some ⟨gg, 0, none⟩) (ns.length + 1) cap2) = w5 at *
    have hB5 := lt_of_heap h5.2.1
    obtain ⟨c0, c1, c2, c3, c4⟩ := h5.cell
    obtain ⟨n0, n1, n2⟩ := hN5.cell
  all_goals
    go_wp2_with (go_at_call 101; refine (next_ok _ _ _ _ _ _ _ _ h5 hz hs).mono ?_; rintro r w6 ⟨rfl, h6, hF6⟩; have hN6 : NAt w6 H ⟨1, 0, ⟨#[]⟩⟩ := hN5.frame hF6 (by omega) (by simp); obtain ⟨v0, v1, v2, v3, v4⟩ := h6.cell; obtain ⟨e0, e1, e2⟩ := hN6.cell; have hH6 := lt_of_heap hN6)
  all_goals go_quiet (fail)
  all_goals
    go_wp2_with (go_at_call 102; refine (no_first _ _ _ _ _ _ _ _ 5 s.size (h6.below (below_qn w6 nq))).mono ?_; rintro r w9 ⟨rfl, h9, hF9⟩; have hN9 : NAt w9 H ⟨1, 0, ⟨#[]⟩⟩ := (hN6.below (below_qn w6 nq)).frame hF9 (by omega) (by simp); obtain ⟨x0, x1, x2, x3, x4⟩ := h9.cell; obtain ⟨y0, y1, y2⟩ := hN9.cell; have hH9 := lt_of_heap hN9)
  all_goals
    have h7 := h9
    have hN7 := hN9
    have hF7 : Frame2 w5 (w9) B (some H) := ((hF6.then (below_qn w6 nq)).trans hF9).some H
    clear h6 hN6 hF6 v0 v1 v2 v3 v4 e0 e1 e2 hH6 c0 c1 c2 c3 c4 n0 n1 n2 x0 x1 x2 x3 x4 y0 y1 y2 hH9
    obtain ⟨c0, c1, c2, c3, c4⟩ := h7.cell
    obtain ⟨n0, n1, n2⟩ := hN7.cell
    obtain ⟨⟨u0, p0⟩, ⟨u1, p1⟩, ⟨u2, p2⟩, pz⟩ := h7.at gg (ns.length + 1) cap2 rfl ns.length (by simp)
    have z0 := pz (ns.length * 3)
    have z1 := pz (ns.length * 3 + 1)
    have z2 := pz (ns.length * 3 + 2)
  all_goals go_region
  all_goals
    obtain ⟨h8, hF8⟩ := scan_put h7 ⟨1, 0, ⟨#[]⟩⟩ ns.length (by simp)
    rw [set_last] at h8
  all_goals go_returns
  all_goals exact ⟨rfl, _, h8, hF3.close hK5 hF7 hF8 hHw⟩

set_option maxRecDepth 100000 in
set_option maxHeartbeats 1000000 in
theorem leaf_ok (w : World) (b0 B : Nat) (s : ByteArray) (a : Nat) (q : Int) (V : Value) (ns : List PN) (k M N R : Int) (T : Value) (p d : Nat) (h : ScanAt w b0 B s a 0 q V ns) (ha : a < s.size) (hk : (s[a].toNat : Int) = 1) (hk2 : kindOf k M N p d = 1) (hs : s.size ≤ 4000) (hd : d ≤ 16) (hp : p ≤ 1000000) (hn : ns.length ≤ 100000) (hb0 : b0 ≤ w.heap.size) (hz : a + 1 < s.size) (hl : s[a + 1].toNat ≤ 50) (hq : a + 2 + s[a + 1].toNat ≤ s.size) :
    Calls Tryz.prog 104 #[.pointer (some ⟨B, 0, none⟩), .agg #[.int .i64 k, .int .i64 M, .int .i64 N, .int .i64 R, T], .int .i64 p, .int .i64 d] w fun r w' => r = .returned (.tuple #[]) ∧
      ∃ V', ScanAt w' b0 B s (a + 2 + s[a + 1].toNat : Nat) 0 q V' (ns ++ [⟨1, 0, s.extract (a + 2) (a + 2 + s[a + 1].toNat)⟩]) ∧ Kept w w' B V V' := by
  obtain ⟨i0, hi, hz0, hz1, hz2⟩ := info_parts Tryz.infoNode
  obtain ⟨c0, c1, c2, c3, c4⟩ := h.cell
  have hB := lt_of_heap h.2.1
  have hA : Below w.heap.size w (w.alloc (.cells #[.int .i64 k, .int .i64 M, .int .i64 N, .int .i64 R, T] 63)) := (Below.refl _ _).alloc (Nat.le_refl _) _
  go_enter Tryz.func104, Tryz.ntmps104
  go_wp2_with fail
  refine (next_ok _ _ _ _ _ _ _ _ (h.below hA) ha hs).mono ?_
  rintro r w1 ⟨rfl, h1, hF1⟩
  obtain ⟨m0, m1, m2, m3, m4⟩ := msg_frame (msg_new w k M N R T) hF1 (by omega) (by simp)
  have hF := (Frame2.of_below B none hA).trans hF1
  clear hA hF1
  obtain ⟨d0, d1, d2, d3, d4⟩ := h1.cell
  rw [hk]
  go_wp2_with fail
  refine (kind_any k M N R T p d w1 hd hp).mono ?_
  rintro r w2 ⟨rfl, hb2⟩
  rw [hk2]
  have h2 := h1.below hb2
  obtain ⟨f0, f1, f2, f3, f4⟩ := h2.cell
  obtain ⟨ao, cap, rfl, _⟩ := id (NodesAt.of_owns h2.2.2)
  have hB2 := lt_of_heap h2.2.1
  go_wp2
  have h3 := h2.below ((Below.refl _ _).alloc (Nat.le_refl _) (.cells #[.int .i64 1, .int .i64 0, .string ⟨#[]⟩] 116))
  have hN3 : NAt (w2.alloc (.cells #[.int .i64 1, .int .i64 0, .string ⟨#[]⟩] 116)) w2.heap.size ⟨1, 0, ⟨#[]⟩⟩ := heap_alloc_new _ _
  have hF3 := (hF.then hb2).then ((Below.refl _ _).alloc (Nat.le_refl _) (.cells #[.int .i64 1, .int .i64 0, .string ⟨#[]⟩] 116))
  have hVH : (Value.slice ao ns.length cap).ownBlock ≠ some w2.heap.size := fun x => by have := (h2.row_lt _ x).1; omega
  have hHw : w.heap.size ≤ w2.heap.size := (hF.then hb2).size
  generalize (w2.alloc (.cells #[.int .i64 1, .int .i64 0, .string ⟨#[]⟩] 116)) = w3 at *
  generalize w2.heap.size = H at *
  have hH3 := lt_of_heap hN3
  have c3' := h3.cell
  obtain ⟨g0, g1, g2, g3, g4⟩ := c3'
  obtain ⟨n0, n1, n2⟩ := hN3.cell
  have hne := h3.row_ne
  have hB3 := lt_of_heap h3.2.1
  clear c0 c1 c2 c3 c4 m0 m1 m2 m3 m4 d0 d1 d2 d3 d4 f0 f1 f2 f3 f4 hF hb2 h1 h2
  go_region_law (first
    | (refine step_append_lies _ rfl (.tmp 53) (.tmp 55) 61 rfl b0 116 i0 (.agg #[.int .i64 0, .int .i64 0, .string ByteArray.empty]) 3 32 Tryz.underlying61 hi hz0 hz1 hz2 rfl (by decide) (.slice ao ns.length cap) ns.length (cellsN ns) (by simp [Act.eval]) (h3.below ((Below.refl _ _).drew) |>.2.2.alloc _) ⟨w3.heap.size, 0, none⟩ 1 1 (cellsN [⟨1, 0, ⟨#[]⟩⟩]) (by simp [Act.eval]) rfl (World.news_of_block (heap_alloc_new w3.drew _)) (cellsN_one _) (by decide) (by unfold maxLen; omega) (by omega) (by simp; omega) _ rfl ?_; intro gg cap2 w4 hown4 hgrow4 hat4 hlt4; have c4 : w4.cell? ⟨B, 4, none⟩ = some (.slice ao ns.length cap) := (hgrow4.cell_far ⟨B, 4, none⟩ (by simp; omega) (fun e => hne e.symm)).trans (cell_keep g4 ((Below.refl _ _).drew.alloc (Nat.le_refl _) _)); have z4 : w4.frozen? ⟨B, 4, none⟩ = false := (hgrow4.frozen_far ⟨B, 4, none⟩ (by simp; omega) (fun e => hne e.symm)).trans (frozen_keep g4 (h3.frozen 4) ((Below.refl _ _).drew.alloc (Nat.le_refl _) _))))
  all_goals
    obtain ⟨h5, hK5⟩ := scan_appended (x := ⟨1, 0, ⟨#[]⟩⟩) h3 hown4 hgrow4 hat4
    have hN5 : NAt (w4.setCell ⟨B, 4, none⟩ (.slice (some ⟨gg, 0, none⟩) (ns.length + 1) cap2)) H ⟨1, 0, ⟨#[]⟩⟩ := hN3.frame hK5.1 (by omega) (fun e => hVH e.symm)
    have hVH5 : (Value.slice (some ⟨gg, 0, none⟩) (ns.length + 1) cap2).ownBlock ≠ some H := by
      rcases hK5.2 with e | ⟨g', e, hg'⟩
      · rw [e]; exact hVH
      · rw [e]; intro x; cases x; omega
    have hlt5 : H < (w4.setCell ⟨B, 4, none⟩ (.slice (some ⟨gg, 0, none⟩) (ns.length + 1) cap2)).heap.size := lt_of_heap hN5
    clear hown4 hgrow4 hat4 c4 z4 g0 g1 g2 g3 g4 n0 n1 n2 hne hlt4
    generalize w4.setCell ⟨B, 4, none⟩ (.slice (some ⟨gg, 0, none⟩) (ns.length + 1) cap2) = w5 at *
    have hB5 := lt_of_heap h5.2.1
    obtain ⟨c0, c1, c2, c3, c4⟩ := h5.cell
    obtain ⟨n0, n1, n2⟩ := hN5.cell
  all_goals
    go_wp2_with (go_at_call 101; refine (next_ok _ _ _ _ _ _ _ _ h5 hz hs).mono ?_; rintro r w6 ⟨rfl, h6, hF6⟩; have hN6 : NAt w6 H ⟨1, 0, ⟨#[]⟩⟩ := hN5.frame hF6 (by omega) (by simp); obtain ⟨v0, v1, v2, v3, v4⟩ := h6.cell; obtain ⟨e0, e1, e2⟩ := hN6.cell; have hH6 := lt_of_heap hN6)
  all_goals go_quiet (fail)
  all_goals go_wp2
  all_goals have zz := hN6.frozen 2
  all_goals go_region
  all_goals
    have h9 := (h6.below (below_qn w6 (nq + 1))).setFar H 2 (.string (s.extract (a + 1 + 1) (a + 1 + 1 + s[a + 1].toNat))) (by omega) hVH5
    have hN9 := (hN6.below (below_qn w6 (nq + 1))).set2 (s.extract (a + 1 + 1) (a + 1 + 1 + s[a + 1].toNat))
    have hF9 : Frame2 w5 ((w6.drewN (nq + 1)).setCell ⟨H, 2, none⟩ (.string (s.extract (a + 1 + 1) (a + 1 + 1 + s[a + 1].toNat)))) B (some H) := (hF6.then (below_qn w6 (nq + 1))).put
    clear h6 hN6 hF6 v0 v1 v2 v3 v4 e0 e1 e2 hH6 zz
    generalize (w6.drewN (nq + 1)).setCell ⟨H, 2, none⟩ (.string (s.extract (a + 1 + 1) (a + 1 + 1 + s[a + 1].toNat))) = w9 at *
    obtain ⟨x0, x1, x2, x3, x4⟩ := h9.cell
    have zz := h9.frozen 1
    have hB9 := lt_of_heap h9.2.1
  all_goals go_wp2
  all_goals
    have eA : (a : Int) + 1 + 1 + s[a + 1].toNat = ((a + 2 + s[a + 1].toNat : Nat) : Int) := by omega
    have h7 := h9.set1 ((a : Int) + 1 + 1 + s[a + 1].toNat)
    have hN7 := hN9.setFar (u := .int .i64 ((a : Int) + 1 + 1 + s[a + 1].toNat)) (j := 1) (show H ≠ B by omega)
    have hF7 : Frame2 w5 (w9.setCell ⟨B, 1, none⟩ (.int .i64 ((a : Int) + 1 + 1 + s[a + 1].toNat))) B (some H) := hF9.set _ _ B 1 _ _
    clear h9 hN9 hF9 x0 x1 x2 x3 x4 zz hB9 c0 c1 c2 c3 c4 n0 n1 n2
    generalize w9.setCell ⟨B, 1, none⟩ (.int .i64 ((a : Int) + 1 + 1 + s[a + 1].toNat)) = w7 at *
    obtain ⟨c0, c1, c2, c3, c4⟩ := h7.cell
    obtain ⟨n0, n1, n2⟩ := hN7.cell
    obtain ⟨⟨u0, p0⟩, ⟨u1, p1⟩, ⟨u2, p2⟩, pz⟩ := h7.at gg (ns.length + 1) cap2 rfl ns.length (by simp)
    have z0 := pz (ns.length * 3)
    have z1 := pz (ns.length * 3 + 1)
    have z2 := pz (ns.length * 3 + 2)
  all_goals go_region
  all_goals
    obtain ⟨h8, hF8⟩ := scan_put h7 ⟨1, 0, s.extract (a + 1 + 1) (a + 1 + 1 + s[a + 1].toNat)⟩ ns.length (by simp)
    rw [set_last, eA] at h8
  all_goals go_returns
  all_goals exact ⟨rfl, _, h8, hF3.close hK5 hF7 hF8 hHw⟩

end Go.Proofs.YtlndinigbppafaaGreat
