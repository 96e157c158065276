/-
  The walk of the document's reader at a node with two nodes below it.
-/
import Derived.Test.YtlndinigbppafaaGreatScanF
import Derived.StillTailTactics
namespace Go.Proofs.YtlndinigbppafaaGreat
open Go.RowKit

set_option maxRecDepth 100000 in
set_option maxHeartbeats 4000000 in
theorem two_bad (w : World) (b0 B : Nat) (s : ByteArray) (a : Nat) (q : Int) (V : Value) (ns : List PN) (k M N R : Int) (T : Value) (p d : Nat) (rf : Nat → Except (Int × Nat) (List PN × Nat)) (y : Int × Nat) (hC : ∀ (w : World) (V : Value) (ns : List PN), ScanAt w b0 B s (a + 1 : Nat) 0 q V ns → b0 ≤ w.heap.size → ns.length ≤ a + 1 → Calls Tryz.prog 104 #[.pointer (some ⟨B, 0, none⟩), .agg #[.int .i64 k, .int .i64 M, .int .i64 N, .int .i64 R, T], .int .i64 p, .int .i64 d] w fun r w' => r = .returned (.tuple #[]) ∧ NodeOut w w' b0 B s q V ns (.error y)) (h : ScanAt w b0 B s a 0 q V ns) (ha : a < s.size) (hk : (s[a].toNat : Int) = 2) (hk2 : kindOf k M N p (d + 1) = 2) (hs : s.size ≤ 4000) (hd : d + 1 ≤ 16) (hp : p ≤ 900000) (hn : ns.length ≤ a) (hb0 : b0 ≤ w.heap.size) :
    Calls Tryz.prog 104 #[.pointer (some ⟨B, 0, none⟩), .agg #[.int .i64 k, .int .i64 M, .int .i64 N, .int .i64 R, T], .int .i64 p, .int .i64 ((d + 1 : Nat) : Int)] w fun r w' => r = .returned (.tuple #[]) ∧
      NodeOut w w' b0 B s q V ns (goTwo (.error y) rf) := by
  have HC := Hid.out (show Hid _ from hC)
  clear hC
  have hpw : pw d ≤ 65536 := pw_le (e := 16) (by omega)
  obtain ⟨D, hD⟩ : ∃ D, D = pw d := ⟨_, rfl⟩
  rw [← hD] at hpw
  have HD : Hid (D = pw d) := hD
  clear hD
  obtain ⟨i0, hi, hz0, hz1, hz2⟩ := info_parts Tryz.infoNode
  obtain ⟨c0, c1, c2, c3, c4⟩ := h.cell
  have hB := lt_of_heap h.2.1
  have hA : Below w.heap.size w (w.alloc (.cells #[.int .i64 k, .int .i64 M, .int .i64 N, .int .i64 R, T] 63)) := (Below.refl _ _).alloc (Nat.le_refl _) _
  go_enter Tryz.func104, Tryz.ntmps104
  go_wp2_with fail
  refine (next_ok _ _ _ _ _ _ _ _ (h.below hA) ha hs).mono ?_
  rintro r w1 ⟨rfl, h1, hF1⟩
  have hM1 := msg_frame (msg_new w k M N R T) hF1 (by omega) (by simp)
  obtain ⟨m0, m1, m2, m3, m4⟩ := id hM1
  have hF := (Frame2.of_below B none hA).trans hF1
  clear hA hF1
  obtain ⟨d0, d1, d2, d3, d4⟩ := h1.cell
  rw [hk]
  go_wp2_with fail
  refine (kind_any k M N R T p (d + 1) w1 hd (by omega)).mono ?_
  rintro r w2 ⟨rfl, hb2⟩
  rw [hk2]
  have h2 := h1.below hb2
  obtain ⟨f0, f1, f2, f3, f4⟩ := h2.cell
  obtain ⟨ao, cap, rfl, _⟩ := id (NodesAt.of_owns h2.2.2)
  have hB2 := lt_of_heap h2.2.1
  go_wp2
  have h3 := h2.below ((Below.refl _ _).alloc (Nat.le_refl _) (.cells #[.int .i64 2, .int .i64 0, .string ⟨#[]⟩] 116))
  have hN3 : NAt (w2.alloc (.cells #[.int .i64 2, .int .i64 0, .string ⟨#[]⟩] 116)) w2.heap.size ⟨2, 0, ⟨#[]⟩⟩ := heap_alloc_new _ _
  have hF3 := (hF.then hb2).then ((Below.refl _ _).alloc (Nat.le_refl _) (.cells #[.int .i64 2, .int .i64 0, .string ⟨#[]⟩] 116))
  have hM3 := msg_keep (msg_keep hM1 hb2) ((Below.refl _ _).alloc (Nat.le_refl _) (.cells #[.int .i64 2, .int .i64 0, .string ⟨#[]⟩] 116))
  have hVm : (Value.slice ao ns.length cap).ownBlock ≠ some w.heap.size := fun x => by have := (h.row_lt _ x).1; omega
  have hVH : (Value.slice ao ns.length cap).ownBlock ≠ some w2.heap.size := fun x => by have := (h2.row_lt _ x).1; omega
  have hHw : w.heap.size ≤ w2.heap.size := (hF.then hb2).size
  generalize (w2.alloc (.cells #[.int .i64 2, .int .i64 0, .string ⟨#[]⟩] 116)) = w3 at *
  generalize w2.heap.size = H at *
  have hH3 := lt_of_heap hN3
  have c3' := h3.cell
  obtain ⟨g0, g1, g2, g3, g4⟩ := c3'
  obtain ⟨n0, n1, n2⟩ := hN3.cell
  have hne := h3.row_ne
  have hB3 := lt_of_heap h3.2.1
  clear hM1
  clear c0 c1 c2 c3 c4 m0 m1 m2 m3 m4 d0 d1 d2 d3 d4 f0 f1 f2 f3 f4 hF hb2 h1 h2
  go_region_law (first
    | (refine step_append_lies _ rfl (.tmp 53) (.tmp 55) 61 rfl b0 116 i0 (.agg #[.int .i64 0, .int .i64 0, .string ByteArray.empty]) 3 32 Tryz.underlying61 hi hz0 hz1 hz2 rfl (by decide) (.slice ao ns.length cap) ns.length (cellsN ns) (by simp [Act.eval]) (h3.below ((Below.refl _ _).drew) |>.2.2.alloc _) ⟨w3.heap.size, 0, none⟩ 1 1 (cellsN [⟨2, 0, ⟨#[]⟩⟩]) (by simp [Act.eval]) rfl (World.news_of_block (heap_alloc_new w3.drew _)) (cellsN_one _) (by decide) (by unfold maxLen; omega) (by omega) (by simp; omega) _ rfl ?_; intro gg cap2 w4 hown4 hgrow4 hat4 hlt4; have c4 : w4.cell? ⟨B, 4, none⟩ = some (.slice ao ns.length cap) := (hgrow4.cell_far ⟨B, 4, none⟩ (by simp; omega) (fun e => hne e.symm)).trans (cell_keep g4 ((Below.refl _ _).drew.alloc (Nat.le_refl _) _)); have z4 : w4.frozen? ⟨B, 4, none⟩ = false := (hgrow4.frozen_far ⟨B, 4, none⟩ (by simp; omega) (fun e => hne e.symm)).trans (frozen_keep g4 (h3.frozen 4) ((Below.refl _ _).drew.alloc (Nat.le_refl _) _))))
  all_goals
    obtain ⟨h5, hK5⟩ := scan_appended (x := ⟨2, 0, ⟨#[]⟩⟩) h3 hown4 hgrow4 hat4
    have hN5 : NAt (w4.setCell ⟨B, 4, none⟩ (.slice (some ⟨gg, 0, none⟩) (ns.length + 1) cap2)) H ⟨2, 0, ⟨#[]⟩⟩ := hN3.frame hK5.1 (by omega) (fun e => hVH e.symm)
    have hVH5 : (Value.slice (some ⟨gg, 0, none⟩) (ns.length + 1) cap2).ownBlock ≠ some H := by
      rcases hK5.2 with e | ⟨g', e, hg'⟩
      · rw [e]; exact hVH
      · rw [e]; intro x; cases x; omega
    have hM5 := msg_frame hM3 hK5.1 (show w.heap.size ≠ B by omega) (fun e => hVm e.symm)
    have hlt5 : H < (w4.setCell ⟨B, 4, none⟩ (.slice (some ⟨gg, 0, none⟩) (ns.length + 1) cap2)).heap.size := lt_of_heap hN5
    clear hown4 hgrow4 hat4 c4 z4 g0 g1 g2 g3 g4 n0 n1 n2 hne hlt4
    generalize w4.setCell ⟨B, 4, none⟩ (.slice (some ⟨gg, 0, none⟩) (ns.length + 1) cap2) = w5 at *
    have hB5 := lt_of_heap h5.2.1
    obtain ⟨c0, c1, c2, c3, c4⟩ := h5.cell
    obtain ⟨n0, n1, n2⟩ := hN5.cell
  all_goals obtain ⟨m0, m1, m2, m3, m4⟩ := id hM5
  all_goals go_wp2_with fail
  all_goals
    refine (HC w5 _ _ h5 (by have := hF3.size; have := hK5.1.size; omega) (by simp; omega)).mono ?_
    rintro r w6 ⟨rfl, V6, a6, e6, q6, ns6, hK6, h6, ho6⟩
    have hl6 := ho6.len
    rw [List.length_append, List.length_singleton] at hl6
    have hN6 : NAt w6 H ⟨2, 0, ⟨#[]⟩⟩ := hN5.frame hK6.1 (by omega) (fun e => hVH5 e.symm)
    have hVm5 : (Value.slice (some ⟨gg, 0, none⟩) (ns.length + 1) cap2).ownBlock ≠ some w.heap.size := by
      rcases hK5.2 with e | ⟨g', e, hg'⟩
      · rw [e]; exact hVm
      · rw [e]; intro x; cases x; omega
    have hM6 := msg_frame hM5 hK6.1 (show w.heap.size ≠ B by omega) (fun e => hVm5 e.symm)
    clear c0 c1 c2 c3 c4 n0 n1 n2 m0 m1 m2 m3 m4
    obtain ⟨m0, m1, m2, m3, m4⟩ := id hM6
  all_goals
    have he6 : e6 ≠ 0 := ho6.1
    have hw1 : IntKind.i64.wrap (d : Int) = d := by go_arith
    have hw2 : IntKind.i64.wrap ((p : Int) + D) = p + D := by go_arith
    have PW : ∀ w', Calls Tryz.prog 135 #[.int .i64 d] w' fun e w'' => e = .returned (.int .i64 D) ∧ w'' = w' := fun w' => by rw [HD.out]; exact power_any d w' (by omega)
    have NE : ∀ w', ScanAt w' b0 B s a6 e6 q6 V6 ns6 → Calls Tryz.prog 104 #[.pointer (some ⟨B, 0, none⟩), .agg #[.int .i64 k, .int .i64 M, .int .i64 N, .int .i64 R, T], .int .i64 ((p : Int) + D), .int .i64 d] w' fun r w'' => r = .returned (.tuple #[]) ∧ Below w'.heap.size w' w'' := fun w' h' => by
      have := node_err w' b0 B s a6 e6 q6 V6 ns6 k M N R T (p + D) d h' he6 (by omega) (by omega)
      rwa [Int.natCast_add] at this
  all_goals go_wp2
  all_goals go_still_tail 9, (by kernel_rfl)
  all_goals
    still_call (PW _)
    repeat still_step
    refine wpStill_nil ?_
    generalize hwd : (World.mk w6.heap w6.tape (w6.drawn + 1) w6.os w6.output) = wd
    have hbd : Below w6.heap.size w6 wd := by rw [← hwd]; exact (Below.refl _ _).drew
    clear hwd
  all_goals go_wp2_with (go_at_call 104; refine (NE _ (h6.below hbd)).mono ?_; rintro r w9 ⟨rfl, hb9⟩)
  all_goals
    have h7 := (h6.below hbd).below hb9
    have hN7 := (hN6.below hbd).below hb9
    have hK7 : Kept w5 w9 B (.slice (some ⟨gg, 0, none⟩) (ns.length + 1) cap2) V6 := hK6.trans ⟨(Frame2.of_below B _ hbd).then hb9, .inl rfl⟩
    obtain ⟨g6, cap6, rfl, hg6, hgl6⟩ := h7.2.2.form (by omega)
    clear m0 m1 m2 m3 m4
    obtain ⟨c0, c1, c2, c3, c4⟩ := h7.cell
    obtain ⟨n0, n1, n2⟩ := hN7.cell
    obtain ⟨⟨u0, p0⟩, ⟨u1, p1⟩, ⟨u2, p2⟩, pz⟩ := h7.at g6 ns6.length cap6 rfl ns.length (by omega)
    have z0 := pz (ns.length * 3)
    have z1 := pz (ns.length * 3 + 1)
    have z2 := pz (ns.length * 3 + 2)
  all_goals go_wp2
  all_goals go_region
  all_goals
    obtain ⟨h8, hF8⟩ := scan_put h7 ⟨2, 0, ⟨#[]⟩⟩ ns.length (by omega)
  all_goals go_returns
  all_goals exact ⟨rfl, _, _, _, _, _, ((Kept.first hF3 hK5).trans hK7).put hF8, h8, ho6.twoBad rf⟩

end Go.Proofs.YtlndinigbppafaaGreat
