/-
  The walk of the document's Decode: nothing, or no kind; and all of it.
-/
import Derived.Test.YtlndinigbppafaaScanL
import Derived.Test.YtlndinigbppafaaScanN
import Derived.Test.YtlndinigbppafaaScanO
import Derived.Test.YtlndinigbppafaaScanP
import Derived.Deep.RegionHeld3
namespace Go.Proofs.Ytlndinigbppafaa
open Go.RowKit

theorem no_dec3 (s : ByteArray) (h1 : 1 ≤ s.size) (h : s.size < 5) : nuE s (nuA s 1 0) (nuE s 1 0) ≠ 0 := by
  by_cases h3 : s.size < 3
  · rw [(num_short s 1 0 (by omega) (by omega)).1, (num_err s (nuA s 1 0) 5 0 (by decide)).2.2.1]
    decide
  · obtain ⟨_, a1, a2, _⟩ := num_ok s 1 0 (by omega)
    rw [a1, a2, (num_short s 3 0 (by omega) (by omega)).1]
    decide
theorem no_dec2 (s : ByteArray) (h1 : 1 ≤ s.size) (h : s.size < 7) : nuE s (nuA s (nuA s 1 0) (nuE s 1 0)) (nuE s (nuA s 1 0) (nuE s 1 0)) ≠ 0 := by
  by_cases h5 : s.size < 5
  · have e : nuE s (nuA s 1 0) (nuE s 1 0) = 5 := by
      by_cases h3 : s.size < 3
      · rw [(num_short s 1 0 (by omega) (by omega)).1, (num_err s (nuA s 1 0) 5 0 (by decide)).2.2.1]
      · obtain ⟨_, a1, a2, _⟩ := num_ok s 1 0 (by omega)
        rw [a1, a2, (num_short s 3 0 (by omega) (by omega)).1]
    rw [e, (num_err s _ 5 0 (by decide)).2.2.1]
    decide
  · obtain ⟨_, a1, a2, _⟩ := num_ok s 1 0 (by omega)
    obtain ⟨_, b1, b2, _⟩ := num_ok s 3 0 (by omega)
    rw [a1, a2, b1, b2, (num_short s 5 0 (by omega) (by omega)).1]
    decide

set_option maxRecDepth 100000 in
set_option maxHeartbeats 4000000 in
theorem dec_nil (s : ByteArray) (w : World) (h0 : s.size = 0) :
    Calls Try.prog 39 #[.string s] w fun r w' => DecOut s w r w' := by
  have hs : s.size ≤ 4000 := by omega
  have HD : Hid (decS s.data.toList = .error (5, 0)) := decS_nil _ (by rw [len_toList]; exact h0)
  have HZ : Hid _ := h0
  clear h0
  go_enter Try.func39, Try.ntmps39
  go_wp2_with fail
  refine (next_end _ w.heap.size _ s 0 _ _ _ (scan_new _ s _ (by simp) _ (by simp)) (by rw [HZ.out]; exact Nat.zero_le _)).mono ?_
  rintro r w1 ⟨rfl, hS1, hF1⟩
  have ds : DS w (w1.alloc (.cells #[.int .i64 0, .int .i64 0, .int .i64 0, .int .i64 0, .slice none 0 0] 42)) s 0 5 s.size (.slice none 0 0) [] w1.heap.size 0 0 0 0 := ds_begin w w1 s 0 _ _ _ hS1 hF1
  clear hS1 hF1
  have hq0 : (s.size : Int) = (0 : Nat) := by rw [HZ.out]
  obtain ⟨e0, he0⟩ : ∃ e0 : Int, e0 = 5 := ⟨5, rfl⟩
  rw [← he0] at ds
  have hne : e0 ≠ 0 := by omega
  have heb : (e0 == 0) = false := beq_eq_false_iff_ne.2 hne
  have HE : Hid _ := he0
  clear he0
  generalize (s.size : Int) = q0 at ds hq0
  have HQ : Hid _ := hq0
  clear hq0
  obtain ⟨⟨q1, q2, q3, q4⟩, ⟨m0, m1, m2, m3, m4⟩, ⟨z1, z2, z3, z4⟩, ⟨x0, x1, x2, x3, x4⟩, ⟨y0, y1, y2, y3, y4⟩, hc5⟩ := ds.cells
  have hz := ds.hH
  go_wp2_with fail
  clear q1 q2 q3 q4 m0 m1 m2 m3 m4 z1 z2 z3 z4 x0 x1 x2 x3 x4 y0 y1 y2 y3 y4 hc5
  generalize w1.alloc (.cells #[.int .i64 0, .int .i64 0, .int .i64 0, .int .i64 0, .slice none 0 0] 42) = u at ds ⊢
  generalize w1.heap.size = H at ds hz ⊢
  -- n
  refine (number_any _ _ _ _ _ _ _ _ _ ds.sc hs).mono ?_
  rintro r u3 ⟨rfl, hS3, hF3⟩
  have ds3 := ds.frame hF3 hS3
  clear hS3 hF3
  rw [(num_err s 0 e0 q0 hne).2.1, (num_err s 0 e0 q0 hne).2.2.1, (num_err s 0 e0 q0 hne).2.2.2] at ds3
  rw [(num_err s 0 e0 q0 hne).1]
  obtain ⟨⟨q1, q2, q3, q4⟩, ⟨m0, m1, m2, m3, m4⟩, ⟨z1, z2, z3, z4⟩, ⟨x0, x1, x2, x3, x4⟩, ⟨y0, y1, y2, y3, y4⟩, hc5⟩ := ds3.cells
  have ds4 := ds3.setN (by simp [Value.ownBlock]) 0
  go_wp2_with fail
  clear q1 q2 q3 q4 m0 m1 m2 m3 m4 z1 z2 z3 z4 x0 x1 x2 x3 x4 y0 y1 y2 y3 y4 hc5 ds3
  generalize u3.setCell ⟨H, 2, none⟩ (.int .i64 0) = u4 at ds4 ⊢
  -- the root
  refine (number_any _ _ _ _ _ _ _ _ _ ds4.sc hs).mono ?_
  rintro r u5 ⟨rfl, hS5, hF5⟩
  have ds5 := ds4.frame hF5 hS5
  clear hS5 hF5
  rw [(num_err s 0 e0 q0 hne).2.1, (num_err s 0 e0 q0 hne).2.2.1, (num_err s 0 e0 q0 hne).2.2.2] at ds5
  rw [(num_err s 0 e0 q0 hne).1]
  obtain ⟨⟨q1, q2, q3, q4⟩, ⟨m0, m1, m2, m3, m4⟩, ⟨z1, z2, z3, z4⟩, ⟨x0, x1, x2, x3, x4⟩, ⟨y0, y1, y2, y3, y4⟩, hc5⟩ := ds5.cells
  have ds6 := ds5.setR (by simp [Value.ownBlock]) 0
  go_wp2_with fail
  clear q1 q2 q3 q4 m0 m1 m2 m3 m4 z1 z2 z3 z4 x0 x1 x2 x3 x4 y0 y1 y2 y3 y4 hc5 ds5
  generalize u5.setCell ⟨H, 3, none⟩ (.int .i64 0) = u6 at ds6 ⊢
  refine (no_more _ _ _ _ _ _ _ _ _ _ _ ds6.sc hne).mono ?_
  rintro r u7 ⟨rfl, rfl⟩
  obtain ⟨⟨q1, q2, q3, q4⟩, ⟨m0, m1, m2, m3, m4⟩, ⟨z1, z2, z3, z4⟩, ⟨x0, x1, x2, x3, x4⟩, ⟨y0, y1, y2, y3, y4⟩, hc5⟩ := ds6.cells
  have hbl := ds6.bl
  have hxs : w.heap.size < u7.heap.size := World.block_lt_of_cell? _ _ x0
  go_wp2
  go_region_held3 (fun w' => w'.cell? ⟨w.heap.size + 1, 2, none⟩ = some (.int .i64 e0) ∧ w'.cell? ⟨w.heap.size + 1, 3, none⟩ = some (.int .i64 q0)) (go_keep) (fail)
  all_goals go_wp2
  all_goals refine bodyPost_ret (v := .tuple #[.agg #[.int .i64 0, .int .i64 0, .int .i64 0, .int .i64 0, .slice none 0 0], .int .i64 e0, .int .i64 q0]) (by simp [results, Try.results39, go_sem, x0, x1, x2, x3, x4]) rfl ?_
  all_goals exact DecOut.bad HD.out (by decide) HE.out HQ.out (by go_grown)

set_option maxRecDepth 100000 in
set_option maxHeartbeats 4000000 in
theorem dec_kind (s : ByteArray) (w : World) (hs : s.size ≤ 4000) (h1 : 1 ≤ s.size) (k : Int) (hk : (s[0].toNat : Int) = k) (hbad : k < 1 ∨ 3 < k) :
    Calls Try.prog 39 #[.string s] w fun r w' => DecOut s w r w' := by
  have HD : Hid (decS s.data.toList = .error (4, 0)) := decS_kind _ (by rw [len_toList]; omega) (by rw [len_toList]; exact hs) (by rw [at_list s 0 (by omega), hk]; exact hbad)
  have hk1 : (k == 1) = false := beq_eq_false_iff_ne.2 (by omega)
  have hk2 : (k == 2) = false := beq_eq_false_iff_ne.2 (by omega)
  have hk3 : (k == 3) = false := beq_eq_false_iff_ne.2 (by omega)
  rcases hbad with hbad | hbad
  all_goals go_enter Try.func39, Try.ntmps39
  all_goals go_wp2_with fail
  all_goals refine (next_ok _ w.heap.size _ s 0 _ _ _ (scan_new _ s _ (by simp) _ (by simp)) (by omega) hs).mono ?_
  all_goals rintro r w1 ⟨rfl, hS1, hF1⟩
  all_goals rw [hk]
  all_goals have ds : DS w (w1.alloc (.cells #[.int .i64 k, .int .i64 0, .int .i64 0, .int .i64 0, .slice none 0 0] 42)) s 1 0 0 (.slice none 0 0) [] w1.heap.size k 0 0 0 := ds_begin w w1 s _ _ _ _ hS1 hF1
  all_goals clear hS1 hF1
  all_goals obtain ⟨⟨q1, q2, q3, q4⟩, ⟨m0, m1, m2, m3, m4⟩, ⟨z1, z2, z3, z4⟩, ⟨x0, x1, x2, x3, x4⟩, ⟨y0, y1, y2, y3, y4⟩, hc5⟩ := ds.cells
  all_goals have hz := ds.hH
  all_goals go_wp2_with fail
  all_goals clear q1 q2 q3 q4 m0 m1 m2 m3 m4 z1 z2 z3 z4 x0 x1 x2 x3 x4 y0 y1 y2 y3 y4 hc5
  all_goals generalize w1.alloc (.cells #[.int .i64 k, .int .i64 0, .int .i64 0, .int .i64 0, .slice none 0 0] 42) = u at ds ⊢
  all_goals generalize w1.heap.size = H at ds hz ⊢
  all_goals refine (no_first _ _ _ _ _ _ _ _ 4 0 ds.sc).mono ?_
  all_goals rintro r u1 ⟨rfl, hS1, hF1⟩
  all_goals have ds1 := ds.frame hF1 hS1
  all_goals clear hS1 hF1 ds
  all_goals obtain ⟨e0, he0⟩ : ∃ e0 : Int, e0 = 4 := ⟨4, rfl⟩
  all_goals obtain ⟨q0, hq0⟩ : ∃ q0 : Int, q0 = (0 : Nat) := ⟨0, rfl⟩
  all_goals have ds1' : DS w u1 s 1 e0 q0 (.slice none 0 0) [] H k 0 0 0 := by (rw [he0, hq0]; exact ds1)
  all_goals clear ds1
  all_goals have ds1 := ds1'
  all_goals clear ds1'
  all_goals obtain ⟨⟨q1, q2, q3, q4⟩, ⟨m0, m1, m2, m3, m4⟩, ⟨z1, z2, z3, z4⟩, ⟨x0, x1, x2, x3, x4⟩, ⟨y0, y1, y2, y3, y4⟩, hc5⟩ := ds1.cells
  all_goals have hne : e0 ≠ 0 := by omega
  all_goals have heb : (e0 == 0) = false := beq_eq_false_iff_ne.2 hne
  all_goals have HE : Hid _ := he0
  all_goals have HQ : Hid _ := hq0
  all_goals clear he0 hq0
  all_goals go_wp2_with fail
  -- n
  all_goals refine (number_any _ _ _ _ _ _ _ _ _ ds1.sc hs).mono ?_
  all_goals rintro r u3 ⟨rfl, hS3, hF3⟩
  all_goals have ds3 := ds1.frame hF3 hS3
  all_goals clear hS3 hF3
  all_goals rw [(num_err s 1 e0 q0 hne).2.1, (num_err s 1 e0 q0 hne).2.2.1, (num_err s 1 e0 q0 hne).2.2.2] at ds3
  all_goals rw [(num_err s 1 e0 q0 hne).1]
  all_goals clear q1 q2 q3 q4 m0 m1 m2 m3 m4 z1 z2 z3 z4 x0 x1 x2 x3 x4 y0 y1 y2 y3 y4 hc5
  all_goals obtain ⟨⟨q1, q2, q3, q4⟩, ⟨m0, m1, m2, m3, m4⟩, ⟨z1, z2, z3, z4⟩, ⟨x0, x1, x2, x3, x4⟩, ⟨y0, y1, y2, y3, y4⟩, hc5⟩ := ds3.cells
  all_goals have ds4 := ds3.setN (by simp [Value.ownBlock]) 0
  all_goals go_wp2_with fail
  all_goals clear q1 q2 q3 q4 m0 m1 m2 m3 m4 z1 z2 z3 z4 x0 x1 x2 x3 x4 y0 y1 y2 y3 y4 hc5 ds3
  all_goals generalize u3.setCell ⟨H, 2, none⟩ (.int .i64 0) = u4 at ds4 ⊢
  -- the root
  all_goals refine (number_any _ _ _ _ _ _ _ _ _ ds4.sc hs).mono ?_
  all_goals rintro r u5 ⟨rfl, hS5, hF5⟩
  all_goals have ds5 := ds4.frame hF5 hS5
  all_goals clear hS5 hF5
  all_goals rw [(num_err s 1 e0 q0 hne).2.1, (num_err s 1 e0 q0 hne).2.2.1, (num_err s 1 e0 q0 hne).2.2.2] at ds5
  all_goals rw [(num_err s 1 e0 q0 hne).1]
  all_goals obtain ⟨⟨q1, q2, q3, q4⟩, ⟨m0, m1, m2, m3, m4⟩, ⟨z1, z2, z3, z4⟩, ⟨x0, x1, x2, x3, x4⟩, ⟨y0, y1, y2, y3, y4⟩, hc5⟩ := ds5.cells
  all_goals have ds6 := ds5.setR (by simp [Value.ownBlock]) 0
  all_goals go_wp2_with fail
  all_goals clear q1 q2 q3 q4 m0 m1 m2 m3 m4 z1 z2 z3 z4 x0 x1 x2 x3 x4 y0 y1 y2 y3 y4 hc5 ds5
  all_goals generalize u5.setCell ⟨H, 3, none⟩ (.int .i64 0) = u6 at ds6 ⊢
  all_goals refine (no_more _ _ _ _ _ _ _ _ _ _ _ ds6.sc hne).mono ?_
  all_goals rintro r u7 ⟨rfl, rfl⟩
  all_goals obtain ⟨⟨q1, q2, q3, q4⟩, ⟨m0, m1, m2, m3, m4⟩, ⟨z1, z2, z3, z4⟩, ⟨x0, x1, x2, x3, x4⟩, ⟨y0, y1, y2, y3, y4⟩, hc5⟩ := ds6.cells
  all_goals have hbl := ds6.bl
  all_goals have hxs : w.heap.size < u7.heap.size := World.block_lt_of_cell? _ _ x0
  all_goals go_wp2
  all_goals go_region_held3 (fun w' => w'.cell? ⟨w.heap.size + 1, 2, none⟩ = some (.int .i64 e0) ∧ w'.cell? ⟨w.heap.size + 1, 3, none⟩ = some (.int .i64 q0)) (go_keep) (fail)
  all_goals go_wp2
  all_goals refine bodyPost_ret (v := .tuple #[.agg #[.int .i64 0, .int .i64 0, .int .i64 0, .int .i64 0, .slice none 0 0], .int .i64 e0, .int .i64 q0]) (by simp [results, Try.results39, go_sem, x0, x1, x2, x3, x4]) rfl ?_
  all_goals exact DecOut.bad HD.out (by decide) HE.out HQ.out (by go_grown)

theorem dec_any (s : ByteArray) (w : World) : Calls Try.prog 39 #[.string s] w fun r w' => DecOut s w r w' := by
  have hll := len_toList s
  by_cases hs : s.size ≤ 4000
  · by_cases h1 : 1 ≤ s.size
    · have hb := s[0].toNat_lt
      by_cases hk1 : (s[0].toNat : Int) = 1
      · by_cases h5 : 5 ≤ s.size
        · obtain ⟨a0, a1, a2, a3⟩ := num_ok s 1 0 (by omega)
          by_cases hg : 1 ≤ num2 s[1] s[2] ∧ num2 s[1] s[2] ≤ 500
          · have hd := decS_1 s.data.toList (by omega) (by omega) (by rw [at_list s 0 (by omega)]; exact hk1)
            simp only [at_list s 1 (by omega), at_list s 2 (by omega), at_list s 3 (by omega), at_list s 4 (by omega)] at hd
            exact dec_1t s w hs h5 hk1 _ _ rfl rfl hg.1 hg.2 hd
          · refine dec_1e s w hs h1 hk1 (fun x => hg ?_)
            rw [a0] at x
            exact x.2
        · exact dec_1e s w hs h1 hk1 (fun x => no_dec3 s h1 (by omega) x.1)
      · by_cases hk2 : (s[0].toNat : Int) = 2
        · by_cases h7 : 7 ≤ s.size
          · obtain ⟨a0, a1, a2, a3⟩ := num_ok s 1 0 (by omega)
            obtain ⟨b0, b1, b2, b3⟩ := num_ok s 3 0 (by omega)
            by_cases hg : 1 ≤ num2 s[3] s[4] ∧ num2 s[3] s[4] ≤ 500 ∧ 1 ≤ num2 s[1] s[2] ∧ num2 s[1] s[2] ≤ num2 s[3] s[4]
            · have hd := decS_2 s.data.toList (by omega) (by omega) (by rw [at_list s 0 (by omega)]; exact hk2)
              simp only [at_list s 1 (by omega), at_list s 2 (by omega), at_list s 3 (by omega), at_list s 4 (by omega), at_list s 5 (by omega), at_list s 6 (by omega)] at hd
              rw [dec2G, if_neg (by omega), if_neg (by omega)] at hd
              exact dec_2t s w hs h7 hk2 _ _ _ rfl rfl rfl hg.2.2.1 hg.2.2.2 hg.2.1 hd
            · refine dec_2e s w hs h1 hk2 (fun x => hg ?_)
              rw [a0, a1, a2, b0] at x
              exact x.2
          · exact dec_2e s w hs h1 hk2 (fun x => no_dec2 s h1 (by omega) x.1)
        · by_cases hk3 : (s[0].toNat : Int) = 3
          · by_cases h5 : 5 ≤ s.size
            · obtain ⟨a0, a1, a2, a3⟩ := num_ok s 1 0 (by omega)
              obtain ⟨b0, b1, b2, b3⟩ := num_ok s 3 0 (by omega)
              have hM := num2_bd s[1] s[2]
              by_cases hg : 1 ≤ num2 s[3] s[4] ∧ num2 s[3] s[4] ≤ 500 ∧ num2 s[1] s[2] < num2 s[3] s[4]
              · have hd := decS_3 s.data.toList (by omega) (by omega) (by rw [at_list s 0 (by omega)]; exact hk3)
                simp only [at_list s 1 (by omega), at_list s 2 (by omega), at_list s 3 (by omega), at_list s 4 (by omega)] at hd
                rw [dec3G, if_neg (by omega), if_neg (by omega)] at hd
                exact dec_3t s w hs h5 hk3 _ _ rfl rfl hM.1 hg.2.2 hg.2.1 hd
              · refine dec_3e s w hs h1 hk3 (fun x => hg ?_)
                rw [a0, a1, a2, b0] at x
                exact x.2
            · exact dec_3e s w hs h1 hk3 (fun x => no_dec3 s h1 (by omega) x.1)
          · exact dec_kind s w hs h1 _ rfl (by omega)
    · exact dec_nil s w (by omega)
  · refine (dec_long s w (by omega)).mono fun r w' h => ?_
    have hd := decS_long s.data.toList (by omega)
    exact ⟨h.2, by rw [hd]; exact ⟨by decide, h.1⟩⟩
end Go.Proofs.Ytlndinigbppafaa
