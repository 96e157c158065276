/-
  The walk of the document's Decode: growth.
-/
import Derived.Test.YtlndinigbppafaaScanH
import Derived.Deep.RegionHeld3
namespace Go.Proofs.Ytlndinigbppafaa
open Go.RowKit

set_option maxRecDepth 100000 in
set_option maxHeartbeats 4000000 in
theorem dec_2e (s : ByteArray) (w : World) (hs : s.size ≤ 4000) (h1 : 1 ≤ s.size) (hk : (s[0].toNat : Int) = 2) (hbad : ¬ (nuE s (nuA s (nuA s 1 0) (nuE s 1 0)) (nuE s (nuA s 1 0) (nuE s 1 0)) = 0 ∧ 1 ≤ nuR s (nuA s 1 0) (nuE s 1 0) ∧ nuR s (nuA s 1 0) (nuE s 1 0) ≤ 500 ∧ 1 ≤ nuR s 1 0 ∧ nuR s 1 0 ≤ nuR s (nuA s 1 0) (nuE s 1 0))) :
    Calls Try.prog 39 #[.string s] w fun r w' => DecOut s w r w' := by
  have hcase := And.intro (dec2_case s hs h1 hk) hbad
  clear hbad
  go_enter Try.func39, Try.ntmps39
  go_wp2_with fail
  refine (next_ok _ w.heap.size _ s 0 _ _ _ (scan_new _ s _ (by simp) _ (by simp)) (by omega) hs).mono ?_
  rintro r w1 ⟨rfl, hS1, hF1⟩
  rw [hk]
  have ds : DS w (w1.alloc (.cells #[.int .i64 2, .int .i64 0, .int .i64 0, .int .i64 0, .slice none 0 0] 42)) s 1 0 0 (.slice none 0 0) [] w1.heap.size 2 0 0 0 := ds_begin w w1 s _ _ _ _ hS1 hF1
  clear hS1 hF1
  obtain ⟨⟨q1, q2, q3, q4⟩, ⟨m0, m1, m2, m3, m4⟩, ⟨z1, z2, z3, z4⟩, hc3, hc4, hc5⟩ := ds.cells
  have hz := ds.hH
  go_wp2_with fail
  clear q1 q2 q3 q4 m0 m1 m2 m3 m4 z1 z2 z3 z4 hc3 hc4 hc5
  generalize w1.alloc (.cells #[.int .i64 2, .int .i64 0, .int .i64 0, .int .i64 0, .slice none 0 0] 42) = u at ds ⊢
  generalize w1.heap.size = H at ds hz ⊢
  -- m
  refine (number_any _ _ _ _ _ _ _ _ _ ds.sc hs).mono ?_
  rintro r u1 ⟨rfl, hS1, hF1⟩
  have ds1 := ds.frame hF1 hS1
  clear hS1 hF1
  obtain ⟨⟨q1, q2, q3, q4⟩, ⟨m0, m1, m2, m3, m4⟩, ⟨z1, z2, z3, z4⟩, hc3, hc4, hc5⟩ := ds1.cells
  have ds2 := ds1.setM (by simp [Value.ownBlock]) (nuR s 1 0)
  have hM := nuR_bd s 1 0
  go_wp2_with fail
  clear q1 q2 q3 q4 m0 m1 m2 m3 m4 z1 z2 z3 z4 hc3 hc4 hc5 ds1
  generalize u1.setCell ⟨H, 1, none⟩ (.int .i64 (nuR s 1 0)) = u2 at ds2 ⊢
  -- n
  refine (number_any _ _ _ _ _ _ _ _ _ ds2.sc hs).mono ?_
  rintro r u3 ⟨rfl, hS3, hF3⟩
  have ds3 := ds2.frame hF3 hS3
  clear hS3 hF3
  obtain ⟨⟨q1, q2, q3, q4⟩, ⟨m0, m1, m2, m3, m4⟩, ⟨z1, z2, z3, z4⟩, hc3, hc4, hc5⟩ := ds3.cells
  have hN := nuR_bd s (nuA s 1 0) (nuE s 1 0)
  have ds4 := ds3.setN (by simp [Value.ownBlock]) (nuR s (nuA s 1 0) (nuE s 1 0))
  generalize nuR s (nuA s 1 0) (nuE s 1 0) = N at hN ds4 hcase ⊢
  go_wp2_with fail
  clear q1 q2 q3 q4 m0 m1 m2 m3 m4 z1 z2 z3 z4 hc3 hc4 hc5 ds3
  generalize u3.setCell ⟨H, 2, none⟩ (.int .i64 N) = u4 at ds4 ⊢
  -- the root
  refine (number_any _ _ _ _ _ _ _ _ _ ds4.sc hs).mono ?_
  rintro r u5 ⟨rfl, hS5, hF5⟩
  have ds5 := ds4.frame hF5 hS5
  clear hS5 hF5
  have hR := nuR_bd s (nuA s (nuA s 1 0) (nuE s 1 0)) (nuE s (nuA s 1 0) (nuE s 1 0))
  generalize nuR s (nuA s (nuA s 1 0) (nuE s 1 0)) (nuE s (nuA s 1 0) (nuE s 1 0)) = R at hR hcase ⊢
  generalize nuQ s (nuA s (nuA s 1 0) (nuE s 1 0)) (nuE s (nuA s 1 0) (nuE s 1 0)) (nuQ s (nuA s 1 0) (nuE s 1 0) (nuQ s 1 0 0)) = q0 at ds5 hcase ⊢
  generalize nuA s (nuA s (nuA s 1 0) (nuE s 1 0)) (nuE s (nuA s 1 0) (nuE s 1 0)) = a0 at ds5 hcase ⊢
  generalize nuE s (nuA s (nuA s 1 0) (nuE s 1 0)) (nuE s (nuA s 1 0) (nuE s 1 0)) = e0 at ds5 hcase ⊢
  clear ds4 ds2 ds
  generalize nuA s 1 0 = p0 at hcase ⊢
  generalize nuR s 1 0 = M at hM ds5 hcase ⊢
  have HC : Hid _ := hcase
  clear hcase
  obtain ⟨⟨q1, q2, q3, q4⟩, ⟨m0, m1, m2, m3, m4⟩, ⟨z1, z2, z3, z4⟩, ⟨x0, x1, x2, x3, x4⟩, ⟨y0, y1, y2, y3, y4⟩, hc5⟩ := ds5.cells
  have ds6 := ds5.setR (by simp [Value.ownBlock]) R
  by_cases hNb : N < 1
  · go_wp2_with fail
    clear q1 q2 q3 q4 m0 m1 m2 m3 m4 z1 z2 z3 z4 x0 x1 x2 x3 x4 y0 y1 y2 y3 y4 hc5 ds5
    generalize u5.setCell ⟨H, 3, none⟩ (.int .i64 R) = u6 at ds6 ⊢
    refine (no_any _ _ _ _ _ _ _ _ _ _ _ ds6.sc).mono ?_
    rintro r u7 ⟨rfl, hS7, hF7⟩
    have ds7 := ds6.frame hF7 hS7
    have hd7 : decS s.data.toList = .error (noE e0 1, (noQ e0 q0 p0).toNat) ∧ noE e0 1 ≠ 0 ∧ noQ e0 q0 p0 = (noQ e0 q0 p0).toNat := by
      rcases HC.out.1 with ⟨rfl, rfl, h⟩ | ⟨rfl, rfl, _, rfl, h⟩
      · exact ⟨h, by decide, rfl⟩
      · refine ⟨?_, by decide, rfl⟩
        rw [h, dec2G, if_pos (.inl hNb)]
        rfl
    generalize noE e0 1 = e1 at ds7 hd7 ⊢
    generalize noQ e0 q0 p0 = q7 at ds7 hd7 ⊢
    obtain ⟨⟨q1, q2, q3, q4⟩, ⟨m0, m1, m2, m3, m4⟩, ⟨z1, z2, z3, z4⟩, ⟨x0, x1, x2, x3, x4⟩, ⟨y0, y1, y2, y3, y4⟩, hc5⟩ := ds7.cells
    have he1 : (e1 == 0) = false := beq_eq_false_iff_ne.2 hd7.2.1
    have hbl := ds7.bl
    have hne := hd7.2.1
    have hxs : w.heap.size < u7.heap.size := World.block_lt_of_cell? _ _ x0
    have HD : Hid _ := hd7
    clear hS7 hF7 ds6 hd7
    by_cases hMb : M < 1
    · go_wp2_with fail
      refine (no_more _ _ _ _ _ _ _ _ _ _ _ ds7.sc hne).mono ?_
      rintro r _ ⟨rfl, rfl⟩
      go_wp2
      go_region_held3 (fun w' => w'.cell? ⟨w.heap.size + 1, 2, none⟩ = some (.int .i64 e1) ∧ w'.cell? ⟨w.heap.size + 1, 3, none⟩ = some (.int .i64 q7)) (go_keep) (fail)
      all_goals go_wp2
      all_goals refine bodyPost_ret (v := .tuple #[.agg #[.int .i64 0, .int .i64 0, .int .i64 0, .int .i64 0, .slice none 0 0], .int .i64 e1, .int .i64 q7]) (by simp [results, Try.results39, go_sem, x0, x1, x2, x3, x4]) rfl ?_
      all_goals exact DecOut.bad HD.out.1 HD.out.2.1 rfl HD.out.2.2 (by go_grown)
    · have hMc : N < M := by omega
      go_wp2_with fail
      refine (no_more _ _ _ _ _ _ _ _ _ _ _ ds7.sc hne).mono ?_
      rintro r _ ⟨rfl, rfl⟩
      go_wp2
      go_region_held3 (fun w' => w'.cell? ⟨w.heap.size + 1, 2, none⟩ = some (.int .i64 e1) ∧ w'.cell? ⟨w.heap.size + 1, 3, none⟩ = some (.int .i64 q7)) (go_keep) (fail)
      all_goals go_wp2
      all_goals refine bodyPost_ret (v := .tuple #[.agg #[.int .i64 0, .int .i64 0, .int .i64 0, .int .i64 0, .slice none 0 0], .int .i64 e1, .int .i64 q7]) (by simp [results, Try.results39, go_sem, x0, x1, x2, x3, x4]) rfl ?_
      all_goals exact DecOut.bad HD.out.1 HD.out.2.1 rfl HD.out.2.2 (by go_grown)
  by_cases hNc : 500 < N
  · go_wp2_with fail
    clear q1 q2 q3 q4 m0 m1 m2 m3 m4 z1 z2 z3 z4 x0 x1 x2 x3 x4 y0 y1 y2 y3 y4 hc5 ds5
    generalize u5.setCell ⟨H, 3, none⟩ (.int .i64 R) = u6 at ds6 ⊢
    refine (no_any _ _ _ _ _ _ _ _ _ _ _ ds6.sc).mono ?_
    rintro r u7 ⟨rfl, hS7, hF7⟩
    have ds7 := ds6.frame hF7 hS7
    have hd7 : decS s.data.toList = .error (noE e0 1, (noQ e0 q0 p0).toNat) ∧ noE e0 1 ≠ 0 ∧ noQ e0 q0 p0 = (noQ e0 q0 p0).toNat := by
      rcases HC.out.1 with ⟨rfl, rfl, h⟩ | ⟨rfl, rfl, _, rfl, h⟩
      · exact ⟨h, by decide, rfl⟩
      · refine ⟨?_, by decide, rfl⟩
        rw [h, dec2G, if_pos (.inr hNc)]
        rfl
    generalize noE e0 1 = e1 at ds7 hd7 ⊢
    generalize noQ e0 q0 p0 = q7 at ds7 hd7 ⊢
    obtain ⟨⟨q1, q2, q3, q4⟩, ⟨m0, m1, m2, m3, m4⟩, ⟨z1, z2, z3, z4⟩, ⟨x0, x1, x2, x3, x4⟩, ⟨y0, y1, y2, y3, y4⟩, hc5⟩ := ds7.cells
    have he1 : (e1 == 0) = false := beq_eq_false_iff_ne.2 hd7.2.1
    have hbl := ds7.bl
    have hne := hd7.2.1
    have hxs : w.heap.size < u7.heap.size := World.block_lt_of_cell? _ _ x0
    have HD : Hid _ := hd7
    clear hS7 hF7 ds6 hd7
    by_cases hMb : M < 1
    · go_wp2_with fail
      refine (no_more _ _ _ _ _ _ _ _ _ _ _ ds7.sc hne).mono ?_
      rintro r _ ⟨rfl, rfl⟩
      go_wp2
      go_region_held3 (fun w' => w'.cell? ⟨w.heap.size + 1, 2, none⟩ = some (.int .i64 e1) ∧ w'.cell? ⟨w.heap.size + 1, 3, none⟩ = some (.int .i64 q7)) (go_keep) (fail)
      all_goals go_wp2
      all_goals refine bodyPost_ret (v := .tuple #[.agg #[.int .i64 0, .int .i64 0, .int .i64 0, .int .i64 0, .slice none 0 0], .int .i64 e1, .int .i64 q7]) (by simp [results, Try.results39, go_sem, x0, x1, x2, x3, x4]) rfl ?_
      all_goals exact DecOut.bad HD.out.1 HD.out.2.1 rfl HD.out.2.2 (by go_grown)
    · by_cases hMc : N < M
      · go_wp2_with fail
        refine (no_more _ _ _ _ _ _ _ _ _ _ _ ds7.sc hne).mono ?_
        rintro r _ ⟨rfl, rfl⟩
        go_wp2
        go_region_held3 (fun w' => w'.cell? ⟨w.heap.size + 1, 2, none⟩ = some (.int .i64 e1) ∧ w'.cell? ⟨w.heap.size + 1, 3, none⟩ = some (.int .i64 q7)) (go_keep) (fail)
        all_goals go_wp2
        all_goals refine bodyPost_ret (v := .tuple #[.agg #[.int .i64 0, .int .i64 0, .int .i64 0, .int .i64 0, .slice none 0 0], .int .i64 e1, .int .i64 q7]) (by simp [results, Try.results39, go_sem, x0, x1, x2, x3, x4]) rfl ?_
        all_goals exact DecOut.bad HD.out.1 HD.out.2.1 rfl HD.out.2.2 (by go_grown)
      · go_wp2
        go_region_held3 (fun w' => w'.cell? ⟨w.heap.size + 1, 2, none⟩ = some (.int .i64 e1) ∧ w'.cell? ⟨w.heap.size + 1, 3, none⟩ = some (.int .i64 q7)) (go_keep) (fail)
        all_goals go_wp2
        all_goals refine bodyPost_ret (v := .tuple #[.agg #[.int .i64 0, .int .i64 0, .int .i64 0, .int .i64 0, .slice none 0 0], .int .i64 e1, .int .i64 q7]) (by simp [results, Try.results39, go_sem, x0, x1, x2, x3, x4]) rfl ?_
        all_goals exact DecOut.bad HD.out.1 HD.out.2.1 rfl HD.out.2.2 (by go_grown)
  by_cases hMb : M < 1
  · go_wp2_with fail
    clear q1 q2 q3 q4 m0 m1 m2 m3 m4 z1 z2 z3 z4 x0 x1 x2 x3 x4 y0 y1 y2 y3 y4 hc5 ds5
    generalize u5.setCell ⟨H, 3, none⟩ (.int .i64 R) = u6 at ds6 ⊢
    refine (no_any _ _ _ _ _ _ _ _ _ _ _ ds6.sc).mono ?_
    rintro r u7 ⟨rfl, hS7, hF7⟩
    have ds7 := ds6.frame hF7 hS7
    have hd7 : decS s.data.toList = .error (noE e0 1, (noQ e0 q0 1).toNat) ∧ noE e0 1 ≠ 0 ∧ noQ e0 q0 1 = (noQ e0 q0 1).toNat := by
      rcases HC.out.1 with ⟨rfl, rfl, h⟩ | ⟨rfl, rfl, _, rfl, h⟩
      · exact ⟨h, by decide, rfl⟩
      · refine ⟨?_, by decide, rfl⟩
        rw [h, dec2G, if_neg (by omega), if_pos (.inl hMb)]
        rfl
    generalize noE e0 1 = e1 at ds7 hd7 ⊢
    generalize noQ e0 q0 1 = q7 at ds7 hd7 ⊢
    obtain ⟨⟨q1, q2, q3, q4⟩, ⟨m0, m1, m2, m3, m4⟩, ⟨z1, z2, z3, z4⟩, ⟨x0, x1, x2, x3, x4⟩, ⟨y0, y1, y2, y3, y4⟩, hc5⟩ := ds7.cells
    have he1 : (e1 == 0) = false := beq_eq_false_iff_ne.2 hd7.2.1
    have hbl := ds7.bl
    have hne := hd7.2.1
    have hxs : w.heap.size < u7.heap.size := World.block_lt_of_cell? _ _ x0
    have HD : Hid _ := hd7
    clear hS7 hF7 ds6 hd7
    go_wp2
    go_region_held3 (fun w' => w'.cell? ⟨w.heap.size + 1, 2, none⟩ = some (.int .i64 e1) ∧ w'.cell? ⟨w.heap.size + 1, 3, none⟩ = some (.int .i64 q7)) (go_keep) (fail)
    all_goals go_wp2
    all_goals refine bodyPost_ret (v := .tuple #[.agg #[.int .i64 0, .int .i64 0, .int .i64 0, .int .i64 0, .slice none 0 0], .int .i64 e1, .int .i64 q7]) (by simp [results, Try.results39, go_sem, x0, x1, x2, x3, x4]) rfl ?_
    all_goals exact DecOut.bad HD.out.1 HD.out.2.1 rfl HD.out.2.2 (by go_grown)
  by_cases hMc : N < M
  · go_wp2_with fail
    clear q1 q2 q3 q4 m0 m1 m2 m3 m4 z1 z2 z3 z4 x0 x1 x2 x3 x4 y0 y1 y2 y3 y4 hc5 ds5
    generalize u5.setCell ⟨H, 3, none⟩ (.int .i64 R) = u6 at ds6 ⊢
    refine (no_any _ _ _ _ _ _ _ _ _ _ _ ds6.sc).mono ?_
    rintro r u7 ⟨rfl, hS7, hF7⟩
    have ds7 := ds6.frame hF7 hS7
    have hd7 : decS s.data.toList = .error (noE e0 1, (noQ e0 q0 1).toNat) ∧ noE e0 1 ≠ 0 ∧ noQ e0 q0 1 = (noQ e0 q0 1).toNat := by
      rcases HC.out.1 with ⟨rfl, rfl, h⟩ | ⟨rfl, rfl, _, rfl, h⟩
      · exact ⟨h, by decide, rfl⟩
      · refine ⟨?_, by decide, rfl⟩
        rw [h, dec2G, if_neg (by omega), if_pos (.inr hMc)]
        rfl
    generalize noE e0 1 = e1 at ds7 hd7 ⊢
    generalize noQ e0 q0 1 = q7 at ds7 hd7 ⊢
    obtain ⟨⟨q1, q2, q3, q4⟩, ⟨m0, m1, m2, m3, m4⟩, ⟨z1, z2, z3, z4⟩, ⟨x0, x1, x2, x3, x4⟩, ⟨y0, y1, y2, y3, y4⟩, hc5⟩ := ds7.cells
    have he1 : (e1 == 0) = false := beq_eq_false_iff_ne.2 hd7.2.1
    have hbl := ds7.bl
    have hne := hd7.2.1
    have hxs : w.heap.size < u7.heap.size := World.block_lt_of_cell? _ _ x0
    have HD : Hid _ := hd7
    clear hS7 hF7 ds6 hd7
    go_wp2
    go_region_held3 (fun w' => w'.cell? ⟨w.heap.size + 1, 2, none⟩ = some (.int .i64 e1) ∧ w'.cell? ⟨w.heap.size + 1, 3, none⟩ = some (.int .i64 q7)) (go_keep) (fail)
    all_goals go_wp2
    all_goals refine bodyPost_ret (v := .tuple #[.agg #[.int .i64 0, .int .i64 0, .int .i64 0, .int .i64 0, .slice none 0 0], .int .i64 e1, .int .i64 q7]) (by simp [results, Try.results39, go_sem, x0, x1, x2, x3, x4]) rfl ?_
    all_goals exact DecOut.bad HD.out.1 HD.out.2.1 rfl HD.out.2.2 (by go_grown)
  have hd7 : decS s.data.toList = .error (e0, q0.toNat) ∧ e0 ≠ 0 ∧ q0 = q0.toNat := by
    rcases HC.out.1 with ⟨rfl, rfl, h⟩ | ⟨rfl, rfl, _, rfl, h⟩
    · exact ⟨h, by decide, rfl⟩
    · exact absurd ⟨rfl, by omega, by omega, by omega, by omega⟩ HC.out.2
  have he1 : (e0 == 0) = false := beq_eq_false_iff_ne.2 hd7.2.1
  have hne := hd7.2.1
  have HD : Hid _ := hd7
  clear hd7 HC
  go_wp2
  clear q1 q2 q3 q4 m0 m1 m2 m3 m4 z1 z2 z3 z4 x0 x1 x2 x3 x4 y0 y1 y2 y3 y4 hc5 ds5
  generalize u5.setCell ⟨H, 3, none⟩ (.int .i64 R) = u6 at ds6 ⊢
  obtain ⟨⟨q1, q2, q3, q4⟩, ⟨m0, m1, m2, m3, m4⟩, ⟨z1, z2, z3, z4⟩, ⟨x0, x1, x2, x3, x4⟩, ⟨y0, y1, y2, y3, y4⟩, hc5⟩ := ds6.cells
  have hbl := ds6.bl
  have hxs : w.heap.size < u6.heap.size := World.block_lt_of_cell? _ _ x0
  go_region_held3 (fun w' => w'.cell? ⟨w.heap.size + 1, 2, none⟩ = some (.int .i64 e0) ∧ w'.cell? ⟨w.heap.size + 1, 3, none⟩ = some (.int .i64 q0)) (go_keep) (fail)
  all_goals go_wp2
  all_goals refine bodyPost_ret (v := .tuple #[.agg #[.int .i64 0, .int .i64 0, .int .i64 0, .int .i64 0, .slice none 0 0], .int .i64 e0, .int .i64 q0]) (by simp [results, Try.results39, go_sem, x0, x1, x2, x3, x4]) rfl ?_
  all_goals exact DecOut.bad HD.out.1 HD.out.2.1 rfl HD.out.2.2 (by go_grown)
end Go.Proofs.Ytlndinigbppafaa
