/-
  The walk of the document's Decode: a commitment.
-/
import Derived.Test.YtlndinigbppafaaScanM
import Derived.Deep.RegionHeld3
namespace Go.Proofs.Ytlndinigbppafaa
open Go.RowKit

theorem dec1_case (s : ByteArray) (hs : s.size ≤ 4000) (h1 : 1 ≤ s.size) (hk : (s[0].toNat : Int) = 1) :
    (nuE s (nuA s 1 0) (nuE s 1 0) = 5 ∧ nuQ s (nuA s 1 0) (nuE s 1 0) (nuQ s 1 0 0) = s.size ∧ decS s.data.toList = .error (5, s.size)) ∨
    (nuE s (nuA s 1 0) (nuE s 1 0) = 0 ∧ nuQ s (nuA s 1 0) (nuE s 1 0) (nuQ s 1 0 0) = 0 ∧ nuA s (nuA s 1 0) (nuE s 1 0) = 5 ∧ decS s.data.toList = dec1G s.data.toList (nuR s 1 0) (nuR s (nuA s 1 0) (nuE s 1 0))) := by
  have hll := len_toList s
  have hk' : (s.data.toList[0]'(by omega)).toNat = (1 : Int) := by rw [at_list s 0 (by omega)]; exact hk
  by_cases h7 : s.size < 5
  · left
    have hd := decS_1s s.data.toList (by omega) hk' (by omega)
    rw [hll] at hd
    refine ⟨?_, ?_, hd⟩
    · by_cases h3 : s.size < 3
      · obtain ⟨a1, a2⟩ := num_short s 1 0 (by omega) (by omega)
        rw [a1]
        simp only [(num_err s _ 5 0 (by decide)).2.2.1]
      · obtain ⟨_, a1, a2, a3⟩ := num_ok s 1 0 (by omega)
        rw [a1, a2]
        exact (num_short s 3 0 (by omega) (by omega)).1
    · by_cases h3 : s.size < 3
      · obtain ⟨a1, a2⟩ := num_short s 1 0 (by omega) (by omega)
        rw [a1, a2]
        simp only [(num_err s _ 5 _ (by decide)).2.2.2]
      · obtain ⟨_, a1, a2, a3⟩ := num_ok s 1 0 (by omega)
        rw [a1, a2, a3]
        exact (num_short s 3 0 (by omega) (by omega)).2
  · right
    obtain ⟨a0, a1, a2, a3⟩ := num_ok s 1 0 (by omega)
    rw [a0, a1, a2, a3]
    obtain ⟨b0, b1, b2, b3⟩ := num_ok s 3 0 (by omega)
    rw [b0, b1, b2, b3]
    have hd := decS_1 s.data.toList (by omega) (by omega) hk'
    simp only [at_list s 1 (by omega), at_list s 2 (by omega), at_list s 3 (by omega), at_list s 4 (by omega)] at hd
    exact ⟨rfl, rfl, rfl, hd⟩

set_option maxRecDepth 100000 in
set_option maxHeartbeats 4000000 in
theorem dec_1e (s : ByteArray) (w : World) (hs : s.size ≤ 4000) (h1 : 1 ≤ s.size) (hk : (s[0].toNat : Int) = 1) (hbad : ¬ (nuE s (nuA s 1 0) (nuE s 1 0) = 0 ∧ 1 ≤ nuR s 1 0 ∧ nuR s 1 0 ≤ 500)) :
    Calls Try.prog 39 #[.string s] w fun r w' => DecOut s w r w' := by
  have hcase := And.intro (dec1_case s hs h1 hk) hbad
  clear hbad
  go_enter Try.func39, Try.ntmps39
  go_wp2_with fail
  refine (next_ok _ w.heap.size _ s 0 _ _ _ (scan_new _ s _ (by simp) _ (by simp)) (by omega) hs).mono ?_
  rintro r w1 ⟨rfl, hS1, hF1⟩
  rw [hk]
  have ds : DS w (w1.alloc (.cells #[.int .i64 1, .int .i64 0, .int .i64 0, .int .i64 0, .slice none 0 0] 42)) s 1 0 0 (.slice none 0 0) [] w1.heap.size 1 0 0 0 := ds_begin w w1 s _ _ _ _ hS1 hF1
  clear hS1 hF1
  obtain ⟨⟨q1, q2, q3, q4⟩, ⟨m0, m1, m2, m3, m4⟩, ⟨z1, z2, z3, z4⟩, hc3, hc4, hc5⟩ := ds.cells
  have hz := ds.hH
  go_wp2_with fail
  clear q1 q2 q3 q4 m0 m1 m2 m3 m4 z1 z2 z3 z4 hc3 hc4 hc5
  generalize w1.alloc (.cells #[.int .i64 1, .int .i64 0, .int .i64 0, .int .i64 0, .slice none 0 0] 42) = u at ds ⊢
  generalize w1.heap.size = H at ds hz ⊢
  refine (number_any _ _ _ _ _ _ _ _ _ ds.sc hs).mono ?_
  rintro r u3 ⟨rfl, hS1, hF1⟩
  have ds3 := ds.frame hF1 hS1
  clear hS1 hF1
  obtain ⟨⟨q1, q2, q3, q4⟩, ⟨m0, m1, m2, m3, m4⟩, ⟨z1, z2, z3, z4⟩, hc3, hc4, hc5⟩ := ds3.cells
  have ds4 := ds3.setN (by simp [Value.ownBlock]) (nuR s 1 0)
  have hN := nuR_bd s 1 0
  go_wp2_with fail
  clear q1 q2 q3 q4 m0 m1 m2 m3 m4 z1 z2 z3 z4 hc3 hc4 hc5 ds3
  generalize u3.setCell ⟨H, 2, none⟩ (.int .i64 (nuR s 1 0)) = u4 at ds4 ⊢
  refine (number_any _ _ _ _ _ _ _ _ _ ds4.sc hs).mono ?_
  rintro r u5 ⟨rfl, hS3, hF3⟩
  have ds5 := ds4.frame hF3 hS3
  clear hS3 hF3
  generalize nuQ s (nuA s 1 0) (nuE s 1 0) (nuQ s 1 0 0) = q0 at ds5 hcase ⊢
  generalize nuA s (nuA s 1 0) (nuE s 1 0) = a0 at ds5 hcase ⊢
  generalize nuE s (nuA s 1 0) (nuE s 1 0) = e0 at ds5 hcase ⊢
  have hR := nuR_bd s (nuA s 1 0) (nuE s 1 0)
  generalize nuR s (nuA s 1 0) (nuE s 1 0) = R at hR hcase ⊢
  clear ds4 ds
  generalize nuR s 1 0 = N at hN ds5 hcase ⊢
  have HC : Hid _ := hcase
  clear hcase
  obtain ⟨⟨q1, q2, q3, q4⟩, ⟨m0, m1, m2, m3, m4⟩, ⟨z1, z2, z3, z4⟩, ⟨x0, x1, x2, x3, x4⟩, ⟨y0, y1, y2, y3, y4⟩, hc5⟩ := ds5.cells
  have ds6 := ds5.setR (by simp [Value.ownBlock]) R
  by_cases hNb : N < 1
  · go_wp2_with fail
    clear q1 q2 q3 q4 m0 m1 m2 m3 m4 z1 z2 z3 z4 x0 x1 x2 x3 x4 y0 y1 y2 y3 y4 hc5 ds5
    generalize u5.setCell ⟨H, 3, none⟩ (.int .i64 R) = u6 at ds6 ⊢
    refine (no_any _ _ _ _ _ _ _ _ _ _ _ ds6.sc).mono ?_
    rintro r u7 ⟨rfl, hS7, hF7⟩
    have ds7 := ds6.frame hF7 hS7
    have hd7 : decS s.data.toList = .error (noE e0 1, (noQ e0 q0 1).toNat) ∧ noE e0 1 ≠ 0 ∧ noQ e0 q0 1 = (noQ e0 q0 1).toNat := by
      rcases HC.out.1 with ⟨rfl, rfl, h⟩ | ⟨rfl, rfl, _, h⟩
      · exact ⟨h, by decide, rfl⟩
      · refine ⟨?_, by decide, rfl⟩
        rw [h, dec1G, if_pos (.inl hNb)]
        rfl
    generalize noE e0 1 = e1 at ds7 hd7 ⊢
    generalize noQ e0 q0 1 = q7 at ds7 hd7 ⊢
    obtain ⟨⟨q1, q2, q3, q4⟩, ⟨m0, m1, m2, m3, m4⟩, ⟨z1, z2, z3, z4⟩, ⟨x0, x1, x2, x3, x4⟩, ⟨y0, y1, y2, y3, y4⟩, hc5⟩ := ds7.cells
    have he1 : (e1 == 0) = false := beq_eq_false_iff_ne.2 hd7.2.1
    have hbl := ds7.bl
    have hne := hd7.2.1
    have hxs : w.heap.size < u7.heap.size := World.block_lt_of_cell? _ _ x0
    have HD : Hid _ := hd7
    clear hS7 hF7 ds6 hd7
    go_wp2
    go_region_held3 (fun w' => w'.cell? ⟨w.heap.size + 1, 2, none⟩ = some (.int .i64 e1) ∧ w'.cell? ⟨w.heap.size + 1, 3, none⟩ = some (.int .i64 q7)) (go_keep) (fail)
    all_goals go_wp2
    all_goals refine bodyPost_ret (v := .tuple #[.agg #[.int .i64 0, .int .i64 0, .int .i64 0, .int .i64 0, .slice none 0 0], .int .i64 e1, .int .i64 q7]) (by simp [results, Try.results39, go_sem, x0, x1, x2, x3, x4]) rfl ?_
    all_goals exact DecOut.bad HD.out.1 HD.out.2.1 rfl HD.out.2.2 (by go_grown)
  by_cases hNc : 500 < N
  · go_wp2_with fail
    clear q1 q2 q3 q4 m0 m1 m2 m3 m4 z1 z2 z3 z4 x0 x1 x2 x3 x4 y0 y1 y2 y3 y4 hc5 ds5
    generalize u5.setCell ⟨H, 3, none⟩ (.int .i64 R) = u6 at ds6 ⊢
    refine (no_any _ _ _ _ _ _ _ _ _ _ _ ds6.sc).mono ?_
    rintro r u7 ⟨rfl, hS7, hF7⟩
    have ds7 := ds6.frame hF7 hS7
    have hd7 : decS s.data.toList = .error (noE e0 1, (noQ e0 q0 1).toNat) ∧ noE e0 1 ≠ 0 ∧ noQ e0 q0 1 = (noQ e0 q0 1).toNat := by
      rcases HC.out.1 with ⟨rfl, rfl, h⟩ | ⟨rfl, rfl, _, h⟩
      · exact ⟨h, by decide, rfl⟩
      · refine ⟨?_, by decide, rfl⟩
        rw [h, dec1G, if_pos (.inr hNc)]
        rfl
    generalize noE e0 1 = e1 at ds7 hd7 ⊢
    generalize noQ e0 q0 1 = q7 at ds7 hd7 ⊢
    obtain ⟨⟨q1, q2, q3, q4⟩, ⟨m0, m1, m2, m3, m4⟩, ⟨z1, z2, z3, z4⟩, ⟨x0, x1, x2, x3, x4⟩, ⟨y0, y1, y2, y3, y4⟩, hc5⟩ := ds7.cells
    have he1 : (e1 == 0) = false := beq_eq_false_iff_ne.2 hd7.2.1
    have hbl := ds7.bl
    have hne := hd7.2.1
    have hxs : w.heap.size < u7.heap.size := World.block_lt_of_cell? _ _ x0
    have HD : Hid _ := hd7
    clear hS7 hF7 ds6 hd7
    go_wp2
    go_region_held3 (fun w' => w'.cell? ⟨w.heap.size + 1, 2, none⟩ = some (.int .i64 e1) ∧ w'.cell? ⟨w.heap.size + 1, 3, none⟩ = some (.int .i64 q7)) (go_keep) (fail)
    all_goals go_wp2
    all_goals refine bodyPost_ret (v := .tuple #[.agg #[.int .i64 0, .int .i64 0, .int .i64 0, .int .i64 0, .slice none 0 0], .int .i64 e1, .int .i64 q7]) (by simp [results, Try.results39, go_sem, x0, x1, x2, x3, x4]) rfl ?_
    all_goals exact DecOut.bad HD.out.1 HD.out.2.1 rfl HD.out.2.2 (by go_grown)
  have hd7 : decS s.data.toList = .error (e0, q0.toNat) ∧ e0 ≠ 0 ∧ q0 = q0.toNat := by
    rcases HC.out.1 with ⟨rfl, rfl, h⟩ | ⟨rfl, rfl, _⟩
    · exact ⟨h, by decide, rfl⟩
    · exact absurd ⟨rfl, by omega, by omega⟩ HC.out.2
  have he1 : (e0 == 0) = false := beq_eq_false_iff_ne.2 hd7.2.1
  have hne := hd7.2.1
  have HD : Hid _ := hd7
  clear hd7 HC
  go_wp2
  clear q1 q2 q3 q4 m0 m1 m2 m3 m4 z1 z2 z3 z4 x0 x1 x2 x3 x4 y0 y1 y2 y3 y4 hc5 ds5
  generalize u5.setCell ⟨H, 3, none⟩ (.int .i64 R) = u6 at ds6 ⊢
  obtain ⟨⟨q1, q2, q3, q4⟩, ⟨m0, m1, m2, m3, m4⟩, ⟨z1, z2, z3, z4⟩, ⟨x0, x1, x2, x3, x4⟩, ⟨y0, y1, y2, y3, y4⟩, hc5⟩ := ds6.cells
  have hbl := ds6.bl
  have hxs : w.heap.size < u6.heap.size := World.block_lt_of_cell? _ _ x0
  go_region_held3 (fun w' => w'.cell? ⟨w.heap.size + 1, 2, none⟩ = some (.int .i64 e0) ∧ w'.cell? ⟨w.heap.size + 1, 3, none⟩ = some (.int .i64 q0)) (go_keep) (fail)
  all_goals go_wp2
  all_goals refine bodyPost_ret (v := .tuple #[.agg #[.int .i64 0, .int .i64 0, .int .i64 0, .int .i64 0, .slice none 0 0], .int .i64 e0, .int .i64 q0]) (by simp [results, Try.results39, go_sem, x0, x1, x2, x3, x4]) rfl ?_
  all_goals exact DecOut.bad HD.out.1 HD.out.2.1 rfl HD.out.2.2 (by go_grown)

set_option maxRecDepth 100000 in
set_option maxHeartbeats 4000000 in
theorem dec_1t (s : ByteArray) (w : World) (hs : s.size ≤ 4000) (h5 : 5 ≤ s.size) (hk : (s[0].toNat : Int) = 1) (N R : Int) (eN : num2 s[1] s[2] = N) (eR : num2 s[3] s[4] = R) (hN1 : 1 ≤ N) (hN : N ≤ 500)
    (hd : decS s.data.toList = dec1G s.data.toList N R) :
    Calls Try.prog 39 #[.string s] w fun r w' => DecOut s w r w' := by
  have HD : Hid _ := hd
  clear hd
  have hR := num2_bd s[3] s[4]
  rw [eR] at hR
  go_enter Try.func39, Try.ntmps39
  go_wp2_with fail
  refine (next_ok _ w.heap.size _ s 0 _ _ _ (scan_new _ s _ (by simp) _ (by simp)) (by omega) hs).mono ?_
  rintro r w1 ⟨rfl, hS1, hF1⟩
  rw [hk]
  have ds : DS w (w1.alloc (.cells #[.int .i64 1, .int .i64 0, .int .i64 0, .int .i64 0, .slice none 0 0] 42)) s 1 0 0 (.slice none 0 0) [] w1.heap.size 1 0 0 0 := ds_begin w w1 s _ _ _ _ hS1 hF1
  clear hS1 hF1
  obtain ⟨⟨q1, q2, q3, q4⟩, ⟨m0, m1, m2, m3, m4⟩, ⟨z1, z2, z3, z4⟩, hc3, hc4, hc5⟩ := ds.cells
  have hz := ds.hH
  go_wp2_with fail
  clear q1 q2 q3 q4 m0 m1 m2 m3 m4 z1 z2 z3 z4 hc3 hc4 hc5
  generalize w1.alloc (.cells #[.int .i64 1, .int .i64 0, .int .i64 0, .int .i64 0, .slice none 0 0] 42) = u at ds ⊢
  generalize w1.heap.size = H at ds hz ⊢
  refine (number_ok _ _ _ _ _ _ _ _ ds.sc hs (by omega)).mono ?_
  rintro r u3 ⟨rfl, hS1, hF1⟩
  have ds3 := ds.frame hF1 hS1
  clear hS1 hF1
  simp only [Nat.reduceAdd] at ds3 ⊢
  rw [eN]
  obtain ⟨⟨q1, q2, q3, q4⟩, ⟨m0, m1, m2, m3, m4⟩, ⟨z1, z2, z3, z4⟩, hc3, hc4, hc5⟩ := ds3.cells
  have ds4 := ds3.setN (by simp [Value.ownBlock]) N
  go_wp2_with fail
  clear q1 q2 q3 q4 m0 m1 m2 m3 m4 z1 z2 z3 z4 hc3 hc4 hc5 ds3
  generalize u3.setCell ⟨H, 2, none⟩ (.int .i64 N) = u4 at ds4 ⊢
  refine (number_ok _ _ _ _ _ _ _ _ ds4.sc hs (by omega)).mono ?_
  rintro r u5 ⟨rfl, hS3, hF3⟩
  have ds5 := ds4.frame hF3 hS3
  clear hS3 hF3
  simp only [Nat.reduceAdd] at ds5 ⊢
  rw [eR]
  obtain ⟨⟨q1, q2, q3, q4⟩, ⟨m0, m1, m2, m3, m4⟩, ⟨z1, z2, z3, z4⟩, ⟨x0, x1, x2, x3, x4⟩, ⟨y0, y1, y2, y3, y4⟩, hc5⟩ := ds5.cells
  have ds9 := ds5.setR (by simp [Value.ownBlock]) R
  clear ds4 ds
  by_cases hmore : 5 < s.size
  · have HB : Hid (decS s.data.toList = .error (6, 5)) := by
      show _ = _
      rw [HD.out, dec1G, if_neg (by omega), if_pos (by rw [len_toList]; exact hmore)]
    clear HD
    go_wp2_with fail
    clear q1 q2 q3 q4 m0 m1 m2 m3 m4 z1 z2 z3 z4 x0 x1 x2 x3 x4 y0 y1 y2 y3 y4 hc5 ds5
    generalize u5.setCell ⟨H, 3, none⟩ (.int .i64 R) = u9 at ds9 ⊢
    refine (no_first _ _ _ _ _ _ _ _ _ _ ds9.sc).mono ?_
    rintro r ux ⟨rfl, hSx, hFx⟩
    have dsx := ds9.frame hFx hSx
    clear hSx hFx
    obtain ⟨⟨q1, q2, q3, q4⟩, ⟨m0, m1, m2, m3, m4⟩, ⟨z1, z2, z3, z4⟩, ⟨x0, x1, x2, x3, x4⟩, ⟨y0, y1, y2, y3, y4⟩, hc5⟩ := dsx.cells
    have hxs : w.heap.size < ux.heap.size := World.block_lt_of_cell? _ _ x0
    have hblx := dsx.bl
    go_wp2
    go_region_held3 (fun w' => w'.cell? ⟨w.heap.size + 1, 2, none⟩ = some (.int .i64 6) ∧ w'.cell? ⟨w.heap.size + 1, 3, none⟩ = some (.int .i64 5)) (go_keep) (fail)
    all_goals go_wp2
    all_goals refine bodyPost_ret (v := .tuple #[.agg #[.int .i64 0, .int .i64 0, .int .i64 0, .int .i64 0, .slice none 0 0], .int .i64 6, .int .i64 5]) (by simp [results, Try.results39, go_sem, x0, x1, x2, x3, x4]) rfl ?_
    all_goals exact DecOut.bad HB.out (by decide) rfl rfl (by go_grown)
  · have HB : Hid (decS s.data.toList = .ok ⟨1, 0, N, R, []⟩) := by
      show _ = _
      rw [HD.out, dec1G, if_neg (by omega), if_neg (by rw [len_toList]; exact hmore)]
    clear HD
    have hbl := ds5.bl
    have hxs : w.heap.size < u5.heap.size := World.block_lt_of_cell? _ _ x0
    go_wp2
    refine bodyPost_ret (v := .tuple #[.agg #[.int .i64 1, .int .i64 0, .int .i64 N, .int .i64 R, .slice none 0 0], .int .i64 0, .int .i64 0]) (by simp [results, Try.results39, go_sem, x0, x1, x2, x3, x4]) rfl ?_
    exact DecOut.good HB.out (by go_grown) ⟨none, 0, rfl, fun _ => rfl, fun h => (by simp at h)⟩
end Go.Proofs.Ytlndinigbppafaa
