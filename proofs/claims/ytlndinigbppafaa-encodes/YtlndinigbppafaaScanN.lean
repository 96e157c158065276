/-
  The walk of the document's Decode: a member, with errors.
-/
import Derived.Test.YtlndinigbppafaaScanH
import Derived.Deep.RegionHeld3
namespace Go.Proofs.Ytlndinigbppafaa
open Go.RowKit

theorem dec3_case (s : ByteArray) (hs : s.size ≤ 4000) (h1 : 1 ≤ s.size) (hk : (s[0].toNat : Int) = 3) :
    (nuE s (nuA s 1 0) (nuE s 1 0) = 5 ∧ nuQ s (nuA s 1 0) (nuE s 1 0) (nuQ s 1 0 0) = s.size ∧ decS s.data.toList = .error (5, s.size)) ∨
    (nuE s (nuA s 1 0) (nuE s 1 0) = 0 ∧ nuQ s (nuA s 1 0) (nuE s 1 0) (nuQ s 1 0 0) = 0 ∧ nuA s (nuA s 1 0) (nuE s 1 0) = 5 ∧ nuA s 1 0 = 3 ∧ decS s.data.toList = dec3G s.data.toList (nuR s 1 0) (nuR s (nuA s 1 0) (nuE s 1 0))) := by
  have hll := len_toList s
  have hk' : (s.data.toList[0]'(by omega)).toNat = (3 : Int) := by rw [at_list s 0 (by omega)]; exact hk
  by_cases h7 : s.size < 5
  · left
    have hd := decS_3s s.data.toList (by omega) hk' (by omega)
    rw [hll] at hd
    refine ⟨?_, ?_, hd⟩
    · by_cases h3 : s.size < 3
      · obtain ⟨a1, a2⟩ := num_short s 1 0 (by omega) (by omega)
        rw [a1]
        simp only [(num_err s _ 5 0 (by decide)).2.2.1]
      · obtain ⟨_, a1, a2, a3⟩ := num_ok s 1 0 (by omega)
        rw [a1, a2]
        exact (num_short s 3 0 (by omega) (by omega)).1
    · by_cases h3 : s.size < 3
      · obtain ⟨a1, a2⟩ := num_short s 1 0 (by omega) (by omega)
        rw [a1, a2]
        simp only [(num_err s _ 5 _ (by decide)).2.2.2]
      · obtain ⟨_, a1, a2, a3⟩ := num_ok s 1 0 (by omega)
        rw [a1, a2, a3]
        exact (num_short s 3 0 (by omega) (by omega)).2
  · right
    obtain ⟨a0, a1, a2, a3⟩ := num_ok s 1 0 (by omega)
    rw [a0, a1, a2, a3]
    obtain ⟨b0, b1, b2, b3⟩ := num_ok s 3 0 (by omega)
    rw [b0, b1, b2, b3]
    have hd := decS_3 s.data.toList (by omega) (by omega) hk'
    simp only [at_list s 1 (by omega), at_list s 2 (by omega), at_list s 3 (by omega), at_list s 4 (by omega)] at hd
    exact ⟨rfl, rfl, rfl, rfl, hd⟩

set_option maxRecDepth 100000 in
set_option maxHeartbeats 4000000 in
theorem dec_3e (s : ByteArray) (w : World) (hs : s.size ≤ 4000) (h1 : 1 ≤ s.size) (hk : (s[0].toNat : Int) = 3) (hbad : ¬ (nuE s (nuA s 1 0) (nuE s 1 0) = 0 ∧ 1 ≤ nuR s (nuA s 1 0) (nuE s 1 0) ∧ nuR s (nuA s 1 0) (nuE s 1 0) ≤ 500 ∧ nuR s 1 0 < nuR s (nuA s 1 0) (nuE s 1 0))) :
    Calls Try.prog 39 #[.string s] w fun r w' => DecOut s w r w' := by
  have hcase := And.intro (dec3_case s hs h1 hk) hbad
  clear hbad
  go_enter Try.func39, Try.ntmps39
  go_wp2_with fail
  refine (next_ok _ w.heap.size _ s 0 _ _ _ (scan_new _ s _ (by simp) _ (by simp)) (by omega) hs).mono ?_
  rintro r w1 ⟨rfl, hS1, hF1⟩
  rw [hk]
  have ds : DS w (w1.alloc (.cells #[.int .i64 3, .int .i64 0, .int .i64 0, .int .i64 0, .slice none 0 0] 42)) s 1 0 0 (.slice none 0 0) [] w1.heap.size 3 0 0 0 := ds_begin w w1 s _ _ _ _ hS1 hF1
  clear hS1 hF1
  obtain ⟨⟨q1, q2, q3, q4⟩, ⟨m0, m1, m2, m3, m4⟩, ⟨z1, z2, z3, z4⟩, hc3, hc4, hc5⟩ := ds.cells
  have hz := ds.hH
  go_wp2_with fail
  clear q1 q2 q3 q4 m0 m1 m2 m3 m4 z1 z2 z3 z4 hc3 hc4 hc5
  generalize w1.alloc (.cells #[.int .i64 3, .int .i64 0, .int .i64 0, .int .i64 0, .slice none 0 0] 42) = u at ds ⊢
  generalize w1.heap.size = H at ds hz ⊢
  refine (number_any _ _ _ _ _ _ _ _ _ ds.sc hs).mono ?_
  rintro r u1 ⟨rfl, hS1, hF1⟩
  have ds1 := ds.frame hF1 hS1
  clear hS1 hF1
  obtain ⟨⟨q1, q2, q3, q4⟩, ⟨m0, m1, m2, m3, m4⟩, ⟨z1, z2, z3, z4⟩, hc3, hc4, hc5⟩ := ds1.cells
  have ds2 := ds1.setM (by simp [Value.ownBlock]) (nuR s 1 0)
  have hM := nuR_bd s 1 0
  go_wp2_with fail
  clear q1 q2 q3 q4 m0 m1 m2 m3 m4 z1 z2 z3 z4 hc3 hc4 hc5 ds1
  generalize u1.setCell ⟨H, 1, none⟩ (.int .i64 (nuR s 1 0)) = u2 at ds2 ⊢
  refine (number_any _ _ _ _ _ _ _ _ _ ds2.sc hs).mono ?_
  rintro r u3 ⟨rfl, hS3, hF3⟩
  have ds3 := ds2.frame hF3 hS3
  clear hS3 hF3
  generalize nuQ s (nuA s 1 0) (nuE s 1 0) (nuQ s 1 0 0) = q0 at ds3 hcase ⊢
  generalize nuA s (nuA s 1 0) (nuE s 1 0) = a0 at ds3 hcase ⊢
  generalize nuE s (nuA s 1 0) (nuE s 1 0) = e0 at ds3 hcase ⊢
  have hN := nuR_bd s (nuA s 1 0) (nuE s 1 0)
  generalize nuR s (nuA s 1 0) (nuE s 1 0) = N at hN hcase ⊢
  clear ds2 ds
  generalize nuA s 1 0 = p0 at hcase ⊢
  generalize nuR s 1 0 = M at hM ds3 hcase ⊢
  have HC : Hid _ := hcase
  clear hcase
  obtain ⟨⟨q1, q2, q3, q4⟩, ⟨m0, m1, m2, m3, m4⟩, ⟨z1, z2, z3, z4⟩, ⟨x0, x1, x2, x3, x4⟩, ⟨y0, y1, y2, y3, y4⟩, hc5⟩ := ds3.cells
  have ds4 := ds3.setN (by simp [Value.ownBlock]) N
  by_cases hNb : N < 1
  · go_wp2_with fail
    clear q1 q2 q3 q4 m0 m1 m2 m3 m4 z1 z2 z3 z4 x0 x1 x2 x3 x4 y0 y1 y2 y3 y4 hc5 ds3
    generalize u3.setCell ⟨H, 2, none⟩ (.int .i64 N) = u6 at ds4 ⊢
    refine (no_any _ _ _ _ _ _ _ _ _ _ _ ds4.sc).mono ?_
    rintro r u7 ⟨rfl, hS7, hF7⟩
    have ds7 := ds4.frame hF7 hS7
    have hd7 : decS s.data.toList = .error (noE e0 1, (noQ e0 q0 p0).toNat) ∧ noE e0 1 ≠ 0 ∧ noQ e0 q0 p0 = (noQ e0 q0 p0).toNat := by
      rcases HC.out.1 with ⟨rfl, rfl, h⟩ | ⟨rfl, rfl, _, rfl, h⟩
      · exact ⟨h, by decide, rfl⟩
      · refine ⟨?_, by decide, rfl⟩
        rw [h, dec3G, if_pos (.inl hNb)]
        rfl
    generalize noE e0 1 = e1 at ds7 hd7 ⊢
    generalize noQ e0 q0 p0 = q7 at ds7 hd7 ⊢
    obtain ⟨⟨q1, q2, q3, q4⟩, ⟨m0, m1, m2, m3, m4⟩, ⟨z1, z2, z3, z4⟩, ⟨x0, x1, x2, x3, x4⟩, ⟨y0, y1, y2, y3, y4⟩, hc5⟩ := ds7.cells
    have he1 : (e1 == 0) = false := beq_eq_false_iff_ne.2 hd7.2.1
    have hbl := ds7.bl
    have hne := hd7.2.1
    have hxs : w.heap.size < u7.heap.size := World.block_lt_of_cell? _ _ x0
    have HD : Hid _ := hd7
    clear hS7 hF7 ds4 hd7
    have hMb : N ≤ M := by omega
    go_wp2_with fail
    refine (no_more _ _ _ _ _ _ _ _ _ _ _ ds7.sc hne).mono ?_
    rintro r _ ⟨rfl, rfl⟩
    go_wp2
    go_region_held3 (fun w' => w'.cell? ⟨w.heap.size + 1, 2, none⟩ = some (.int .i64 e1) ∧ w'.cell? ⟨w.heap.size + 1, 3, none⟩ = some (.int .i64 q7)) (go_keep) (fail)
    all_goals go_wp2
    all_goals refine bodyPost_ret (v := .tuple #[.agg #[.int .i64 0, .int .i64 0, .int .i64 0, .int .i64 0, .slice none 0 0], .int .i64 e1, .int .i64 q7]) (by simp [results, Try.results39, go_sem, x0, x1, x2, x3, x4]) rfl ?_
    all_goals exact DecOut.bad HD.out.1 HD.out.2.1 rfl HD.out.2.2 (by go_grown)
  by_cases hNc : 500 < N
  · go_wp2_with fail
    clear q1 q2 q3 q4 m0 m1 m2 m3 m4 z1 z2 z3 z4 x0 x1 x2 x3 x4 y0 y1 y2 y3 y4 hc5 ds3
    generalize u3.setCell ⟨H, 2, none⟩ (.int .i64 N) = u6 at ds4 ⊢
    refine (no_any _ _ _ _ _ _ _ _ _ _ _ ds4.sc).mono ?_
    rintro r u7 ⟨rfl, hS7, hF7⟩
    have ds7 := ds4.frame hF7 hS7
    have hd7 : decS s.data.toList = .error (noE e0 1, (noQ e0 q0 p0).toNat) ∧ noE e0 1 ≠ 0 ∧ noQ e0 q0 p0 = (noQ e0 q0 p0).toNat := by
      rcases HC.out.1 with ⟨rfl, rfl, h⟩ | ⟨rfl, rfl, _, rfl, h⟩
      · exact ⟨h, by decide, rfl⟩
      · refine ⟨?_, by decide, rfl⟩
        rw [h, dec3G, if_pos (.inr hNc)]
        rfl
    generalize noE e0 1 = e1 at ds7 hd7 ⊢
    generalize noQ e0 q0 p0 = q7 at ds7 hd7 ⊢
    obtain ⟨⟨q1, q2, q3, q4⟩, ⟨m0, m1, m2, m3, m4⟩, ⟨z1, z2, z3, z4⟩, ⟨x0, x1, x2, x3, x4⟩, ⟨y0, y1, y2, y3, y4⟩, hc5⟩ := ds7.cells
    have he1 : (e1 == 0) = false := beq_eq_false_iff_ne.2 hd7.2.1
    have hbl := ds7.bl
    have hne := hd7.2.1
    have hxs : w.heap.size < u7.heap.size := World.block_lt_of_cell? _ _ x0
    have HD : Hid _ := hd7
    clear hS7 hF7 ds4 hd7
    by_cases hMb : N ≤ M
    · go_wp2_with fail
      refine (no_more _ _ _ _ _ _ _ _ _ _ _ ds7.sc hne).mono ?_
      rintro r _ ⟨rfl, rfl⟩
      go_wp2
      go_region_held3 (fun w' => w'.cell? ⟨w.heap.size + 1, 2, none⟩ = some (.int .i64 e1) ∧ w'.cell? ⟨w.heap.size + 1, 3, none⟩ = some (.int .i64 q7)) (go_keep) (fail)
      all_goals go_wp2
      all_goals refine bodyPost_ret (v := .tuple #[.agg #[.int .i64 0, .int .i64 0, .int .i64 0, .int .i64 0, .slice none 0 0], .int .i64 e1, .int .i64 q7]) (by simp [results, Try.results39, go_sem, x0, x1, x2, x3, x4]) rfl ?_
      all_goals exact DecOut.bad HD.out.1 HD.out.2.1 rfl HD.out.2.2 (by go_grown)
    · go_wp2
      go_region_held3 (fun w' => w'.cell? ⟨w.heap.size + 1, 2, none⟩ = some (.int .i64 e1) ∧ w'.cell? ⟨w.heap.size + 1, 3, none⟩ = some (.int .i64 q7)) (go_keep) (fail)
      all_goals go_wp2
      all_goals refine bodyPost_ret (v := .tuple #[.agg #[.int .i64 0, .int .i64 0, .int .i64 0, .int .i64 0, .slice none 0 0], .int .i64 e1, .int .i64 q7]) (by simp [results, Try.results39, go_sem, x0, x1, x2, x3, x4]) rfl ?_
      all_goals exact DecOut.bad HD.out.1 HD.out.2.1 rfl HD.out.2.2 (by go_grown)
  by_cases hMb : N ≤ M
  · go_wp2_with fail
    clear q1 q2 q3 q4 m0 m1 m2 m3 m4 z1 z2 z3 z4 x0 x1 x2 x3 x4 y0 y1 y2 y3 y4 hc5 ds3
    generalize u3.setCell ⟨H, 2, none⟩ (.int .i64 N) = u6 at ds4 ⊢
    refine (no_any _ _ _ _ _ _ _ _ _ _ _ ds4.sc).mono ?_
    rintro r u7 ⟨rfl, hS7, hF7⟩
    have ds7 := ds4.frame hF7 hS7
    have hd7 : decS s.data.toList = .error (noE e0 1, (noQ e0 q0 1).toNat) ∧ noE e0 1 ≠ 0 ∧ noQ e0 q0 1 = (noQ e0 q0 1).toNat := by
      rcases HC.out.1 with ⟨rfl, rfl, h⟩ | ⟨rfl, rfl, _, rfl, h⟩
      · exact ⟨h, by decide, rfl⟩
      · refine ⟨?_, by decide, rfl⟩
        rw [h, dec3G, if_neg (by omega), if_pos hMb]
        rfl
    generalize noE e0 1 = e1 at ds7 hd7 ⊢
    generalize noQ e0 q0 1 = q7 at ds7 hd7 ⊢
    obtain ⟨⟨q1, q2, q3, q4⟩, ⟨m0, m1, m2, m3, m4⟩, ⟨z1, z2, z3, z4⟩, ⟨x0, x1, x2, x3, x4⟩, ⟨y0, y1, y2, y3, y4⟩, hc5⟩ := ds7.cells
    have he1 : (e1 == 0) = false := beq_eq_false_iff_ne.2 hd7.2.1
    have hbl := ds7.bl
    have hne := hd7.2.1
    have hxs : w.heap.size < u7.heap.size := World.block_lt_of_cell? _ _ x0
    have HD : Hid _ := hd7
    clear hS7 hF7 ds4 hd7
    go_wp2
    go_region_held3 (fun w' => w'.cell? ⟨w.heap.size + 1, 2, none⟩ = some (.int .i64 e1) ∧ w'.cell? ⟨w.heap.size + 1, 3, none⟩ = some (.int .i64 q7)) (go_keep) (fail)
    all_goals go_wp2
    all_goals refine bodyPost_ret (v := .tuple #[.agg #[.int .i64 0, .int .i64 0, .int .i64 0, .int .i64 0, .slice none 0 0], .int .i64 e1, .int .i64 q7]) (by simp [results, Try.results39, go_sem, x0, x1, x2, x3, x4]) rfl ?_
    all_goals exact DecOut.bad HD.out.1 HD.out.2.1 rfl HD.out.2.2 (by go_grown)
  have hd7 : decS s.data.toList = .error (e0, q0.toNat) ∧ e0 ≠ 0 ∧ q0 = q0.toNat := by
    rcases HC.out.1 with ⟨rfl, rfl, h⟩ | ⟨rfl, rfl, _⟩
    · exact ⟨h, by decide, rfl⟩
    · exact absurd ⟨rfl, by omega, by omega, by omega⟩ HC.out.2
  have he1 : (e0 == 0) = false := beq_eq_false_iff_ne.2 hd7.2.1
  have hne := hd7.2.1
  have HD : Hid _ := hd7
  clear hd7 HC
  go_wp2
  clear q1 q2 q3 q4 m0 m1 m2 m3 m4 z1 z2 z3 z4 x0 x1 x2 x3 x4 y0 y1 y2 y3 y4 hc5 ds3
  generalize u3.setCell ⟨H, 2, none⟩ (.int .i64 N) = u6 at ds4 ⊢
  obtain ⟨⟨q1, q2, q3, q4⟩, ⟨m0, m1, m2, m3, m4⟩, ⟨z1, z2, z3, z4⟩, ⟨x0, x1, x2, x3, x4⟩, ⟨y0, y1, y2, y3, y4⟩, hc5⟩ := ds4.cells
  have hbl := ds4.bl
  have hxs : w.heap.size < u6.heap.size := World.block_lt_of_cell? _ _ x0
  go_region_held3 (fun w' => w'.cell? ⟨w.heap.size + 1, 2, none⟩ = some (.int .i64 e0) ∧ w'.cell? ⟨w.heap.size + 1, 3, none⟩ = some (.int .i64 q0)) (go_keep) (fail)
  all_goals go_wp2
  all_goals refine bodyPost_ret (v := .tuple #[.agg #[.int .i64 0, .int .i64 0, .int .i64 0, .int .i64 0, .slice none 0 0], .int .i64 e0, .int .i64 q0]) (by simp [results, Try.results39, go_sem, x0, x1, x2, x3, x4]) rfl ?_
  all_goals exact DecOut.bad HD.out.1 HD.out.2.1 rfl HD.out.2.2 (by go_grown)
end Go.Proofs.Ytlndinigbppafaa
