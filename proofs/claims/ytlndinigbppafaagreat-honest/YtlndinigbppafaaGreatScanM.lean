/-
  The walk of the document's Decode: growth with a tree.
-/
import Derived.Test.YtlndinigbppafaaGreatScanH
import Derived.Deep.RegionHeld3
import Derived.StillTailTactics
namespace Go.Proofs.YtlndinigbppafaaGreat
open Go.RowKit

theorem number_ok (w : World) (b0 B : Nat) (s : ByteArray) (a : Nat) (q : Int) (V : Value) (ns : List PN) (h : ScanAt w b0 B s a 0 q V ns) (hs : s.size ≤ 4000) (ha : a + 2 ≤ s.size) :
    Calls Tryz.prog 103 #[.pointer (some ⟨B, 0, none⟩)] w fun r w' => r = .returned (.int .i64 (num2 s[a] s[a + 1])) ∧ ScanAt w' b0 B s (a + 2 : Nat) 0 q V ns ∧ Frame2 w w' B none := by
  have h1 := number_any w b0 B s a 0 q V ns h hs
  obtain ⟨e1, e2, e3, e4⟩ := num_ok s a q ha
  rw [e1, e2, e3, e4] at h1
  exact h1

theorem own_ne_msg {u : World} {base n g : Nat} {V : Value} {xs : List Value} {cur : Array Value} {fr : Nat × Nat} (h : u.ownsRow base 116 3 V n xs) (hg : u.heap[g]? = some (.cells cur 63 fr)) : V.ownBlock ≠ some g := by
  intro x
  rcases h.2 with ⟨rfl, _⟩ | ⟨g', cap, cur', rfl, _, hgg, _⟩
  · simp [Value.ownBlock] at x
  · simp [Value.ownBlock] at x
    subst x
    rw [hgg] at hg
    simp at hg
theorem owns_slice {u : World} {base n e size : Nat} {V : Value} {xs : List Value} (h : u.ownsRow base e size V n xs) : ∃ ao cp, V = .slice ao n cp := by
  rcases h.2 with ⟨rfl, h0⟩ | ⟨g', cap, cur', rfl, _⟩
  · exact ⟨none, 0, by rw [h0]⟩
  · exact ⟨_, _, rfl⟩

set_option maxRecDepth 100000 in
set_option maxHeartbeats 2000000 in
theorem dec_2t (s : ByteArray) (w : World) (hs : s.size ≤ 4000) (h7 : 7 ≤ s.size) (hk : (s[0].toNat : Int) = 2) (M N R : Int) (eM : num2 s[1] s[2] = M) (eN : num2 s[3] s[4] = N) (eR : num2 s[5] s[6] = R) (hM1 : 1 ≤ M) (hM2 : M ≤ N) (hN : N ≤ 500)
    (hd : decS s.data.toList = decT s.data.toList 2 M N R 7) :
    Calls Tryz.prog 67 #[.string s] w fun r w' => DecOut s w r w' := by
  have HD : Hid _ := hd
  clear hd
  have hR := num2_bd s[5] s[6]
  rw [eR] at hR
  go_enter Tryz.func67, Tryz.ntmps67
  go_wp2_with fail
  refine (next_ok _ w.heap.size _ s 0 _ _ _ (scan_new _ s _ (by simp) _ (by simp)) (by omega) hs).mono ?_
  rintro r w1 ⟨rfl, hS1, hF1⟩
  rw [hk]
  have ds : DS w (w1.alloc (.cells #[.int .i64 2, .int .i64 0, .int .i64 0, .int .i64 0, .slice none 0 0] 63)) s 1 0 0 (.slice none 0 0) [] w1.heap.size 2 0 0 0 := ds_begin w w1 s _ _ _ _ hS1 hF1
  clear hS1 hF1
  obtain ⟨⟨q1, q2, q3, q4⟩, ⟨m0, m1, m2, m3, m4⟩, ⟨z1, z2, z3, z4⟩, hc3, hc4, hc5⟩ := ds.cells
  have hz := ds.hH
  go_wp2_with fail
  clear q1 q2 q3 q4 m0 m1 m2 m3 m4 z1 z2 z3 z4 hc3 hc4 hc5
  generalize w1.alloc (.cells #[.int .i64 2, .int .i64 0, .int .i64 0, .int .i64 0, .slice none 0 0] 63) = u at ds ⊢
  generalize w1.heap.size = H at ds hz ⊢
  -- m
  refine (number_ok _ _ _ _ _ _ _ _ ds.sc hs (by omega)).mono ?_
  rintro r u1 ⟨rfl, hS1, hF1⟩
  have ds1 := ds.frame hF1 hS1
  clear hS1 hF1
  simp only [Nat.reduceAdd] at ds1 ⊢
  rw [eM]
  obtain ⟨⟨q1, q2, q3, q4⟩, ⟨m0, m1, m2, m3, m4⟩, ⟨z1, z2, z3, z4⟩, hc3, hc4, hc5⟩ := ds1.cells
  have ds2 := ds1.setM (by simp [Value.ownBlock]) M
  go_wp2_with fail
  clear q1 q2 q3 q4 m0 m1 m2 m3 m4 z1 z2 z3 z4 hc3 hc4 hc5 ds1
  generalize u1.setCell ⟨H, 1, none⟩ (.int .i64 M) = u2 at ds2 ⊢
  -- n
  refine (number_ok _ _ _ _ _ _ _ _ ds2.sc hs (by omega)).mono ?_
  rintro r u3 ⟨rfl, hS3, hF3⟩
  have ds3 := ds2.frame hF3 hS3
  clear hS3 hF3
  simp only [Nat.reduceAdd] at ds3 ⊢
  rw [eN]
  obtain ⟨⟨q1, q2, q3, q4⟩, ⟨m0, m1, m2, m3, m4⟩, ⟨z1, z2, z3, z4⟩, hc3, hc4, hc5⟩ := ds3.cells
  have ds4 := ds3.setN (by simp [Value.ownBlock]) N
  go_wp2_with fail
  clear q1 q2 q3 q4 m0 m1 m2 m3 m4 z1 z2 z3 z4 hc3 hc4 hc5 ds3
  generalize u3.setCell ⟨H, 2, none⟩ (.int .i64 N) = u4 at ds4 ⊢
  -- the root
  refine (number_ok _ _ _ _ _ _ _ _ ds4.sc hs (by omega)).mono ?_
  rintro r u5 ⟨rfl, hS5, hF5⟩
  have ds5 := ds4.frame hF5 hS5
  clear hS5 hF5
  simp only [Nat.reduceAdd] at ds5 ⊢
  rw [eR]
  obtain ⟨⟨q1, q2, q3, q4⟩, ⟨m0, m1, m2, m3, m4⟩, ⟨z1, z2, z3, z4⟩, hc3, hc4, hc5⟩ := ds5.cells
  have ds6 := ds5.setR (by simp [Value.ownBlock]) R
  clear ds ds2 ds4
  go_wp2_with fail
  clear q1 q2 q3 q4 m0 m1 m2 m3 m4 z1 z2 z3 z4 hc3 hc4 hc5 ds5
  generalize u5.setCell ⟨H, 3, none⟩ (.int .i64 R) = u6 at ds6 ⊢
  obtain ⟨⟨q1, q2, q3, q4⟩, ⟨m0, m1, m2, m3, m4⟩, ⟨z1, z2, z3, z4⟩, ⟨x0, x1, x2, x3, x4⟩, ⟨y0, y1, y2, y3, y4⟩, hc5⟩ := ds6.cells
  have hdp := dep_500 N hN
  have hpw : pw (dep N.toNat) ≤ 512 := pw_le (e := 9) hdp
  have PW : ∀ w' : World, Calls Tryz.prog 105 #[.int .i64 N] w' fun e w'' => e = .returned (.int .i64 (dep N.toNat)) ∧ w'' = w' := fun w' => by
    have := depth_any N.toNat w' (by omega)
    rwa [Int.toNat_of_nonneg (by omega)] at this
  go_still_tail 5, (by kernel_rfl)
  still_call (PW _)
  repeat still_step
  refine wpStill_nil ?_
  generalize hwd : (World.mk u6.heap u6.tape (u6.drawn + 1) u6.os u6.output) = wd
  have hbd : Below u6.heap.size u6 wd := by rw [← hwd]; exact (Below.refl _ _).drew
  clear hwd q1 q2 q3 q4 m0 m1 m2 m3 m4 z1 z2 z3 z4 x0 x1 x2 x3 x4 y0 y1 y2 y3 y4 hc5
  have dsd := ds6.below hbd
  clear ds6 hbd
  have NE := node_any s hs w.heap.size (w.heap.size + 1) 0 2 M N R (.slice none 0 0) (dep N.toNat) 0 7 wd (.slice none 0 0) [] (by omega) (by omega) dsd.sc (by have := dsd.bl.size; omega) (by simp)
  go_wp2_with fail
  refine NE.mono ?_
  rintro r u9 ⟨rfl, V', a', e', q', ns', hK, hS9, hO⟩
  have ds9 := dsd.frame hK.1 hS9
  clear NE hK hS9 dsd PW
  have hbl := ds9.bl
  cases hrd : rdNode s.data.toList 2 M N (dep N.toNat) 0 7 with
  | error y =>
    obtain ⟨ey, xy⟩ := y
    rw [hrd] at hO
    obtain ⟨hne, rfl, hq, _⟩ := hO
    have HB : Hid (decS s.data.toList = .error (e', xy) ∧ q' = xy) := by
      refine ⟨?_, hq⟩
      rw [HD.out, decT, hrd]
    clear HD hrd hq
    have he1 : (e' == 0) = false := beq_eq_false_iff_ne.2 hne
    obtain ⟨⟨q1, q2, q3, q4⟩, ⟨m0, m1, m2, m3, m4⟩, ⟨z1, z2, z3, z4⟩, ⟨x0, x1, x2, x3, x4⟩, ⟨y0, y1, y2, y3, y4⟩, hc5⟩ := ds9.cells
    have hxs : w.heap.size < u9.heap.size := World.block_lt_of_cell? _ _ x0
    go_wp2
    go_region_held3 (fun w' => w'.cell? ⟨w.heap.size + 1, 2, none⟩ = some (.int .i64 e') ∧ w'.cell? ⟨w.heap.size + 1, 3, none⟩ = some (.int .i64 q')) (go_keep) (fail)
    all_goals go_wp2
    all_goals refine bodyPost_ret (v := .tuple #[.agg #[.int .i64 0, .int .i64 0, .int .i64 0, .int .i64 0, .slice none 0 0], .int .i64 e', .int .i64 q']) (by simp [results, Tryz.results67, go_sem, x0, x1, x2, x3, x4]) rfl ?_
    all_goals exact DecOut.bad HB.out.1 hne rfl HB.out.2 (by go_grown)
  | ok y =>
    obtain ⟨ty, xy⟩ := y
    rw [hrd] at hO
    obtain ⟨rfl, rfl, rfl, hns⟩ := hO
    rw [List.nil_append] at hns
    subst hns
    by_cases hmore : a' < s.size
    · have HB : Hid (decS s.data.toList = .error (6, a')) := by
        show _ = _
        rw [HD.out, decT, hrd]
        simp only
        rw [if_pos (by rw [len_toList]; exact hmore)]
      clear HD hrd
      obtain ⟨⟨q1, q2, q3, q4⟩, ⟨m0, m1, m2, m3, m4⟩, ⟨z1, z2, z3, z4⟩, ⟨x0, x1, x2, x3, x4⟩, ⟨y0, y1, y2, y3, y4⟩, hc5⟩ := ds9.cells
      go_wp2_with fail
      refine (no_first _ _ _ _ _ _ _ _ _ _ ds9.sc).mono ?_
      rintro r ux ⟨rfl, hSx, hFx⟩
      have dsx := ds9.frame hFx hSx
      clear hSx hFx q1 q2 q3 q4 m0 m1 m2 m3 m4 z1 z2 z3 z4 x0 x1 x2 x3 x4 y0 y1 y2 y3 y4 hc5
      obtain ⟨⟨q1, q2, q3, q4⟩, ⟨m0, m1, m2, m3, m4⟩, ⟨z1, z2, z3, z4⟩, ⟨x0, x1, x2, x3, x4⟩, ⟨y0, y1, y2, y3, y4⟩, hc5⟩ := dsx.cells
      have hxs : w.heap.size < ux.heap.size := World.block_lt_of_cell? _ _ x0
      have hblx := dsx.bl
      go_wp2
      go_region_held3 (fun w' => w'.cell? ⟨w.heap.size + 1, 2, none⟩ = some (.int .i64 6) ∧ w'.cell? ⟨w.heap.size + 1, 3, none⟩ = some (.int .i64 a')) (go_keep) (fail)
      all_goals go_wp2
      all_goals refine bodyPost_ret (v := .tuple #[.agg #[.int .i64 0, .int .i64 0, .int .i64 0, .int .i64 0, .slice none 0 0], .int .i64 6, .int .i64 a']) (by simp [results, Tryz.results67, go_sem, x0, x1, x2, x3, x4]) rfl ?_
      all_goals exact DecOut.bad HB.out (by decide) rfl rfl (by go_grown)
    · have HB : Hid (decS s.data.toList = .ok ⟨2, M, N, R, ns'⟩) := by
        show _ = _
        rw [HD.out, decT, hrd]
        simp only
        rw [if_neg (by rw [len_toList]; exact hmore)]
      clear HD hrd
      obtain ⟨⟨q1, q2, q3, q4⟩, ⟨m0, m1, m2, m3, m4⟩, ⟨z1, z2, z3, z4⟩, ⟨x0, x1, x2, x3, x4⟩, ⟨y0, y1, y2, y3, y4⟩, hc5⟩ := ds9.cells
      have hv1 : V'.ownBlock ≠ some H := own_ne_msg ds9.sc.2.2 ds9.mg
      have hv2 : V'.ownBlock ≠ some w.heap.size := own_ne_msg ds9.sc.2.2 ds9.bx
      have hxs : w.heap.size < u9.heap.size := World.block_lt_of_cell? _ _ x0
      obtain ⟨ao, cp, rfl⟩ := owns_slice ds9.sc.2.2
      go_wp2
      refine bodyPost_ret (v := .tuple #[.agg #[.int .i64 2, .int .i64 M, .int .i64 N, .int .i64 R, .slice ao ns'.length cp], .int .i64 0, .int .i64 0]) (by simp [results, Tryz.results67, go_sem, x0, x1, x2, x3, x4]) rfl ?_
      exact DecOut.good HB.out ((((((hbl.setCell (show w.heap.size ≤ H by omega) _).setCell (Nat.le_refl _) _).setCell (Nat.le_refl _) _).setCell (Nat.le_refl _) _).setCell (Nat.le_refl _) _).setCell (Nat.le_refl _) _)
        (NodesAt.of_owns (ownsRow_setCell_other (ownsRow_setCell_other (ownsRow_setCell_other (ownsRow_setCell_other (ownsRow_setCell_other (ownsRow_setCell_other ds9.sc.2.2 hv1 _) hv2 _) hv2 _) hv2 _) hv2 _) hv2 _))
end Go.Proofs.YtlndinigbppafaaGreat
