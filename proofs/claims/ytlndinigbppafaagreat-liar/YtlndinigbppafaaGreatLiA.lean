/-
  The walk of Liar.
-/
import Derived.Test.YtlndinigbppafaaGreatJ52
import Derived.Test.YtlndinigbppafaaGreatJ52
namespace Go.Proofs.YtlndinigbppafaaGreat
open Go.RowKit Go.Deep

set_option maxRecDepth 100000 in
set_option maxHeartbeats 4000000 in
theorem liar_any (ps : List ByteArray) (v : Value) (x n : Int) (bg : ByteArray) (w : World) (hv : StringsAt w v ps) (hn : ps.length ≤ 9223372036854775807) (hp : ∀ p ∈ ps, p.size ≤ 9223372036854775807) (hbg : bg.size ≤ 9223372036854775807)
    (x0 : -9223372036854775808 ≤ x) (x1 : x ≤ 9223372036854775807) (n0 : -9223372036854775808 ≤ n) (n1 : n ≤ 9223372036854775807) :
    Calls Tryz.prog 8 #[v, .int .i64 x, .string bg, .int .i64 n] w fun e w' => e = .returned (.bool true) ∧ Below w.heap.size w w' := by
  obtain ⟨i0, hi, hz0, hz1, hz2⟩ := info_parts Tryz.infoStr
  have HV : Hid (StringsAt w v ps) := hv
  have HP : Hid _ := hp
  clear hv hp
  go_enter Tryz.func8, Tryz.ntmps8
  go_wp2_with fail
  refine (known_any w).mono ?_
  rintro e w0 ⟨rfl, hB0⟩
  go_wp2_with fail
  refine (unseen_any w0).mono ?_
  rintro e w1 ⟨rfl, hb1⟩
  have hB1 := below_step hB0 hb1
  have HV1 : StringsAt w1 v ps := StringsAt.below HV.out hB1
  clear HV hB0 hb1
  go_wp2_with fail
  refine (kept_any ps v w1 HV1 hn HP.out).mono ?_
  rintro e w2 ⟨B, S, o, rfl, hL2, hO2, -, hb2⟩
  have hB2 := below_step hB1 hb2
  have hK1 := (keptL_len ps).1
  have hK2 := (keptL_len ps).2
  have HLE : Hid _ := keptL_le ps
  clear HV1 HP hB1 hb2
  generalize keptL ps = evs at *
  obtain ⟨oa, oc, rfl, hoa⟩ : ∃ oa oc, o = .slice (some ⟨oa, 0, none⟩) evs.length oc ∧ evs.length ≤ oc := by
    rcases hO2.2 with ⟨rfl, h0⟩ | ⟨g', cap', cur', rfl, _, _, h1, _⟩
    · omega
    · exact ⟨_, _, rfl, h1⟩
  rcases Nat.lt_or_ge 40 bg.size with h40 | h40
  case' inl =>
    have h40i : (40 : Int) < (bg.size : Int) := by omega
    have hOs : (bg.extract 0 40).size ≤ 40 := by simp [ByteArray.size_extract]; omega
    go_wp2_with fail
    clear h40 h40i hbg
    generalize bg.extract 0 40 = bb at *
  case' inr =>
    have h40i : (bg.size : Int) ≤ 40 := by omega
    have hOs : bg.size ≤ 40 := h40
    go_wp2_with fail
    clear h40 h40i hbg
    generalize bg = bb at *
  all_goals
    refine (pick_any x _ _ x0 x1 (by omega) (by omega)).mono ?_
    rintro e w2 ⟨rfl, rfl⟩
    have hpx := pickZ_bd x evs.length (by omega)
    obtain ⟨X, hX⟩ : ∃ X : Nat, pickZ x evs.length = X := ⟨(pickZ x evs.length).toNat, by omega⟩
    rw [hX] at hpx ⊢
    clear hX
    have hXl : X < evs.length := by omega
    obtain ⟨cX, zX⟩ := owns_cell hO2 (strs8_get hXl)
    go_wp2_with fail
    refine (twin_any evs[X] bb w2 (HLE.out _ (List.getElem_mem hXl)) hOs).mono ?_
    rintro e w3 ⟨O, rfl, hOz, hOne, hOsm, hb3⟩
    have HOne : Hid (O ≠ evs[X]) := hOne
    have HOsm : Hid (sm (0 :: O.data.toList) = sm (0 :: (evAt evs X).data.toList)) := by
      show _ = _
      rw [hOsm]
      unfold evAt
      simp [hXl]
    have hO50 : O.size ≤ 50 := by omega
    have hOe : O.toList.isEmpty = false := by
      have hl : O.data.toList.length = O.size := by simp
      rw [Lib.toList_data]
      cases hd : O.data.toList with
      | nil => rw [hd, List.length_nil] at hl; omega
      | cons _ _ => rfl
    have hB3 := hB2.trans (hb3.mono hB2.size)
    have hL3 := hL2.below hb3
    have hO3 := owns_below hO2 hb3
    have HN : Hid (∀ j u, (strs8 evs)[j]? = some u → w3.cell? ((⟨oa, 0, none⟩ : Addr).add j) = some u) := owns_news hO3
    clear hOne hOsm hB2 hL2 hO2 hb3 cX zX hO3
    go_wp2_with (at_builtin; refine wpList_append_lies _ rfl _ _ 22 rfl w3.heap.size 9 i0 (.string ByteArray.empty) 1 16 Tryz.underlying22 hi hz0 hz1 hz2 rfl (by decide) _ _ _ rfl (World.ownsRow_nil _ _ _ _) ⟨oa, 0, none⟩ evs.length oc (strs8 evs) rfl (by rw [strs8_len]; omega) HN.out (strs8_one _) (by omega) (by unfold maxLen; omega) (by omega) (Nat.le_refl _) _ rfl ?_)
    intro g cp w4 hO4 hg4 hat4 hlt4
    have hge : g = w3.heap.size := by
      rcases hat4 with h | h
      · simp [Value.ownBlock] at h
      · exact h
    have hb4 : Below w3.heap.size w3 w4 := (Below.refl _ _).grown hg4 (Nat.le_refl _) (fun g hg => by simp [Value.ownBlock] at hg)
    obtain ⟨c4, z4⟩ := owns_cell hO4 (strs8_get hXl)
    have hO5 := own_set (x := .string O) (i := X) hO4
    rw [strs8_set] at hO5
    have hb5 : Below w3.heap.size w3 (w4.setCell ⟨g, X, none⟩ (.string O)) := hb4.setCell (by simp [hge]) _
    have hL5 := hL3.below hb5
    have hB5 := hB3.trans (hb5.mono hB3.size)
    have hS5 := strs_owns hO5
    have HX : Hid (∃ l : List ByteArray, l = evs.set X O) := ⟨_, rfl⟩
    obtain ⟨l2, hl2⟩ := HX.out
    rw [← hl2] at hS5
    have HL2 : Hid (l2 = evs.set X O) := hl2
    have HLL : Hid (l2.length = evs.length) := by show l2.length = _; rw [hl2]; simp
    have HLS : Hid (∀ s ∈ l2, s.size ≤ 50) := by show ∀ s ∈ l2, _; rw [hl2]; exact set_small HLE.out hO50
    clear hO4 hg4 hat4 hO5 hb4 hb5 hL3 hB3 hl2 HX hge HN hOe
    go_wp2_with fail
    generalize w4.setCell ⟨g, X, none⟩ (.string O) = w5 at *
    refine (kept_any l2 _ w5 hS5 (by rw [HLL.out]; omega) (fun p hp => by have := HLS.out p hp; omega)).mono ?_
    rintro e w6 ⟨B', S', o', rfl, hL6', -, -, hb6⟩
    rw [keptL_same (by rw [HLL.out]; exact hK1) (by rw [HLL.out]; exact hK2) HLS.out] at hL6'
    have hL6 := hL5.below hb6
    have hB6 := hB5.trans (hb6.mono hB5.size)
    clear hL5 hB5 hb6 hS5 c4 z4
    go_wp2_with fail
    refine (newAud_any w6).mono ?_
    rintro e w7 ⟨rfl, hA7, hb7⟩
    have hL7 := hL6.below hb7
    have hL7' := hL6'.below hb7
    have hs6 := hB6.size
    have hB7 := hB6.trans (hb7.mono hB6.size)
    clear hL6 hL6' hB6 hb7
    go_wp2_with fail
    refine (pick_any n _ _ n0 n1 (by omega) (by omega)).mono ?_
    rintro e w7 ⟨rfl, rfl⟩
    have hpn := pickZ_bd n ((evs.length : Int) - (X : Int)) (by omega)
    obtain ⟨D, hD⟩ : ∃ D : Nat, pickZ n ((evs.length : Int) - (X : Int)) = D := ⟨(pickZ n ((evs.length : Int) - (X : Int))).toNat, by omega⟩
    rw [hD] at hpn ⊢
    clear hD
    obtain ⟨N, hN⟩ : ∃ N : Nat, N = X + 1 + D := ⟨_, rfl⟩
    go_wp2_with fail
    have hXN : X < N := by omega
    have hNe : N ≤ evs.length := by omega
    have e2 : (X : Int) + 1 + (D : Int) = (N : Int) := by omega
    rw [e2]
    clear hpn hN e2
    refine (commitC _ _ B S evs N hL7 (by omega) hNe hK2 HLE.out).mono ?_
    rintro e w8 ⟨v8, rfl, hV8, hb8⟩
    have hA8 := hA7.below hb8
    have hL8 := hL7.below hb8
    have hL8' := hL7'.below hb8
    have hB8 := hB7.trans (hb8.mono hB7.size)
    clear hA7 hL7 hL7' hB7 hb8
    obtain ⟨ad8, cp8, L8, rfl, hl8, hV8⟩ := hV8
    have HV8 : Hid (BytesC w8 (.slice (some ad8) L8 cp8) (encV (commitM (evs.take N)))) := hV8
    have HL8 : Hid (L8 = (encV (commitM (evs.take N))).length) := hl8
    clear hV8 hl8
    have HCM : Hid (commitM (l2.take N) = commitM (evs.take N) ∧ dig (l2.take N) (dep N) 0 = dig (evs.take N) (dep N) 0) := by
      show _ ∧ _
      rw [HL2.out]
      exact commit_set evs X N O HOsm.out hXN hNe
    go_wp2_with fail
    refine (commitC _ _ B' S' l2 N hL8' (by omega) (by rw [HLL.out]; exact hNe) (by rw [HLL.out]; exact hK2) HLS.out).mono ?_
    rintro e w9 ⟨v9, rfl, hV9, hb9⟩
    rw [HCM.out.1] at hV9
    have hA9 := hA8.below hb9
    have hL9 := hL8.below hb9
    have hL9' := hL8'.below hb9
    have hB9 := hB8.trans (hb9.mono hB8.size)
    have HV8b : Hid (BytesC w9 (.slice (some ad8) L8 cp8) (encV (commitM (evs.take N)))) := HV8.out.below hb9
    clear hA8 hL8 hL8' hB8 hb9 HV8
    obtain ⟨ad9, cp9, L9, rfl, hl9, hV9⟩ := hV9
    have HL9 : Hid (L9 = (encV (commitM (evs.take N))).length) := hl9
    have HV9 : Hid (BytesC w9 (.slice (some ad9) L9 cp9) (encV (commitM (evs.take N)))) := hV9
    have cv8 : (convert 27 9 (.slice (some ad8) L8 cp8)).run Tryz.prog w9 = .ok (.string ⟨(encV (commitM (evs.take N))).toArray⟩) w9 := by rw [HL8.out]; exact conv_slice _ _ _ _ (by rw [← HL8.out]; exact HV8b.out.1)
    have cv9 : (convert 27 9 (.slice (some ad9) L9 cp9)).run Tryz.prog w9 = .ok (.string ⟨(encV (commitM (evs.take N))).toArray⟩) w9 := by rw [HL9.out]; exact conv_slice _ _ _ _ (by rw [← HL9.out]; exact HV9.out.1)
    clear hV9 hl9
    go_wp2_with fail
    refine (memberC _ _ B S evs X N hL9 hXN hNe hK2 HLE.out).mono ?_
    rintro e w10 ⟨v10, rfl, hV10, hb10⟩
    have hA10 := hA9.below hb10
    have hL10' := hL9'.below hb10
    have hB10 := hB9.trans (hb10.mono hB9.size)
    have HV8c : Hid (BytesC w10 (.slice (some ad8) L8 cp8) (encV (commitM (evs.take N)))) := HV8b.out.below hb10
    clear hA9 hL9 hL9' hB9 hb10 HV8b HV9 HL9 HL8 cv8 cv9
    obtain ⟨ad10, cp10, L10, rfl, hl10, hV10⟩ := hV10
    have HV10 : Hid (BytesC w10 (.slice (some ad10) L10 cp10) (encV (memberM (evs.take N) X))) := hV10
    clear hV10 hl10
    go_wp2_with fail
    refine (memberC _ _ B' S' l2 X N hL10' hXN (by rw [HLL.out]; exact hNe) (by rw [HLL.out]; exact hK2) HLS.out).mono ?_
    rintro e w11 ⟨v11, rfl, hV11, hb11⟩
    have hA11 := hA10.below hb11
    have hB11 := hB10.trans (hb11.mono hB10.size)
    have HV8d : Hid (BytesC w11 (.slice (some ad8) L8 cp8) (encV (commitM (evs.take N)))) := HV8c.out.below hb11
    have HV10d : Hid (BytesC w11 (.slice (some ad10) L10 cp10) (encV (memberM (evs.take N) X))) := HV10.out.below hb11
    clear hA10 hL10' hB10 hb11 HV8c HV10
    obtain ⟨ad11, cp11, L11, rfl, hl11, hV11⟩ := hV11
    have HV11d : Hid (BytesC w11 (.slice (some ad11) L11 cp11) (encV (memberM (l2.take N) X))) := hV11
    clear hV11 hl11
    have hT1 := tk_commit [] evs N (by simp) (by omega) hNe hK2 rfl
    have HVS : Hid (versL [commitM (evs.take N)] = [((N : Int), dig (evs.take N) (dep N) 0)]) := versL_commit evs N hNe
    have HVS2 : Hid (versL [commitM (evs.take N), memberM (evs.take N) X] = [((N : Int), dig (evs.take N) (dep N) 0)]) := by
      show _ = _
      rw [show [commitM (evs.take N), memberM (evs.take N) X] = [commitM (evs.take N)] ++ [memberM (evs.take N) X] from rfl, versL_snoc, if_neg (by simp [memberM]), List.append_nil]
      exact HVS.out
    have hT2 := tk_member [commitM (evs.take N)] evs X N (by simp) hXN hNe hK2 HLE.out (by rw [HVS.out]; simp [rootOf])
    have hT3 := tk_member [commitM (evs.take N), memberM (evs.take N) X] l2 X N (by simp) hXN (by rw [HLL.out]; exact hNe) (by rw [HLL.out]; exact hK2) HLS.out (by rw [HVS2.out, HCM.out.2]; simp [rootOf])
    go_wp2_with fail
    refine (take_any w11 _ _ [] _ _ hA11 HV8d.out).mono ?_
    rintro e w12 ⟨rfl, hA12, hK12⟩
    rw [hT1.1]
    rw [hT1.2, List.nil_append] at hA12
    have hB12 : Below w.heap.size w w12 := hB11.trans ((KeepsA.below hK12 (by have := hA11.lt; omega)).mono hs6)
    have HV10e : Hid (BytesC w12 (.slice (some ad10) L10 cp10) (encV (memberM (evs.take N) X))) := HV10d.out.keepsA hK12
    have HV11e : Hid (BytesC w12 (.slice (some ad11) L11 cp11) (encV (memberM (l2.take N) X))) := HV11d.out.keepsA hK12
    clear hA11 hB11 HV8d HV10d HV11d hK12 hT1
    go_wp2_with fail
    refine (take_any w12 _ _ _ _ _ hA12 HV10e.out).mono ?_
    rintro e w13 ⟨rfl, hA13, hK13⟩
    rw [hT2.1]
    rw [hT2.2] at hA13
    have hB13 : Below w.heap.size w w13 := hB12.trans ((KeepsA.below hK13 (by have := hA12.lt; omega)).mono hs6)
    have HV11f : Hid (BytesC w13 (.slice (some ad11) L11 cp11) (encV (memberM (l2.take N) X))) := HV11e.out.keepsA hK13
    clear hA12 hB12 HV10e HV11e hK13 hT2
    go_wp2_with fail
    refine (take_any w13 _ _ _ _ _ hA13 HV11f.out).mono ?_
    rintro e w14 ⟨rfl, hA14, hK14⟩
    rw [show [commitM (evs.take N)] ++ [memberM (evs.take N) X] = [commitM (evs.take N), memberM (evs.take N) X] from rfl] at hA14 ⊢
    rw [hT3.1]
    rw [hT3.2] at hA14
    have hB14 : Below w.heap.size w w14 := hB13.trans ((KeepsA.below hK14 (by have := hA13.lt; omega)).mono hs6)
    clear hA13 hB13 HV11f hK14 hT3
    have hEE := liar_evs evs X N O hXN hNe (fun e => HOne.out (by rw [e]; unfold evAt; simp [hXl]))
    rw [← HL2.out] at hEE
    obtain ⟨s1, s2, hEv, hss⟩ := hEE
    have HNot : Hid (¬ ∀ a ∈ txL ([commitM (evs.take N), memberM (evs.take N) X] ++ [memberM (l2.take N) X]), ∀ b ∈ txL ([commitM (evs.take N), memberM (evs.take N) X] ++ [memberM (l2.take N) X]), sm a = sm b → a = b) := fun hS =>
      hss (sound_ev (e := ((X : Int), s1)) (e' := ((X : Int), s2)) hA14.1 hS (by rw [hEv]; simp) (by rw [hEv]; simp) rfl)
    have HEv : Hid (evL ([commitM (evs.take N), memberM (evs.take N) X] ++ [memberM (l2.take N) X]) = [((X : Int), s1), ((X : Int), s2)]) := hEv
    have hsb := ba_ne hss
    clear hEv hss
    go_wp2_with fail
    refine (events_any w14 _ _ _ hA14).mono ?_
    rintro e w15 ⟨V, rfl, hV, hb15⟩
    rw [HEv.out] at hV
    have hA15 := hA14.below hb15
    have hB15 := hB14.trans (hb15.mono hB14.size)
    obtain ⟨va, vc, rfl, hc⟩ := hV
    obtain ⟨vb, vo, rfl, hlt, hc⟩ := hc (by simp)
    obtain ⟨c0, c1⟩ := hc 0 (by simp)
    obtain ⟨d0, d1⟩ := hc 1 (by simp)
    simp only [List.getElem_cons_zero, List.getElem_cons_succ, Nat.zero_mul, Nat.one_mul, Nat.add_zero] at c0 c1 d0 d1
    clear hA14 hB14 hb15 hc HEv
    go_wp2_with fail
    refine (shown_any w15 _ _ _ hA15 HNot.out).mono ?_
    rintro e w16 ⟨rfl, hb16⟩
    have hB16 := hB15.trans (hb16.mono hB15.size)
    have c0 := cell_keep c0 hb16
    have c1 := cell_keep c1 hb16
    have d0 := cell_keep d0 hb16
    have d1 := cell_keep d1 hb16
    clear hA15 hB15 hb16 HNot
    go_wp2
    go_quiet (fail)
    go_wp2
    go_ret
    exact ⟨rfl, below_drewN hB16 nq⟩
end Go.Proofs.YtlndinigbppafaaGreat
