/-
  The walk of Honest.
-/
import Derived.Test.YtlndinigbppafaaGreatJ52
namespace Go.Proofs.YtlndinigbppafaaGreat
open Go.RowKit Go.Deep

theorem HonI.more {evs : List ByteArray} {ts : List Msg} {vs : List Nat} {tl : List Bool} {N c c' : Nat} (h : HonI evs ts vs tl N c) (hc : c ≤ c') : HonI evs ts vs tl N c' :=
  ⟨h.vers, h.last, h.bd, Nat.le_trans h.few hc, h.evE, h.tlen, Nat.le_trans h.vlen hc⟩
theorem HonI.pos {evs : List ByteArray} {ts : List Msg} {vs : List Nat} {tl : List Bool} {N c : Nat} (h : HonI evs ts vs tl N c) : 1 ≤ vs.length := List.length_pos_of_mem (List.mem_of_getLast? h.last)

set_option maxRecDepth 100000 in
set_option maxHeartbeats 40000000 in
theorem honest_any (ps : List ByteArray) (gs ms qs : List Int) (v vg vm va : Value) (w : World) (hv : StringsAt w v ps) (hn : ps.length ≤ 9223372036854775807) (hp : ∀ p ∈ ps, p.size ≤ 9223372036854775807)
    (hg : NumsIn w vg gs) (hgn : gs.length ≤ 9223372036854775807) (hm : NumsIn w vm ms) (hmn : ms.length ≤ 9223372036854775807) (ha : NumsIn w va qs) (han : qs.length ≤ 9223372036854775807) :
    Calls Tryz.prog 6 #[v, vg, vm, va] w fun e w' => e = .returned (.bool true) ∧ Below w.heap.size w w' := by
  obtain ⟨ga, gc, rfl, hgcell, hgb⟩ := hg
  obtain ⟨ma, mc, rfl, hmcell, hmb⟩ := hm
  obtain ⟨aa, ac, rfl, hacell, hab⟩ := ha
  have HV : Hid (StringsAt w v ps) := hv
  have HP : Hid _ := hp
  have HG : Hid _ := hgcell
  have HM : Hid _ := hmcell
  have HA : Hid _ := hacell
  have HGB : Hid _ := hgb
  have HMB : Hid _ := hmb
  have HAB : Hid _ := hab
  clear hv hp hgcell hmcell hacell hgb hmb hab
  go_enter Tryz.func6, Tryz.ntmps6
  go_wp2_with fail
  refine (known_any w).mono ?_
  rintro e w1 ⟨rfl, hB1⟩
  have HV1 : StringsAt w1 v ps := StringsAt.below HV.out hB1
  clear HV
  go_wp2_with fail
  refine (kept_any ps v w1 HV1 hn HP.out).mono ?_
  rintro e w2 ⟨B, S, o, rfl, hL2, hO2, -, hb2⟩
  have hB2 := below_step hB1 hb2
  have hK1 := (keptL_len ps).1
  have hK2 := (keptL_len ps).2
  have HLE : Hid _ := keptL_le ps
  clear HV1 HP hB1 hb2
  generalize keptL ps = evs at *
  obtain ⟨oa, oc, rfl, hoa⟩ : ∃ oa oc, o = .slice (some ⟨oa, 0, none⟩) evs.length oc ∧ evs.length ≤ oc := by
    rcases hO2.2 with ⟨rfl, h0⟩ | ⟨g', cap', cur', rfl, _, _, h1, _⟩
    · omega
    · exact ⟨_, _, rfl, h1⟩
  have HO2 : Hid _ := hO2
  have HL2 : Hid (LogAt w2 w1.heap.size B S evs) := hL2
  clear hO2 hL2
  go_wp2_with fail
  refine (newAud_any w2).mono ?_
  rintro e w3 ⟨rfl, hA3, hb3⟩
  have hs2 := hB2.size
  obtain ⟨i1, hi1, hz1, hz2, hz3⟩ := info_parts Tryz.infoBool
  have hmk : ∀ u : World, (Instr.makeSlice 76 (.int .i64 (evs.length : Int)) (.int .i64 (evs.length : Int))).run Tryz.prog u = .ok (.slice (some ⟨u.heap.size, 0, none⟩) evs.length evs.length) (u.alloc (.cells (madeCells #[.bool false] evs.length) 4)) := fun u => by
    have h := run_make (P := Tryz.prog) u 76 4 i1 (.bool false) Tryz.underlying76 hi1 hz1 .i64 .i64 (evs.length : Int) (evs.length : Int) (by omega) (by omega) (by rw [hz3]; omega) (by omega)
    rw [hz2] at h
    simpa [Value.cells] using h
  rcases Nat.eq_zero_or_pos gs.length with hg0 | hg0
  case' inl =>
    have hg0I : (gs.length : Int) ≤ 0 := by omega
    clear hg0
    go_wp2_with fail
    refine (commitC _ _ B S evs 1 (HL2.out.below hb3) (by omega) hK1 hK2 HLE.out).mono ?_
    rintro e w4 ⟨v4, rfl, hV4, hb4⟩
    have hA4 := hA3.below hb4
    have hb34 := below_step hb3 hb4
    obtain ⟨ad4, cp4, L4, rfl, hl4, hV4⟩ := hV4
    have HV4 : Hid (BytesC w4 (.slice (some ad4) L4 cp4) (encV (commitM (evs.take 1)))) := hV4
    have hT1 := tk_commit [] evs 1 (by simp) (by omega) hK1 hK2 rfl
    have HI1 : Hid (HonI evs [commitM (evs.take 1)] [1] (List.replicate evs.length false) 1 1) := HonI.start evs 1 (by omega) hK1
    clear hb3 hb4 hA3 hV4 hl4
    go_wp2_with fail
    refine (take_any w4 _ _ [] _ _ hA4 HV4.out).mono ?_
    rintro e w5 ⟨rfl, hA5, hK5⟩
    rw [hT1.1]
    rw [hT1.2, List.nil_append] at hA5
    have hb5 : Below w2.heap.size w2 w5 := hb34.trans (KeepsA.below hK5 (by have := hA4.lt; omega))
    clear hA4 hb34 HV4 hK5 hT1
    go_wp2
    have HMS := MemW.start (n := evs.length) (N := 1) hA5 hb5
  case' inr =>
    have hg0I : (0 : Int) < (gs.length : Int) := by omega
    obtain ⟨gb, go, rfl, hgbs, hgc⟩ := HG.out hg0
    have cg := (cell_keep (cell_keep (hgc 0 hg0) hB2) hb3)
    rw [Nat.add_zero] at cg
    obtain ⟨q0, q1⟩ := HGB.out gs[0] (List.getElem_mem hg0)
    generalize gs[0] = g0 at *
    clear hg0
    go_wp2_with fail
    refine (pick_any g0 _ _ q0 q1 (by omega) (by omega)).mono ?_
    rintro e w3 ⟨rfl, rfl⟩
    have hpm := pickZ_bd g0 evs.length (by omega)
    obtain ⟨M0, hM0⟩ : ∃ M0 : Nat, pickZ g0 evs.length = M0 := ⟨(pickZ g0 evs.length).toNat, by omega⟩
    rw [hM0] at hpm ⊢
    clear hM0
    obtain ⟨N0, hN0⟩ : ∃ N0 : Nat, N0 = M0 + 1 := ⟨_, rfl⟩
    go_wp2_with fail
    have e1 : (1 : Int) + (M0 : Int) = (N0 : Int) := by omega
    rw [e1]
    have hN1 : 1 ≤ N0 := by omega
    have hNe : N0 ≤ evs.length := by omega
    clear e1 hN0 hpm
    refine (commitC _ _ B S evs N0 (HL2.out.below hb3) hN1 hNe hK2 HLE.out).mono ?_
    rintro e w4 ⟨v4, rfl, hV4, hb4⟩
    have hA4 := hA3.below hb4
    have hb34 := below_step hb3 hb4
    obtain ⟨ad4, cp4, L4, rfl, hl4, hV4⟩ := hV4
    have HV4 : Hid (BytesC w4 (.slice (some ad4) L4 cp4) (encV (commitM (evs.take N0)))) := hV4
    have hT1 := tk_commit [] evs N0 (by simp) hN1 hNe hK2 rfl
    have HI1 : Hid (HonI evs [commitM (evs.take N0)] [N0] (List.replicate evs.length false) N0 1) := HonI.start evs N0 hN1 hNe
    clear hb3 hb4 hA3 hV4 hl4
    go_wp2_with fail
    refine (take_any w4 _ _ [] _ _ hA4 HV4.out).mono ?_
    rintro e w5 ⟨rfl, hA5, hK5⟩
    rw [hT1.1]
    rw [hT1.2, List.nil_append] at hA5
    have hb5 : Below w2.heap.size w2 w5 := hb34.trans (KeepsA.below hK5 (by have := hA4.lt; omega))
    clear hA4 hb34 HV4 hK5 hT1
    go_wp2
    have HMS := MemW.start (n := evs.length) (N := N0) hA5 hb5
  all_goals
    have HMS : Hid _ := HMS
    clear hA5 hb5 hmk
    go_loopw [14, 18, 20] (fun n V i wr => ∃ (k N : Nat) (ts : List Msg) (vs : List Nat) (tl : List Bool), k ≤ ms.length ∧ k ≤ 100 ∧ i = .int .i64 k ∧ n = .int .i64 (N : Nat) ∧ Hid (MemW w2 wr w2.heap.size w5.heap.size (w5.heap.size + 1) V evs.length ts vs tl) ∧ Hid (HonI evs ts vs tl N (1 + 2 * k))) (fun _ _ i _ => ms.length - (intOf i).toNat)
    case atStart => exact ⟨0, _, _, _, _, Nat.zero_le _, Nat.zero_le _, rfl, rfl, HMS, HI1⟩
    case round =>
      obtain ⟨k, N, ts, vs, tl, hk, hk1, rfl, rfl, HM0, HI0⟩ := hrel
      clear HMS HI1
      have hvp := HI0.out.pos
      obtain ⟨vb, vcp, rfl, hvc1, hvc2, hvb, hvcell⟩ := nats_owns HM0.out.vers hvp
      have hvl := HI0.out.vlen
      have hN := HI0.out.n
      by_cases hlt : k < ms.length ∧ k < 100
      · obtain ⟨hlt, hlt100⟩ := hlt
        have hltA : (k : Int) < (ms.length : Int) := by omega
        have hltB : (k : Int) < 100 := by omega
        have hbw : Below w.heap.size w wr := hB2.trans (HM0.out.below.mono hs2)
        rcases Nat.lt_or_ge (k + 1) gs.length with hgl | hgl
        case' inr =>
          have hglI : (gs.length : Int) ≤ (k : Int) + 1 := by omega
          have HMx : Hid (MemW w2 wr w2.heap.size w5.heap.size (w5.heap.size + 1) (.slice (some ⟨vb, 0, none⟩) vs.length vcp) evs.length ts vs tl) := HM0
          have HIx : Hid (HonI evs ts vs tl N (2 + 2 * k)) := HI0.out.more (by omega)
          clear HM0 HI0 hvcell hbw hgl
        case' inl =>
          try (exfalso; omega)
          all_goals
            have hglI : (k : Int) + 1 < (gs.length : Int) := by omega
            obtain ⟨gb', go', e, hgbs', hgc'⟩ := HG.out (by omega)
            cases e
            have cg := (hbw.cell (p := ⟨_, _ + (k + 1), none⟩) hgbs').trans (hgc' (k + 1) hgl)
            obtain ⟨q0, q1⟩ := HGB.out gs[k + 1] (List.getElem_mem hgl)
            generalize gs[k + 1] = g1 at *
            clear hgc' hvcell
            go_wp2_with fail
            refine (pick_any g1 _ _ q0 q1 (by omega) (by omega)).mono ?_
            rintro e wr ⟨rfl, rfl⟩
            have hpn := pickZ_bd g1 ((evs.length : Int) - (N : Int) + 1) (by omega)
            obtain ⟨D, hD⟩ : ∃ D : Nat, pickZ g1 ((evs.length : Int) - (N : Int) + 1) = D := ⟨(pickZ g1 ((evs.length : Int) - (N : Int) + 1)).toNat, by omega⟩
            rw [hD] at hpn ⊢
            clear hD
            obtain ⟨M, hM⟩ : ∃ M : Nat, M = N + D := ⟨_, rfl⟩
            go_wp2_with fail
            have hNM : N ≤ M := by omega
            have hMe : M ≤ evs.length := by omega
            have e2 : (N : Int) + (D : Int) = (M : Int) := by omega
            rw [e2]
            clear hpn hM e2 cg q0 q1
            refine (growthC _ _ B S evs N M (HL2.out.below HM0.out.below) hN.1 hNM hMe hK2 HLE.out).mono ?_
            rintro e u1 ⟨v1, rfl, hV1, hb1⟩
            have HM1 : Hid _ := HM0.out.keep hb1
            obtain ⟨ad1, cp1, L1, rfl, hl1, hV1⟩ := hV1
            have HV1 : Hid (BytesC u1 (.slice (some ad1) L1 cp1) (encV (growthM (evs.take M) N))) := hV1
            have hT := tk_growth ts evs N M (by have := HI0.out.few; omega) hN.1 hNM hMe hK2 HLE.out HI0.out.lastV
            clear hb1 hl1 hV1
            go_wp2_with fail
            refine (take_any u1 _ _ ts _ _ HM1.out.aud HV1.out).mono ?_
            rintro e u2 ⟨rfl, hA2, hK2'⟩
            rw [hT.1]
            rw [hT.2] at hA2
            have HM2 : Hid _ := HM1.out.took hK2' hA2
            have hI2 := HI0.out.grow hNM hMe
            have hlow := HM2.out.lo
            clear hA2 hK2' HV1 HM1 hT HM0 HI0
            rcases Nat.lt_or_ge N M with hlm | hlm
            case' inr =>
              have hMN : M = N := by omega
              rw [if_neg (by omega)] at hI2
              subst hMN
              have HMx : Hid (MemW w2 u2 w2.heap.size w5.heap.size (w5.heap.size + 1) (.slice (some ⟨vb, 0, none⟩) vs.length vcp) evs.length (ts ++ [growthM (evs.take M) M]) vs tl) := HM2
              have HIx : Hid (HonI evs (ts ++ [growthM (evs.take M) M]) vs tl M (2 + 2 * k)) := hI2.more (by omega)
              clear HM2 hI2 hlm hNM hbw hgl hN
              generalize ts ++ [growthM (evs.take M) M] = ts at *
              generalize u2 = wr at *
              generalize M = N at *
            case' inl =>
              have hlmI : (N : Int) < (M : Int) := by omega
              rw [if_pos hlm] at hI2
              go_wp2_with (at_builtin; obtain ⟨i2, hi2, hy1, hy2, hy3⟩ := info_parts Tryz.infoInt; refine wpList_append_lies _ rfl _ _ 67 rfl w5.heap.size 3 i2 (.int .i64 0) 1 8 Tryz.underlying67 hi2 hy1 hy2 hy3 rfl (by decide) _ vs.length _ rfl (HM2.out.vers.alloc _) ⟨u2.heap.size, 0, none⟩ 1 1 [.int .i64 (M : Int)] rfl rfl (World.news_of_block (heap_alloc_new u2 _)) (by simp [Value.oneCell']) (by omega) (by unfold maxLen; omega) (by omega) (by simp; omega) _ rfl ?_)
              intro g cp u3 hown hgrow hat hlt3
              have hM3 := HM2.out.app (vs' := vs ++ [M]) rfl hown hgrow
              have hcp := hown.2
              rw [show vs.length + 1 = (vs ++ [M]).length by simp] at hM3 ⊢
              have HMx : Hid (MemW w2 u3 w2.heap.size w5.heap.size (w5.heap.size + 1) (.slice (some ⟨g, 0, none⟩) (vs ++ [M]).length cp) evs.length (ts ++ [growthM (evs.take M) N]) (vs ++ [M]) tl) := hM3
              have HIx : Hid (HonI evs (ts ++ [growthM (evs.take M) N]) (vs ++ [M]) tl M (2 + 2 * k)) := hI2.more (by omega)
              clear HM2 hI2 hlm hlmI hNM hbw hgl hN hown hgrow hat hlt3 hM3 hvl hvp hvc1 hvc2 hvb hcp
              generalize ts ++ [growthM (evs.take M) N] = ts at *
              generalize vs ++ [M] = vs at *
              generalize u3 = wr at *
              generalize M = N at *
              generalize g = vb at *
              generalize cp = vcp at *
        all_goals
          have hvp := HIx.out.pos
          have hvl := HIx.out.vlen
          have hN := HIx.out.n
          have hNin : N ∈ vs := List.mem_of_getLast? HIx.out.last
          obtain ⟨vb', vcp', e, hvc1, hvc2, hvb, hvcell⟩ := nats_owns HMx.out.vers hvp
          simp only [Value.slice.injEq, Option.some.injEq, Addr.mk.injEq, and_true, true_and] at e
          obtain ⟨rfl, rfl⟩ := e
          have hbw : Below w.heap.size w wr := hB2.trans (HMx.out.below.mono hs2)
          rcases Nat.lt_or_ge k qs.length with hql | hql
          case' inr =>
            have hqlI : (qs.length : Int) ≤ (k : Int) := by omega
            have hJin := hNin
            clear hql hNin hN hvcell
            generalize N = Vn at *
          case' inl =>
            have hqlI : (k : Int) < (qs.length : Int) := by omega
            obtain ⟨ab, ao', e, habs, hac⟩ := HA.out (by omega)
            cases e
            have cq := (hbw.cell (p := ⟨ab, ao' + k, none⟩) habs).trans (hac k hql)
            obtain ⟨q0, q1⟩ := HAB.out qs[k] (List.getElem_mem hql)
            generalize qs[k] = q at *
            clear hac hql
            go_wp2_with fail
            refine (pick_any q _ _ q0 q1 (by omega) (by omega)).mono ?_
            rintro e wr ⟨rfl, rfl⟩
            have hpj := pickZ_bd q (vs.length : Int) (by omega)
            obtain ⟨J, hJ⟩ : ∃ J : Nat, pickZ q (vs.length : Int) = J := ⟨(pickZ q (vs.length : Int)).toNat, by omega⟩
            rw [hJ] at hpj ⊢
            clear hJ cq q0 q1
            have hJl : J < vs.length := by omega
            have cJ := hvcell J hJl
            have hJin : vs[J] ∈ vs := List.getElem_mem hJl
            generalize vs[J] = Vn at *
            clear hvcell
          all_goals
            obtain ⟨mb, mo, e, hmbs, hmc⟩ := HM.out (by omega)
            cases e
            have cm := (hbw.cell (p := ⟨mb, mo + k, none⟩) hmbs).trans (hmc k hlt)
            obtain ⟨q0, q1⟩ := HMB.out ms[k] (List.getElem_mem hlt)
            generalize ms[k] = q at *
            clear hmc
            go_wp2_with fail
            have hVb := HIx.out.bd Vn hJin
            refine (pick_any q _ _ q0 q1 (by omega) (by omega)).mono ?_
            rintro e wr ⟨rfl, rfl⟩
            have hpi := pickZ_bd q (Vn : Int) (by omega)
            obtain ⟨I, hI⟩ : ∃ I : Nat, pickZ q (Vn : Int) = I := ⟨(pickZ q (Vn : Int)).toNat, by omega⟩
            rw [hI] at hpi ⊢
            have hIl : I < Vn := by omega
            clear hI cm q0 q1 hpi hbw
            go_wp2_with fail
            refine (memberC _ _ B S evs I Vn (HL2.out.below HMx.out.below) hIl hVb.2 hK2 HLE.out).mono ?_
            rintro e u1 ⟨v1, rfl, hV1, hb1⟩
            have HMy : Hid _ := HMx.out.keep hb1
            obtain ⟨ad2, cp2, L2, rfl, hl1, hV1⟩ := hV1
            have HV1 : Hid (BytesC u1 (.slice (some ad2) L2 cp2) (encV (memberM (evs.take Vn) I))) := hV1
            have hT := tk_member ts evs I Vn (by have := HIx.out.few; omega) hIl hVb.2 hK2 HLE.out (by rw [HIx.out.vers]; exact rootOf_vs evs vs Vn hJin)
            clear hb1 hl1 hV1
            go_wp2_with fail
            refine (take_any u1 _ _ ts _ _ HMy.out.aud HV1.out).mono ?_
            rintro e u2 ⟨rfl, hA2, hK2'⟩
            rw [hT.1]
            rw [hT.2] at hA2
            have HMz : Hid _ := HMy.out.took hK2' hA2
            have HIz : Hid (HonI evs (ts ++ [memberM (evs.take Vn) I]) vs (tl.set I true) _ (1 + 2 * (k + 1))) := (HIx.out.member hJin hIl).more (by omega)
            obtain ⟨tb, ct, zt⟩ : ∃ tb, u2.cell? ⟨w5.heap.size + 1, I, none⟩ = some (.bool tb) ∧ u2.frozen? ⟨w5.heap.size + 1, I, none⟩ = false := ⟨_, HMz.out.told.cell I (by rw [HIx.out.tlen]; omega)⟩
            have hIe : (I : Int) < (evs.length : Int) := by omega
            clear hA2 hK2' HV1 HMy HMx HIx hT
            go_wp2
            go_roundw
            case rel => exact ⟨k + 1, _, _, _, _, by omega, by omega, by go_num, rfl, HMz.out.mark, HIz⟩
            case measure => simp [intOf]; omega
      · have hA : AudAt wr w2.heap.size w2.heap.size ts := HM0.out.aud
        have hBw : Below w.heap.size w wr := hB2.trans (HM0.out.below.mono hs2)
        have hL : LogAt wr w1.heap.size B S evs := HL2.out.below HM0.out.below
        have hOw : StringsAt wr (.slice (some ⟨oa, 0, none⟩) evs.length oc) evs := strs_owns (owns_below HO2.out HM0.out.below)
        have hNt := nats_owns HM0.out.vers hvp
        have HE : Hid (∀ {Q}, (∀ e w', e = .returned (.bool true) ∧ Below wr.heap.size wr w' → Q e w') → Calls Tryz.prog 27 #[.pointer (some ⟨w2.heap.size, 0, none⟩), .pointer (some ⟨B, 0, none⟩), .slice (some ⟨vb, 0, none⟩) vs.length vcp, .slice (some ⟨oa, 0, none⟩) evs.length oc, .slice (some ⟨w5.heap.size + 1, 0, none⟩) evs.length evs.length] wr Q) := fun h => (seen_any wr _ _ _ B S _ _ _ evs ts vs tl N (1 + 2 * k) hA hL hNt hOw HM0.out.told HI0.out (by omega) hK1 hK2 HLE.out).mono h
        clear hA hL hOw hNt hvcell
        by_cases hlt1 : k < ms.length
        · have hltA : (k : Int) < (ms.length : Int) := by omega
          have hltB : (100 : Int) ≤ (k : Int) := by omega
          go_wp2_with fail
          refine HE.out ?_
          rintro e w9 ⟨rfl, hb9⟩
          have hB9 := hBw.trans (hb9.mono hBw.size)
          go_wp2
          go_ret
          exact ⟨rfl, hB9⟩
        · have hltA : (ms.length : Int) ≤ (k : Int) := by omega
          go_wp2_with fail
          refine HE.out ?_
          rintro e w9 ⟨rfl, hb9⟩
          have hB9 := hBw.trans (hb9.mono hBw.size)
          go_wp2
          go_ret
          exact ⟨rfl, hB9⟩
end Go.Proofs.YtlndinigbppafaaGreat
