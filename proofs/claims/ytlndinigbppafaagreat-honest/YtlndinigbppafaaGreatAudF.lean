/-
  The walk of the program's weighGrowth: the old root fits.
-/
import Derived.Test.YtlndinigbppafaaGreatAudE
namespace Go.Proofs.YtlndinigbppafaaGreat
open Go.RowKit Go.Deep

set_option maxRecDepth 100000 in
set_option maxHeartbeats 8000000 in
theorem weighG_good (w : World) (b0 A : Nat) (n : Int) (Vv Ve Vf : Value) (vs : List (Int × Int)) (v : Int × Int) (es : List Ent) (fs : List Fam) (TL : List (List UInt8)) (k R : Int) (mm nn : Nat) (t : PT) (T : Value) (h : AudB w b0 A n Vv Ve Vf (vs ++ [v]) es fs TL) (hb0 : b0 ≤ w.heap.size) (hl : vs.length ≤ 900)
    (hsh : PT.Sh 2 mm nn (dep nn) 0 t) (h1 : 1 ≤ mm) (h2 : mm ≤ nn) (hn : nn ≤ 500) (hN : NodesC w T t.flat) (hvm : v.1 = mm) (hcd : (t.cut mm (dep nn) 0).dS = v.2) :
    Calls Tryz.prog 96 #[.pointer (some ⟨A, 0, none⟩), .agg #[.int .i64 k, .int .i64 mm, .int .i64 nn, .int .i64 R, T]] w fun e w' => GP b0 A n (vs ++ [v]) es TL mm nn R t w e w' := by
  have hlen : (vs ++ [v]).length = vs.length + 1 := by simp
  have hd := dep_le nn 9 (by rw [pw_9]; omega)
  have hpw : pw (dep nn) ≤ 512 := pw_le (e := 9) hd
  have hfew := hsh.few
  have hVA := VersAt.of_owns h.vers
  obtain ⟨va, vc, rfl, hvr⟩ := id hVA
  clear hvr
  have hA : Below w.heap.size w (w.alloc (.cells #[.int .i64 k, .int .i64 mm, .int .i64 nn, .int .i64 R, T] 63)) := (Below.refl _ _).alloc (Nat.le_refl _) _
  have g0 := heap_new w (.cells #[.int .i64 k, .int .i64 mm, .int .i64 nn, .int .i64 R, T] 63) _ rfl
  have hW := h.below hA
  have hNW := hN.below hA
  have hVW := hVA.below hA
  have hKW : KeepsA b0 w (w.alloc (.cells #[.int .i64 k, .int .i64 mm, .int .i64 nn, .int .i64 R, T] 63)) := KeepsA.of_below hA
  have hbW := Nat.le_trans hb0 hA.size
  have hAl := lt_of_heap h.blk
  clear h hN hVA hA
  generalize hW0 : w.alloc (.cells #[.int .i64 k, .int .i64 mm, .int .i64 nn, .int .i64 R, T] 63) = W at g0 hW hNW hVW hKW hbW
  obtain ⟨vb, vo, rfl, hvb, v0, v1⟩ := vers_cell hVW vs.length (by simp)
  simp only [List.getElem_append_right (Nat.le_refl _), Nat.sub_self, List.getElem_cons_zero] at v0 v1
  obtain ⟨m0, m1, m2, m3, m4⟩ := msg_box g0
  have hc : W.cell? ⟨A, 2, none⟩ = some (.slice (some ⟨vb, vo, none⟩) (vs.length + 1) vc) := by rw [cell_of_row _ _ _ _ _ _ hW.blk]; simp
  rw [hlen] at hW
  have HRG : Hid (∀ dm dn, resG (vs ++ [v]) mm R dm dn = if v.1 ≠ mm then 8 else if dm ≠ v.2 ∨ dn ≠ R then 9 else 0) := fun dm dn => by unfold resG; simp
  have HW : Hid (AudB W b0 A n (.slice (some ⟨vb, vo, none⟩) (vs.length + 1) vc) Ve Vf (vs ++ [v]) es fs TL) := hW
  have HNW : Hid (NodesC W T t.flat) := hNW
  clear hW hNW hVW
  have hlti : (vs.length : Int) < (vs.length : Int) + 1 := by omega
  have hvb' : (v.1 != (mm : Int)) = false := by simp [hvm]
  have HRG2 : Hid (∀ dm dn, resG (vs ++ [v]) mm R dm dn = if dm ≠ v.2 ∨ dn ≠ R then 9 else 0) := fun dm dn => by rw [HRG.out, if_neg (by simp [hvm])]
  clear hvm HRG
  go_enter Tryz.func96, Tryz.ntmps96
  go_wp2
  go_quiet (fail)
  have hbq : Below W.heap.size W (W.drewN nq) := below_drewN (Below.refl _ _) nq
  have hKq := hKW.trans (KeepsA.of_below (b0 := b0) hbq)
  have HWq : Hid (AudB (W.drewN nq) b0 A n (.slice (some ⟨vb, vo, none⟩) (vs.length + 1) vc) Ve Vf (vs ++ [v]) es fs TL) := HW.out.below hbq
  have HNq : Hid (NodesC (W.drewN nq) T t.flat) := HNW.out.below hbq
  have gq := heap_keep g0 hbq
  have q1 := cell_keep v1 hbq
  have hbwq := Nat.le_trans hbW hbq.size
  have m1q := (msg_box gq).2.1
  have m2q := (msg_box gq).2.2.1
  have m4q := (msg_box gq).2.2.2.2
  clear HW HNW v0 v1 m0 m1 m2 m3 m4 hc g0 hKW hvb' hbq hW0
  generalize W.drewN nq = W1 at *
  go_wp2_with fail
  refine (Pruned_any hsh T W1 (by omega) hn (by omega) HNq.out).mono ?_
  rintro e w2 ⟨rfl, hb2⟩
  have hK2 := hKq.trans (KeepsA.of_below (b0 := b0) hb2)
  have HW2 : Hid (AudB w2 b0 A n (.slice (some ⟨vb, vo, none⟩) (vs.length + 1) vc) Ve Vf (vs ++ [v]) es fs TL) := HWq.out.below hb2
  have g2 := heap_keep gq hb2
  have v2 := cell_keep q1 hb2
  have hbw2 := Nat.le_trans hbwq hb2.size
  clear HWq HNq gq q1 hKq hbwq hb2 m1q m2q m4q
  have m1 := (msg_box g2).2.1
  have HPN : Hid (NodeT (ptV t (dep nn) 0) t) := ptV_node t _ _
  have HPR : Hid (Pres (ptV t (dep nn) 0) t.tS) := pres_any (ptV_node t _ _) hsh.bd (by have := PT.tS_le t; omega)
  obtain ⟨ty, av, F, hVp, hm, hE, hNl, hC⟩ := cut_any hsh mm h1 (by omega) (by omega) (by omega)
  obtain ⟨ty', av', Fd, hVd, hmd, hEd, hNd, hCd⟩ := (ptV_node t (dep nn) 0).digs
  rw [hVp] at hVd HPN HPR ⊢
  simp only [Value.iface.injEq] at hVd
  obtain ⟨rfl, rfl⟩ := hVd
  clear hVp
  go_wp2_with fail
  refine (hC.out _).mono ?_
  rintro e w3 ⟨V3, rfl, hN3, hb3⟩
  have hK3 := hK2.trans (KeepsA.of_below (b0 := b0) hb3)
  have HW3 : Hid (AudB w3 b0 A n (.slice (some ⟨vb, vo, none⟩) (vs.length + 1) vc) Ve Vf (vs ++ [v]) es fs TL) := HW2.out.below hb3
  have g3 := heap_keep g2 hb3
  have v3 := cell_keep v2 hb3
  have hbw3 := Nat.le_trans hbw2 hb3.size
  have hPR3 : Pres V3 (t.cut mm (dep nn) 0).tS := pres_any hN3 (hsh.bd.cut _ _ _) (by have := PT.tS_le (t.cut mm (dep nn) 0); have := PT.cut_le mm t (dep nn) 0; omega)
  have HPR3 : Hid (Pres V3 (t.cut mm (dep nn) 0).tS) := hPR3
  obtain ⟨ty3, av3, F3, rfl, hm3, hE3, hNl3, hC3⟩ := hN3.digs
  clear HW2 g2 v2 hK2 hbw2 hb3 m1 hC hm hE hNl hPR3 hN3
  obtain ⟨m0, m1, m2, m3, m4⟩ := msg_box g3
  have hc3 : w3.cell? ⟨A, 2, none⟩ = some (.slice (some ⟨vb, vo, none⟩) (vs.length + 1) vc) := by rw [cell_of_row _ _ _ _ _ _ HW3.out.blk]; rfl
  have f := And.intro hc3 (And.intro v3 m3)
  clear m0 m1 m2 m4 hc3 v3 m3
  obtain ⟨dm, HDM⟩ : ∃ dm, Hid ((t.cut mm (dep nn) 0).dS = dm) := ⟨_, rfl⟩
  obtain ⟨dn, HDN⟩ : ∃ dn, Hid (t.dS = dn) := ⟨_, rfl⟩
  rw [HDM.out] at hC3
  rw [HDN.out] at hCd
  have hdm : dm = v.2 := HDM.out.symm.trans hcd
  clear hcd
  have hdb : (dm != v.2) = false := by simp [hdm]
  by_cases hdn : dn = R
  · have hdb2 : (dn != R) = false := by simp [hdn]
    have HZ : Hid (resG (vs ++ [v]) mm R dm dn = 0) := by show _ = _; rw [HRG2.out, if_neg (by simp [hdm, hdn])]
    clear hdm hdn HRG2
    go_wp2
    go_region_held3 (fun u => u.cell? ⟨A, 2, none⟩ = some (.slice (some ⟨vb, vo, none⟩) (vs.length + 1) vc) ∧ u.cell? ⟨vb, vo + vs.length * 2 + 1, none⟩ = some (.int .i64 v.2) ∧ u.cell? ⟨w.heap.size, 3, none⟩ = some (.int .i64 R)) (first | (with_reducible assumption) | exact f | fail)
      (first
        | (refine Calls.mono (hC3.out _) ?_; rintro e w4 ⟨rfl, hb4⟩; have hk4 := cells3c f (Below.trans (Below.refl _ _).drew hb4))
        | (refine Calls.mono (hCd.out _) ?_; rintro e w5 ⟨rfl, hb5⟩; have hk5 := cells3c hk4 hb5)
        | fail)
    have hb35 : Below w3.heap.size w3 w5 := below_step (Below.trans (Below.refl _ _).drew hb4) hb5
    have HW5 : Hid (AudB w5 b0 A n (.slice (some ⟨vb, vo, none⟩) (vs.length + 1) vc) Ve Vf (vs ++ [v]) es fs TL) := HW3.out.below hb35
    have hK5 := hK3.trans (KeepsA.of_below (b0 := b0) hb35)
    have g5 := heap_keep g3 hb35
    have hbw5 := Nat.le_trans hbw3 hb35.size
    clear HW3 hK3 g3 hbw3 hb35 hb4 hb5 hk4 hk5 f
    have hAl5 : Below w5.heap.size w5 (w5.alloc (.cells #[.iface ty3 av3, .iface ty av] 120)) := (Below.refl _ _).alloc (Nat.le_refl _) _
    have HTA : Hid (TreesAt (w5.alloc (.cells #[.iface ty3 av3, .iface ty av] 120)) w5.heap.size [.iface ty3 av3, .iface ty av] [(t.cut mm (dep nn) 0).tS, t.tS]) := ⟨heap_alloc_new w5 _, rfl, fun i h h' => by
      match i, h with
      | 0, _ => exact HPR3.out
      | 1, _ => exact HPR.out⟩
    have HSH : Hid (∀ l ∈ [(t.cut mm (dep nn) 0).tS, t.tS], l.length ≤ 400000 ∧ ∀ x ∈ l, 1 ≤ x.length ∧ x.length ≤ 1000) := texts_small (mm : Int) hsh.bd (by omega) (dep nn) 0
    have HG6 : Hid (AudB (w5.alloc (.cells #[.iface ty3 av3, .iface ty av] 120)) b0 A n (.slice (some ⟨vb, vo, none⟩) (vs.length + 1) vc) Ve Vf (vs ++ [v]) es fs TL) := HW5.out.below hAl5
    have g6 := heap_keep g5 hAl5
    have hK6 := hK5.trans (KeepsA.of_below (b0 := b0) hAl5)
    have hbw6 := Nat.le_trans hbw5 hAl5.size
    clear HW5 g5 hK5 hbw5 hAl5
    go_wp2_with fail
    refine (learnTexts_any _ b0 A n _ Ve Vf (vs ++ [v]) es fs TL w5.heap.size _ _ HG6.out hbw6 HTA.out (by simp) HSH.out).mono ?_
    rintro e w7 ⟨rfl, Vf7, fs7, hA7, hK7⟩
    have g7 := (KeepsA.keepsT (t := 63) hK7 (by decide) (by decide) (by decide) (by decide) (by decide)) _ _ _ g6
    have HA7 : Hid (AudB w7 b0 A n (.slice (some ⟨vb, vo, none⟩) (vs.length + 1) vc) Ve Vf7 (vs ++ [v]) es fs7 (TL ++ [(t.cut mm (dep nn) 0).tS, t.tS].flatten)) := hA7
    have hK07 := hK6.trans hK7
    have hbw7 := Nat.le_trans hbw6 hK7.size
    clear HTA HSH HG6 g6 hK6 hbw6 hA7 hK7 HPR HPR3 HPN hm3 hE3 hNl3 hC3 hEd hmd hNd hCd
    obtain ⟨m0, m1, m2, m3, m4⟩ := msg_box g7
    by_cases hmn : mm < nn
    · have hmni : (mm : Int) < (nn : Int) := by omega
      have HMN : Hid (mm < nn) := hmn
      clear hmn
      go_wp2_with fail
      refine (learnVersion_any _ b0 A n _ Ve Vf7 (vs ++ [v]) es fs7 _ (nn, R) HA7.out hbw7 (by simp; omega)).mono ?_
      rintro e w8 ⟨rfl, Vv8, hA8, hK8⟩
      have HP : Hid (GP b0 A n (vs ++ [v]) es TL mm nn R t w (.returned (.int .i64 0)) w8) := ⟨fun hz => absurd (by rw [HDM.out, HDN.out]; exact HZ.out) hz, fun _ => ⟨_, _, _, _, rfl, by rw [if_pos HMN.out]; exact hA8, hK07.trans hK8⟩⟩
      clear hA8 hK8 HA7 g7 m0 m1 m2 m3 m4
      go_wp2
      go_ret
      exact HP.out
    · have hmni : ¬ (mm : Int) < (nn : Int) := by omega
      have HP : Hid (GP b0 A n (vs ++ [v]) es TL mm nn R t w (.returned (.int .i64 0)) w7) := ⟨fun hz => absurd (by rw [HDM.out, HDN.out]; exact HZ.out) hz, fun _ => ⟨_, _, _, _, rfl, by rw [if_neg hmn, List.append_nil]; exact HA7.out, hK07⟩⟩
      clear hmn HA7 g7
      go_wp2
      go_ret
      exact HP.out
  · have hdb2 : (dn != R) = true := by simp [hdn]
    have HZ : Hid (resG (vs ++ [v]) mm R dm dn = 9) := by show _ = _; rw [HRG2.out, if_pos (.inr hdn)]
    clear hdm hdn HRG2
    go_wp2
    go_region_held3 (fun u => u.cell? ⟨A, 2, none⟩ = some (.slice (some ⟨vb, vo, none⟩) (vs.length + 1) vc) ∧ u.cell? ⟨vb, vo + vs.length * 2 + 1, none⟩ = some (.int .i64 v.2) ∧ u.cell? ⟨w.heap.size, 3, none⟩ = some (.int .i64 R)) (first | (with_reducible assumption) | exact f | fail)
      (first
        | (refine Calls.mono (hC3.out _) ?_; rintro e w4 ⟨rfl, hb4⟩; have hk4 := cells3c f (Below.trans (Below.refl _ _).drew hb4))
        | (refine Calls.mono (hCd.out _) ?_; rintro e w5 ⟨rfl, hb5⟩; have hk5 := cells3c hk4 hb5)
        | fail)
    all_goals go_wp2
    all_goals go_ret
    all_goals
      have hb35 : Below w3.heap.size w3 w5 := below_step (Below.trans (Below.refl _ _).drew hb4) hb5
      exact GP.no ⟨_, _, _, _, rfl, HW3.out.below hb35, hK3.trans (KeepsA.of_below hb35)⟩ (by rw [HDM.out, HDN.out]; exact HZ.out) (by decide)
end Go.Proofs.YtlndinigbppafaaGreat
