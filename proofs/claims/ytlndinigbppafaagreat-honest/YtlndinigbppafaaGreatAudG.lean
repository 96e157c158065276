/-
  The walk of the program's weighGrowth: the old root does not fit.
-/
import Derived.Test.YtlndinigbppafaaGreatAudE
namespace Go.Proofs.YtlndinigbppafaaGreat
open Go.RowKit Go.Deep

set_option maxRecDepth 100000 in
set_option maxHeartbeats 8000000 in
theorem weighG_bad (w : World) (b0 A : Nat) (n : Int) (Vv Ve Vf : Value) (vs : List (Int × Int)) (v : Int × Int) (es : List Ent) (fs : List Fam) (TL : List (List UInt8)) (k R : Int) (mm nn : Nat) (t : PT) (T : Value) (h : AudB w b0 A n Vv Ve Vf (vs ++ [v]) es fs TL) (hb0 : b0 ≤ w.heap.size) (hl : vs.length ≤ 1000)
    (hsh : PT.Sh 2 mm nn (dep nn) 0 t) (h1 : 1 ≤ mm) (h2 : mm ≤ nn) (hn : nn ≤ 500) (hN : NodesC w T t.flat) (hvm : v.1 = mm) (hcd : (t.cut mm (dep nn) 0).dS ≠ v.2) :
    Calls Tryz.prog 96 #[.pointer (some ⟨A, 0, none⟩), .agg #[.int .i64 k, .int .i64 mm, .int .i64 nn, .int .i64 R, T]] w fun e w' => GP b0 A n (vs ++ [v]) es TL mm nn R t w e w' := by
  have hlen : (vs ++ [v]).length = vs.length + 1 := by simp
  have hd := dep_le nn 9 (by rw [pw_9]; omega)
  have hpw : pw (dep nn) ≤ 512 := pw_le (e := 9) hd
  have hfew := hsh.few
  have hVA := VersAt.of_owns h.vers
  obtain ⟨va, vc, rfl, hvr⟩ := id hVA
  clear hvr
  have hA : Below w.heap.size w (w.alloc (.cells #[.int .i64 k, .int .i64 mm, .int .i64 nn, .int .i64 R, T] 63)) := (Below.refl _ _).alloc (Nat.le_refl _) _
  have g0 := heap_new w (.cells #[.int .i64 k, .int .i64 mm, .int .i64 nn, .int .i64 R, T] 63) _ rfl
  have hW := h.below hA
  have hNW := hN.below hA
  have hVW := hVA.below hA
  have hKW : KeepsA b0 w (w.alloc (.cells #[.int .i64 k, .int .i64 mm, .int .i64 nn, .int .i64 R, T] 63)) := KeepsA.of_below hA
  have hbW := Nat.le_trans hb0 hA.size
  have hAl := lt_of_heap h.blk
  clear h hN hVA hA
  generalize hW0 : w.alloc (.cells #[.int .i64 k, .int .i64 mm, .int .i64 nn, .int .i64 R, T] 63) = W at g0 hW hNW hVW hKW hbW
  obtain ⟨vb, vo, rfl, hvb, v0, v1⟩ := vers_cell hVW vs.length (by simp)
  simp only [List.getElem_append_right (Nat.le_refl _), Nat.sub_self, List.getElem_cons_zero] at v0 v1
  obtain ⟨m0, m1, m2, m3, m4⟩ := msg_box g0
  have hc : W.cell? ⟨A, 2, none⟩ = some (.slice (some ⟨vb, vo, none⟩) (vs.length + 1) vc) := by rw [cell_of_row _ _ _ _ _ _ hW.blk]; simp
  rw [hlen] at hW
  have HRG : Hid (∀ dm dn, resG (vs ++ [v]) mm R dm dn = if v.1 ≠ mm then 8 else if dm ≠ v.2 ∨ dn ≠ R then 9 else 0) := fun dm dn => by unfold resG; simp
  have HW : Hid (AudB W b0 A n (.slice (some ⟨vb, vo, none⟩) (vs.length + 1) vc) Ve Vf (vs ++ [v]) es fs TL) := hW
  have HNW : Hid (NodesC W T t.flat) := hNW
  clear hW hNW hVW
  have hlti : (vs.length : Int) < (vs.length : Int) + 1 := by omega
  have hvb' : (v.1 != (mm : Int)) = false := by simp [hvm]
  have HRG2 : Hid (∀ dm dn, resG (vs ++ [v]) mm R dm dn = if dm ≠ v.2 ∨ dn ≠ R then 9 else 0) := fun dm dn => by rw [HRG.out, if_neg (by simp [hvm])]
  clear hvm HRG
  go_enter Tryz.func96, Tryz.ntmps96
  go_wp2
  go_quiet (fail)
  have hbq : Below W.heap.size W (W.drewN nq) := below_drewN (Below.refl _ _) nq
  have hKq := hKW.trans (KeepsA.of_below (b0 := b0) hbq)
  have HWq : Hid (AudB (W.drewN nq) b0 A n (.slice (some ⟨vb, vo, none⟩) (vs.length + 1) vc) Ve Vf (vs ++ [v]) es fs TL) := HW.out.below hbq
  have HNq : Hid (NodesC (W.drewN nq) T t.flat) := HNW.out.below hbq
  have gq := heap_keep g0 hbq
  have q1 := cell_keep v1 hbq
  have hbwq := Nat.le_trans hbW hbq.size
  have m1q := (msg_box gq).2.1
  have m2q := (msg_box gq).2.2.1
  have m4q := (msg_box gq).2.2.2.2
  clear HW HNW v0 v1 m0 m1 m2 m3 m4 hc g0 hKW hvb' hbq hW0
  generalize W.drewN nq = W1 at *
  go_wp2_with fail
  refine (Pruned_any hsh T W1 (by omega) hn (by omega) HNq.out).mono ?_
  rintro e w2 ⟨rfl, hb2⟩
  have hK2 := hKq.trans (KeepsA.of_below (b0 := b0) hb2)
  have HW2 : Hid (AudB w2 b0 A n (.slice (some ⟨vb, vo, none⟩) (vs.length + 1) vc) Ve Vf (vs ++ [v]) es fs TL) := HWq.out.below hb2
  have g2 := heap_keep gq hb2
  have v2 := cell_keep q1 hb2
  have hbw2 := Nat.le_trans hbwq hb2.size
  clear HWq HNq gq q1 hKq hbwq hb2 m1q m2q m4q
  have m1 := (msg_box g2).2.1
  have HPN : Hid (NodeT (ptV t (dep nn) 0) t) := ptV_node t _ _
  have HPR : Hid (Pres (ptV t (dep nn) 0) t.tS) := pres_any (ptV_node t _ _) hsh.bd (by have := PT.tS_le t; omega)
  obtain ⟨ty, av, F, hVp, hm, hE, hNl, hC⟩ := cut_any hsh mm h1 (by omega) (by omega) (by omega)
  obtain ⟨ty', av', Fd, hVd, hmd, hEd, hNd, hCd⟩ := (ptV_node t (dep nn) 0).digs
  rw [hVp] at hVd HPN HPR ⊢
  simp only [Value.iface.injEq] at hVd
  obtain ⟨rfl, rfl⟩ := hVd
  clear hVp
  go_wp2_with fail
  refine (hC.out _).mono ?_
  rintro e w3 ⟨V3, rfl, hN3, hb3⟩
  have hK3 := hK2.trans (KeepsA.of_below (b0 := b0) hb3)
  have HW3 : Hid (AudB w3 b0 A n (.slice (some ⟨vb, vo, none⟩) (vs.length + 1) vc) Ve Vf (vs ++ [v]) es fs TL) := HW2.out.below hb3
  have g3 := heap_keep g2 hb3
  have v3 := cell_keep v2 hb3
  have hbw3 := Nat.le_trans hbw2 hb3.size
  have hPR3 : Pres V3 (t.cut mm (dep nn) 0).tS := pres_any hN3 (hsh.bd.cut _ _ _) (by have := PT.tS_le (t.cut mm (dep nn) 0); have := PT.cut_le mm t (dep nn) 0; omega)
  have HPR3 : Hid (Pres V3 (t.cut mm (dep nn) 0).tS) := hPR3
  obtain ⟨ty3, av3, F3, rfl, hm3, hE3, hNl3, hC3⟩ := hN3.digs
  clear HW2 g2 v2 hK2 hbw2 hb3 m1 hC hm hE hNl hPR3 hN3
  obtain ⟨m0, m1, m2, m3, m4⟩ := msg_box g3
  have hc3 : w3.cell? ⟨A, 2, none⟩ = some (.slice (some ⟨vb, vo, none⟩) (vs.length + 1) vc) := by rw [cell_of_row _ _ _ _ _ _ HW3.out.blk]; rfl
  have f := And.intro hc3 (And.intro v3 m3)
  clear m0 m1 m2 m4 hc3 v3 m3
  obtain ⟨dm, HDM⟩ : ∃ dm, Hid ((t.cut mm (dep nn) 0).dS = dm) := ⟨_, rfl⟩
  obtain ⟨dn, HDN⟩ : ∃ dn, Hid (t.dS = dn) := ⟨_, rfl⟩
  rw [HDM.out] at hC3
  rw [HDN.out] at hCd
  have hdm : dm ≠ v.2 := fun e => hcd (HDM.out.trans e)
  clear hcd
  have hdb : (dm != v.2) = true := by simp [hdm]
  have HZ : Hid (resG (vs ++ [v]) mm R dm dn = 9) := by show _ = _; rw [HRG2.out, if_pos (.inl hdm)]
  clear hdm HRG2
  go_wp2
  refine wp_region_held_drew (S := fun u => u.cell? ⟨A, 2, none⟩ = some (.slice (some ⟨vb, vo, none⟩) (vs.length + 1) vc) ∧ u.cell? ⟨vb, vo + vs.length * 2 + 1, none⟩ = some (.int .i64 v.2) ∧ u.cell? ⟨w.heap.size, 3, none⟩ = some (.int .i64 R)) (by kernel_rfl) f (fun hHeld => ?_)
  refine wpAnyH_take (i := 0) (v := .iface ty3 av3) rfl (by kernel_rfl) (by kernel_rfl) (by kernel_rfl) (fun _ _ _ h => h) (Or.inl ⟨by rfl, fun u hSu => by obtain ⟨s1, s2, s3⟩ := hSu; go_simp; try with_reducible rfl⟩) hHeld ?_
  change wpAnyH _ _ _ _ _ _ _ (Act.put _ (some 38) _) _
  simp only [Act.put, List.setIfInBounds_toArray, List.set_cons_zero, List.set_cons_succ]
  refine wpAnyH_take (i := 2) (v := .pointer (some ⟨A, 0, none⟩)) rfl (by kernel_rfl) (by kernel_rfl) (by kernel_rfl) (fun _ _ _ h => h) (Or.inl ⟨by rfl, fun u hSu => by obtain ⟨s1, s2, s3⟩ := hSu; go_simp; try with_reducible rfl⟩) hHeld ?_
  change wpAnyH _ _ _ _ _ _ _ (Act.put _ (some 40) _) _
  simp only [Act.put, List.setIfInBounds_toArray, List.set_cons_zero, List.set_cons_succ]
  refine wpAnyH_take (i := 3) (v := .pointer (some ⟨A, 0, none⟩)) rfl (by kernel_rfl) (by kernel_rfl) (by kernel_rfl) (fun _ _ _ h => h) (Or.inl ⟨by rfl, fun u hSu => by obtain ⟨s1, s2, s3⟩ := hSu; go_simp; try with_reducible rfl⟩) hHeld ?_
  change wpAnyH _ _ _ _ _ _ _ (Act.put _ (some 41) _) _
  simp only [Act.put, List.setIfInBounds_toArray, List.set_cons_zero, List.set_cons_succ]
  refine wpAnyH_take (i := 4) (v := .pointer (some ⟨A, 2, none⟩)) rfl (by kernel_rfl) (by kernel_rfl) (by kernel_rfl) (fun _ _ _ h => h) (Or.inl ⟨by rfl, fun u hSu => by obtain ⟨s1, s2, s3⟩ := hSu; go_simp; try with_reducible rfl⟩) hHeld ?_
  change wpAnyH _ _ _ _ _ _ _ (Act.put _ (some 42) _) _
  simp only [Act.put, List.setIfInBounds_toArray, List.set_cons_zero, List.set_cons_succ]
  refine wpAnyH_take (i := 5) (v := .slice (some ⟨vb, vo, none⟩) (vs.length + 1) vc) rfl (by kernel_rfl) (by kernel_rfl) (by kernel_rfl) (fun _ _ _ h => h) (Or.inl ⟨by rfl, fun u hSu => by obtain ⟨s1, s2, s3⟩ := hSu; go_simp; try with_reducible rfl⟩) hHeld ?_
  change wpAnyH _ _ _ _ _ _ _ (Act.put _ (some 43) _) _
  simp only [Act.put, List.setIfInBounds_toArray, List.set_cons_zero, List.set_cons_succ]
  refine wpAnyH_take (i := 6) (v := .int .i64 vs.length) rfl (by kernel_rfl) (by kernel_rfl) (by kernel_rfl) (fun _ _ _ h => h) (Or.inl ⟨by rfl, fun u hSu => by obtain ⟨s1, s2, s3⟩ := hSu; go_simp; try with_reducible rfl⟩) hHeld ?_
  change wpAnyH _ _ _ _ _ _ _ (Act.put _ (some 44) _) _
  simp only [Act.put, List.setIfInBounds_toArray, List.set_cons_zero, List.set_cons_succ]
  refine wpAnyH_take (i := 7) (v := .pointer (some ⟨vb, vo + vs.length * 2, none⟩)) rfl (by kernel_rfl) (by kernel_rfl) (by kernel_rfl) (fun _ _ _ h => h) (Or.inl ⟨by rfl, fun u hSu => by obtain ⟨s1, s2, s3⟩ := hSu; go_simp; try with_reducible rfl⟩) hHeld ?_
  change wpAnyH _ _ _ _ _ _ _ (Act.put _ (some 45) _) _
  simp only [Act.put, List.setIfInBounds_toArray, List.set_cons_zero, List.set_cons_succ]
  refine wpAnyH_take (i := 8) (v := .pointer (some ⟨vb, vo + vs.length * 2 + 1, none⟩)) rfl (by kernel_rfl) (by kernel_rfl) (by kernel_rfl) (fun _ _ _ h => h) (Or.inl ⟨by rfl, fun u hSu => by obtain ⟨s1, s2, s3⟩ := hSu; go_simp; try with_reducible rfl⟩) hHeld ?_
  change wpAnyH _ _ _ _ _ _ _ (Act.put _ (some 46) _) _
  simp only [Act.put, List.setIfInBounds_toArray, List.set_cons_zero, List.set_cons_succ]
  refine wpAnyH_take (i := 9) (v := .int .i64 v.2) rfl (by kernel_rfl) (by kernel_rfl) (by kernel_rfl) (fun _ _ _ h => h) (Or.inl ⟨by rfl, fun u hSu => by obtain ⟨s1, s2, s3⟩ := hSu; go_simp; try with_reducible rfl⟩) hHeld ?_
  change wpAnyH _ _ _ _ _ _ _ (Act.put _ (some 47) _) _
  simp only [Act.put, List.setIfInBounds_toArray, List.set_cons_zero, List.set_cons_succ]
  refine wpAnyH_ready (rs := [1]) (by kernel_rfl) (by simp) ?_
  refine AllReadyH.cons rfl (fun K hK => ?_) AllReadyH.nil
  go_simp
  refine Calls.mono (hC3.out _) ?_
  rintro e w4 ⟨rfl, hb4⟩
  have hk4 := cells3c f (Below.trans (Below.refl _ _).drew hb4)
  go_wp2_with fail
  refine hK.out _ _ hk4 (fun hHeld4 => ?_)
  clear hK K hHeld
  refine wpAnyH_take (i := 10) (v := .bool true) rfl (by kernel_rfl) (by kernel_rfl) (by kernel_rfl) (fun _ _ _ h => h) (Or.inl ⟨by rfl, fun u hSu => by obtain ⟨s1, s2, s3⟩ := hSu; go_simp; try with_reducible rfl⟩) hHeld4 ?_
  change wpAnyH _ _ _ _ _ _ _ (Act.put _ (some 48) _) _
  simp only [Act.put, List.setIfInBounds_toArray, List.set_cons_zero, List.set_cons_succ]
  refine wpAnyH_take (i := 11) (v := .bool true) rfl (by kernel_rfl) (by kernel_rfl) (by kernel_rfl) (fun _ _ _ h => h) (Or.inl ⟨by rfl, fun u hSu => by obtain ⟨s1, s2, s3⟩ := hSu; go_simp; try with_reducible rfl⟩) hHeld4 ?_
  change wpAnyH _ _ _ _ _ _ _ (Act.put _ (some 49) _) _
  simp only [Act.put, List.setIfInBounds_toArray, List.set_cons_zero, List.set_cons_succ]
  refine wpAnyH_take (i := 12) (v := undef) rfl (by kernel_rfl) (by kernel_rfl) (by kernel_rfl) (fun _ _ _ h => h) (Or.inr ⟨by rfl, rfl⟩) hHeld4 ?_
  change wpAnyH _ _ _ _ _ _ _ (Act.put _ (some 50) _) _
  simp only [Act.put, List.setIfInBounds_toArray, List.set_cons_zero, List.set_cons_succ]
  refine wpAnyH_take (i := 13) (v := undef) rfl (by kernel_rfl) (by kernel_rfl) (by kernel_rfl) (fun _ _ _ h => h) (Or.inr ⟨by rfl, rfl⟩) hHeld4 ?_
  change wpAnyH _ _ _ _ _ _ _ (Act.put _ (some 51) _) _
  simp only [Act.put, List.setIfInBounds_toArray, List.set_cons_zero, List.set_cons_succ]
  refine wpAnyH_take (i := 14) (v := undef) rfl (by kernel_rfl) (by kernel_rfl) (by kernel_rfl) (fun _ _ _ h => h) (Or.inr ⟨by rfl, rfl⟩) hHeld4 ?_
  change wpAnyH _ _ _ _ _ _ _ (Act.put _ (some 52) _) _
  simp only [Act.put, List.setIfInBounds_toArray, List.set_cons_zero, List.set_cons_succ]
  refine wpAnyH_take (i := 15) (v := undef) rfl (by kernel_rfl) (by kernel_rfl) (by kernel_rfl) (fun _ _ _ h => h) (Or.inr ⟨by rfl, rfl⟩) hHeld4 ?_
  change wpAnyH _ _ _ _ _ _ _ (Act.put _ (some 53) _) _
  simp only [Act.put, List.setIfInBounds_toArray, List.set_cons_zero, List.set_cons_succ]
  refine wpAnyH_take (i := 16) (v := undef) rfl (by kernel_rfl) (by kernel_rfl) (by kernel_rfl) (fun _ _ _ h => h) (Or.inr ⟨by rfl, rfl⟩) hHeld4 ?_
  change wpAnyH _ _ _ _ _ _ _ (Act.put _ (some 54) _) _
  simp only [Act.put, List.setIfInBounds_toArray, List.set_cons_zero, List.set_cons_succ]
  refine wpAnyH_take (i := 17) (v := .bool true) rfl (by kernel_rfl) (by kernel_rfl) (by kernel_rfl) (fun _ _ _ h => h) (Or.inl ⟨by rfl, fun u hSu => by obtain ⟨s1, s2, s3⟩ := hSu; go_simp; try with_reducible rfl⟩) hHeld4 ?_
  change wpAnyH _ _ _ _ _ _ _ (Act.put _ (some 55) _) _
  simp only [Act.put, List.setIfInBounds_toArray, List.set_cons_zero, List.set_cons_succ]
  refine wpAnyH_done (by kernel_rfl) ?_ _
  clear hHeld4 hk4
  go_wp2
  go_ret
  have hb35 : Below w3.heap.size w3 w4 := Below.trans (Below.refl _ _).drew hb4
  exact GP.no ⟨_, _, _, _, rfl, HW3.out.below hb35, hK3.trans (KeepsA.of_below hb35)⟩ (by rw [HDM.out, HDN.out]; exact HZ.out) (by decide)
end Go.Proofs.YtlndinigbppafaaGreat
