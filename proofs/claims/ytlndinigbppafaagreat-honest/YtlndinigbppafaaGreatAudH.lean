/-
  The walk of the program's weighMember.
-/
import Derived.Test.YtlndinigbppafaaGreatAudE
namespace Go.Proofs.YtlndinigbppafaaGreat
open Go.RowKit Go.Deep

/-- The answer to a member. -/
def resM (vs : List (Int × Int)) (N dn : Int) : Int :=
  match rootOf vs N with
  | none => 8
  | some r => if dn ≠ r then 9 else 0
def MP (b0 A : Nat) (n : Int) (vs : List (Int × Int)) (es : List Ent) (TL : List (List UInt8)) (M : Int) (nn : Nat) (t : PT) (w : World) (e : Ending) (w' : World) : Prop :=
  (resM vs nn t.dS ≠ 0 → WeighP b0 A n (resM vs nn t.dS) vs es TL w e w') ∧
  (resM vs nn t.dS = 0 → WeighP b0 A n 0 vs (insE es (M, lastL t.flat)) (TL ++ [t.tS].flatten) w e w')
theorem MP.no {b0 A : Nat} {n r : Int} {vs : List (Int × Int)} {es : List Ent} {TL : List (List UInt8)} {M : Int} {nn : Nat} {t : PT} {w : World} {e : Ending} {w' : World} (h : WeighP b0 A n r vs es TL w e w') (hr : resM vs nn t.dS = r) (h0 : r ≠ 0) : MP b0 A n vs es TL M nn t w e w' :=
  ⟨fun _ => by rw [hr]; exact h, fun hz => absurd (hr.symm.trans hz) h0⟩

set_option maxRecDepth 100000 in
set_option maxHeartbeats 4000000 in
theorem weighM_any (w : World) (b0 A : Nat) (n : Int) (Vv Ve Vf : Value) (vs : List (Int × Int)) (es : List Ent) (fs : List Fam) (TL : List (List UInt8)) (k M R : Int) (nn : Nat) (t : PT) (T : Value) (h : AudB w b0 A n Vv Ve Vf vs es fs TL) (hb0 : b0 ≤ w.heap.size) (hl : vs.length ≤ 900) (hle : es.length ≤ 900) (hse : SortE es)
    (hsh : PT.Sh 3 M nn (dep nn) 0 t) (h1 : 1 ≤ nn) (hn : nn ≤ 500) (hN : NodesC w T t.flat) :
    Calls Tryz.prog 97 #[.pointer (some ⟨A, 0, none⟩), .agg #[.int .i64 k, .int .i64 M, .int .i64 nn, .int .i64 R, T]] w fun e w' => MP b0 A n vs es TL M nn t w e w' := by
  have hd := dep_le nn 9 (by rw [pw_9]; omega)
  have hpw : pw (dep nn) ≤ 512 := pw_le (e := 9) hd
  have hfew := hsh.few
  have hVA := VersAt.of_owns h.vers
  obtain ⟨va, vc, rfl, hvr⟩ := id hVA
  clear hvr
  have hA : Below w.heap.size w (w.alloc (.cells #[.int .i64 k, .int .i64 M, .int .i64 nn, .int .i64 R, T] 63)) := (Below.refl _ _).alloc (Nat.le_refl _) _
  have g0 := heap_new w (.cells #[.int .i64 k, .int .i64 M, .int .i64 nn, .int .i64 R, T] 63) _ rfl
  have hW := h.below hA
  have hNW := hN.below hA
  have hVW := hVA.below hA
  have hKW : KeepsA b0 w (w.alloc (.cells #[.int .i64 k, .int .i64 M, .int .i64 nn, .int .i64 R, T] 63)) := KeepsA.of_below hA
  have hbW := Nat.le_trans hb0 hA.size
  have hAl := lt_of_heap h.blk
  clear h hN hVA hA
  have HSE : Hid (SortE es) := hse
  clear hse
  generalize hW0 : w.alloc (.cells #[.int .i64 k, .int .i64 M, .int .i64 nn, .int .i64 R, T] 63) = W at g0 hW hNW hVW hKW hbW
  have HW : Hid (AudB W b0 A n (.slice va vs.length vc) Ve Vf vs es fs TL) := hW
  have HNW : Hid (NodesC W T t.flat) := hNW
  have hc : W.cell? ⟨A, 2, none⟩ = some (.slice va vs.length vc) := by rw [cell_of_row _ _ _ _ _ _ hW.blk]; rfl
  clear hW hNW
  go_enter Tryz.func97, Tryz.ntmps97
  go_wp2_with fail
  first | rw [hW0] | skip
  refine (indexV_any vs _ nn w.heap.size W hVW (by omega) (msg_box g0).2.2.1).mono ?_
  rintro e w1 ⟨r, rfl, hF, hb1⟩
  have HF : Hid (Found vs nn r) := hF
  have hK1 := hKW.trans (KeepsA.of_below (b0 := b0) hb1)
  have HW1 : Hid (AudB w1 b0 A n (.slice va vs.length vc) Ve Vf vs es fs TL) := HW.out.below hb1
  have HN1 : Hid (NodesC w1 T t.flat) := HNW.out.below hb1
  have g1 := heap_keep g0 hb1
  have hV1 := hVW.below hb1
  have hbw1 := Nat.le_trans hbW hb1.size
  clear hKW HW HNW g0 hVW hbW hb1 hc hW0
  rcases hF with ⟨rfl, hnone⟩ | ⟨j, hj, rfl, hvj, hsome⟩
  · have HP : Hid (MP b0 A n vs es TL M nn t w (.returned (.int .i64 8)) w1) := MP.no ⟨_, _, _, _, rfl, HW1.out, hK1⟩ (by unfold resM; rw [hnone]) (by decide)
    clear hnone HF
    go_wp2
    go_ret
    exact HP.out
  · have HRM : Hid (∀ dn, resM vs nn dn = if dn ≠ vs[j].2 then 9 else 0) := fun dn => by unfold resM; rw [hsome]
    obtain ⟨vb, vo, rfl, hvb, v0, v1⟩ := vers_cell hV1 j hj
    generalize vs[j] = v at *
    obtain ⟨m0, m1, m2, m3, m4⟩ := msg_box g1
    clear hsome hvj HF hV1 v0
    have hji : (j : Int) < (vs.length : Int) := by omega
    have hj0 : ¬ (j : Int) < 0 := by omega
    go_wp2_with fail
    refine (Pruned_any hsh T w1 (by omega) hn (by omega) HN1.out).mono ?_
    rintro e w2 ⟨rfl, hb2⟩
    have hK2 := hK1.trans (KeepsA.of_below (b0 := b0) hb2)
    have HW2 : Hid (AudB w2 b0 A n (.slice (some ⟨vb, vo, none⟩) vs.length vc) Ve Vf vs es fs TL) := HW1.out.below hb2
    have HN2 : Hid (NodesC w2 T t.flat) := HN1.out.below hb2
    have g2 := heap_keep g1 hb2
    have v2 := cell_keep v1 hb2
    have hbw2 := Nat.le_trans hbw1 hb2.size
    clear HW1 HN1 g1 v1 hK1 hbw1 hb2 m0 m1 m2 m3 m4
    have HPR : Hid (Pres (ptV t (dep nn) 0) t.tS) := pres_any (ptV_node t _ _) hsh.bd (by have := PT.tS_le t; omega)
    obtain ⟨ty, av, Fd, hVd, hmd, hEd, hNd, hCd⟩ := (ptV_node t (dep nn) 0).digs
    rw [hVd] at HPR ⊢
    clear hVd
    obtain ⟨dn, HDN⟩ : ∃ dn, Hid (t.dS = dn) := ⟨_, rfl⟩
    rw [HDN.out] at hCd
    have hc2 : w2.cell? ⟨A, 2, none⟩ = some (.slice (some ⟨vb, vo, none⟩) vs.length vc) := by rw [cell_of_row _ _ _ _ _ _ HW2.out.blk]; rfl
    have f := And.intro hc2 v2
    clear hc2 v2
    by_cases hdn : dn = v.2
    · have hdb : (dn != v.2) = false := by simp [hdn]
      have HZ : Hid (resM vs nn dn = 0) := by show _ = _; rw [HRM.out, if_neg (by simp [hdn])]
      clear hdn HRM
      go_wp2
      go_region_held3 (fun u => u.cell? ⟨A, 2, none⟩ = some (.slice (some ⟨vb, vo, none⟩) vs.length vc) ∧ u.cell? ⟨vb, vo + j * 2 + 1, none⟩ = some (.int .i64 v.2)) (first | (with_reducible assumption) | exact f | fail)
        (first
          | (refine Calls.mono (hCd.out _) ?_; rintro e w4 ⟨rfl, hb4⟩; have hk4 := cells2 f (Below.trans (Below.refl _ _).drew hb4))
          | fail)
      have hb24 : Below w2.heap.size w2 w4 := Below.trans (Below.refl _ _).drew hb4
      have HW4 : Hid (AudB w4 b0 A n (.slice (some ⟨vb, vo, none⟩) vs.length vc) Ve Vf vs es fs TL) := HW2.out.below hb24
      have HN4 : Hid (NodesC w4 T t.flat) := HN2.out.below hb24
      have hK4 := hK2.trans (KeepsA.of_below (b0 := b0) hb24)
      have g4 := heap_keep g2 hb24
      have hbw4 := Nat.le_trans hbw2 hb24.size
      clear HW2 HN2 hK2 g2 hbw2 hb24 hb4 hk4 f
      have hAl5 : Below w4.heap.size w4 (w4.alloc (.cells #[.iface ty av] 120)) := (Below.refl _ _).alloc (Nat.le_refl _) _
      have HTA : Hid (TreesAt (w4.alloc (.cells #[.iface ty av] 120)) w4.heap.size [.iface ty av] [t.tS]) := ⟨heap_alloc_new w4 _, rfl, fun i h h' => by
        match i, h with
        | 0, _ => exact HPR.out⟩
      have HSH : Hid (∀ l ∈ [t.tS], l.length ≤ 400000 ∧ ∀ x ∈ l, 1 ≤ x.length ∧ x.length ≤ 1000) := fun l hl => texts_small 0 hsh.bd (by omega) 0 0 l (by simp at hl ⊢; exact .inr hl)
      have HG6 : Hid (AudB (w4.alloc (.cells #[.iface ty av] 120)) b0 A n (.slice (some ⟨vb, vo, none⟩) vs.length vc) Ve Vf vs es fs TL) := HW4.out.below hAl5
      have HN6 : Hid (NodesC (w4.alloc (.cells #[.iface ty av] 120)) T t.flat) := HN4.out.below hAl5
      have g6 := heap_keep g4 hAl5
      have hK6 := hK4.trans (KeepsA.of_below (b0 := b0) hAl5)
      have hbw6 := Nat.le_trans hbw4 hAl5.size
      clear HW4 g4 hK4 hbw4 hAl5 HN4
      go_wp2_with fail
      refine (learnTexts_any _ b0 A n _ Ve Vf vs es fs TL w4.heap.size _ _ HG6.out hbw6 HTA.out (by simp) HSH.out).mono ?_
      rintro e w7 ⟨rfl, Vf7, fs7, hA7, hK7⟩
      have g7 := (KeepsA.keepsT (t := 63) hK7 (by decide) (by decide) (by decide) (by decide) (by decide)) _ _ _ g6
      have HN7 : Hid (NodesC w7 T t.flat) := ⟨HN6.out.1.keep (KeepsA.keepsT hK7 (by decide) (by decide) (by decide) (by decide) (by decide)), HN6.out.2⟩
      have HA7 : Hid (AudB w7 b0 A n (.slice (some ⟨vb, vo, none⟩) vs.length vc) Ve Vf7 vs es fs7 (TL ++ [t.tS].flatten)) := hA7
      have hK07 := hK6.trans hK7
      have hbw7 := Nat.le_trans hbw6 hK7.size
      clear HTA HSH HG6 g6 hK6 hbw6 hA7 hK7 HPR HN6 hEd hmd hNd hCd
      have f7 := And.intro (msg_box g7).2.1 (msg_box g7).2.2.2.2
      go_wp2
      go_region_held3 (fun u => u.cell? ⟨w.heap.size, 1, none⟩ = some (.int .i64 M) ∧ u.cell? ⟨w.heap.size, 4, none⟩ = some T) (first | (with_reducible assumption) | exact f7 | fail)
        (first
          | (go_at_call 128; refine (eventIn_any t.flat T _ (HN7.out.below (Below.refl _ _).drew).1 (by omega)).mono ?_; rintro e w8 ⟨rfl, hb8⟩; have hb78 : Below w7.heap.size w7 w8 := Below.trans (Below.refl _ _).drew hb8; have g8 := heap_keep g7 hb78; have hk8 := And.intro (msg_box g8).2.1 (msg_box g8).2.2.2.2)
          | (go_at_call 127; refine (learnEvent_any _ b0 A n _ Ve Vf7 vs es fs7 _ (M, lastL t.flat) (HA7.out.below hb78) (Nat.le_trans hbw7 hb78.size) (by omega) HSE.out).mono ?_; rintro e w9 ⟨rfl, Ve9, hA9, hK9⟩; have g9 := (KeepsA.keepsT (t := 63) hK9 (by decide) (by decide) (by decide) (by decide) (by decide)) _ _ _ g8; have hk9 := And.intro (msg_box g9).2.1 (msg_box g9).2.2.2.2)
          | fail)
      have HP : Hid (MP b0 A n vs es TL M nn t w (.returned (.int .i64 0)) w9) := ⟨fun hz => absurd (by rw [HDN.out]; exact HZ.out) hz, fun _ => ⟨_, _, _, _, rfl, hA9, (hK07.trans (KeepsA.of_below hb78)).trans hK9⟩⟩
      clear hA9 hK9 hK07 HA7 HN7 g7 g8 g9 hk8 hk9 f7
      go_wp2
      go_ret
      exact HP.out
    · have hdb : (dn != v.2) = true := by simp [hdn]
      have HZ : Hid (resM vs nn dn = 9) := by show _ = _; rw [HRM.out, if_pos hdn]
      clear hdn HRM
      go_wp2
      go_region_held3 (fun u => u.cell? ⟨A, 2, none⟩ = some (.slice (some ⟨vb, vo, none⟩) vs.length vc) ∧ u.cell? ⟨vb, vo + j * 2 + 1, none⟩ = some (.int .i64 v.2)) (first | (with_reducible assumption) | exact f | fail)
        (first
          | (refine Calls.mono (hCd.out _) ?_; rintro e w4 ⟨rfl, hb4⟩; have hk4 := cells2 f (Below.trans (Below.refl _ _).drew hb4))
          | fail)
      have hb24 : Below w2.heap.size w2 w4 := Below.trans (Below.refl _ _).drew hb4
      have HP : Hid (MP b0 A n vs es TL M nn t w (.returned (.int .i64 9)) w4) := MP.no ⟨_, _, _, _, rfl, HW2.out.below hb24, hK2.trans (KeepsA.of_below hb24)⟩ (by rw [HDN.out]; exact HZ.out) (by decide)
      clear HW2 HN2 hK2 g2 hb24 hk4 f
      go_wp2
      go_ret
      exact HP.out
end Go.Proofs.YtlndinigbppafaaGreat
