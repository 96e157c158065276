/-
  The walk of the program's weighGrowth.
-/
import Derived.Test.YtlndinigbppafaaGreatAudD
namespace Go.Proofs.YtlndinigbppafaaGreat
open Go.RowKit Go.Deep

/-- What weighing answers, and what the auditor knows then. -/
def WeighP (b0 A : Nat) (n r : Int) (vs : List (Int × Int)) (es : List Ent) (TL : List (List UInt8)) (w : World) (e : Ending) (w' : World) : Prop :=
  ∃ Vv Ve Vf fs, e = .returned (.int .i64 r) ∧ AudB w' b0 A n Vv Ve Vf vs es fs TL ∧ KeepsA b0 w w'
/-- The answer to growth. -/
def resG (vs : List (Int × Int)) (mm R dm dn : Int) : Int :=
  match vs.getLast? with
  | none => 8
  | some v => if v.1 ≠ mm then 8 else if dm ≠ v.2 ∨ dn ≠ R then 9 else 0
def GP (b0 A : Nat) (n : Int) (vs : List (Int × Int)) (es : List Ent) (TL : List (List UInt8)) (mm nn : Nat) (R : Int) (t : PT) (w : World) (e : Ending) (w' : World) : Prop :=
  (resG vs mm R (t.cut mm (dep nn) 0).dS t.dS ≠ 0 → WeighP b0 A n (resG vs mm R (t.cut mm (dep nn) 0).dS t.dS) vs es TL w e w') ∧
  (resG vs mm R (t.cut mm (dep nn) 0).dS t.dS = 0 → WeighP b0 A n 0 (vs ++ (if mm < nn then [((nn : Int), R)] else [])) es (TL ++ [(t.cut mm (dep nn) 0).tS, t.tS].flatten) w e w')
theorem GP.no {b0 A : Nat} {n r : Int} {vs : List (Int × Int)} {es : List Ent} {TL : List (List UInt8)} {mm nn : Nat} {R : Int} {t : PT} {w : World} {e : Ending} {w' : World} (h : WeighP b0 A n r vs es TL w e w') (hr : resG vs mm R (t.cut mm (dep nn) 0).dS t.dS = r) (h0 : r ≠ 0) : GP b0 A n vs es TL mm nn R t w e w' := by
  refine ⟨fun _ => by rw [hr]; exact h, fun hz => absurd (hr.symm.trans hz) h0⟩

theorem vers_cell {w : World} {va : Option Addr} {vc : Nat} {vs : List (Int × Int)} (h : VersAt w (.slice va vs.length vc) vs) (j : Nat) (hj : j < vs.length) : ∃ b o, va = some ⟨b, o, none⟩ ∧ b < w.heap.size ∧ w.cell? ⟨b, o + j * 2, none⟩ = some (.int .i64 vs[j].1) ∧ w.cell? ⟨b, o + j * 2 + 1, none⟩ = some (.int .i64 vs[j].2) := by
  obtain ⟨ao, cap, e, h⟩ := h
  simp only [Value.slice.injEq, true_and] at e
  obtain ⟨rfl, rfl⟩ := e
  obtain ⟨b, o, rfl, hlt, hc⟩ := h (by omega)
  exact ⟨b, o, rfl, hlt, hc j hj⟩

set_option maxRecDepth 100000 in
set_option maxHeartbeats 1000000 in
theorem weighG_nil (w : World) (b0 A : Nat) (n : Int) (Vv Ve Vf : Value) (es : List Ent) (fs : List Fam) (TL : List (List UInt8)) (k R : Int) (mm nn : Nat) (t : PT) (T : Value) (h : AudB w b0 A n Vv Ve Vf [] es fs TL) :
    Calls Tryz.prog 96 #[.pointer (some ⟨A, 0, none⟩), .agg #[.int .i64 k, .int .i64 mm, .int .i64 nn, .int .i64 R, T]] w fun e w' => GP b0 A n [] es TL mm nn R t w e w' := by
  have hv := h.versN rfl
  subst hv
  have hc : w.cell? ⟨A, 2, none⟩ = some (.slice none 0 0) := by rw [cell_of_row _ _ _ _ _ _ h.blk]; rfl
  have hA : Below w.heap.size w (w.alloc (.cells #[.int .i64 k, .int .i64 mm, .int .i64 nn, .int .i64 R, T] 63)) := (Below.refl _ _).alloc (Nat.le_refl _) _
  have hAl := lt_of_heap h.blk
  have HP : Hid (∀ q, GP b0 A n [] es TL mm nn R t w (.returned (.int .i64 8)) ((w.alloc (.cells #[.int .i64 k, .int .i64 mm, .int .i64 nn, .int .i64 R, T] 63)).drewN q)) := fun q => GP.no ⟨_, _, _, _, rfl, h.below (below_drewN hA q), KeepsA.of_below (below_drewN hA q)⟩ rfl (by decide)
  go_enter Tryz.func96, Tryz.ntmps96
  go_wp2
  go_quiet (fail)
  go_wp2
  go_ret
  exact HP.out _

theorem PT.tS_pos (t : PT) : ∀ x ∈ t.tS, 1 ≤ x.length := by
  induction t with
  | stub g => intro x hx; simp [PT.tS] at hx
  | leaf e => intro x hx; simp [PT.tS] at hx; subst hx; simp
  | alone c ih =>
    intro x hx
    rcases List.mem_cons.1 hx with rfl | hx
    · simp
    · exact ih x hx
  | two l r ihl ihr =>
    intro x hx
    rcases List.mem_cons.1 hx with rfl | hx
    · simp
    · rcases List.mem_append.1 hx with hx | hx
      · exact ihl x hx
      · exact ihr x hx
theorem texts_small {t : PT} (m : Int) (h : t.Bd) (hf : t.flat.length ≤ 400000) (d p : Nat) : ∀ l ∈ [(t.cut m d p).tS, t.tS], l.length ≤ 400000 ∧ ∀ x ∈ l, 1 ≤ x.length ∧ x.length ≤ 1000 := by
  intro l hl
  have h1 := PT.tS_le t
  have h2 := PT.tS_le (t.cut m d p)
  have h3 := PT.cut_le m t d p
  simp at hl
  rcases hl with rfl | rfl
  · exact ⟨by omega, fun x hx => ⟨PT.tS_pos _ x hx, by have := (h.cut m d p).short x hx; omega⟩⟩
  · exact ⟨by omega, fun x hx => ⟨PT.tS_pos _ x hx, by have := h.short x hx; omega⟩⟩

set_option maxRecDepth 100000 in
set_option maxHeartbeats 8000000 in
theorem weighG_other (w : World) (b0 A : Nat) (n : Int) (Vv Ve Vf : Value) (vs : List (Int × Int)) (v : Int × Int) (es : List Ent) (fs : List Fam) (TL : List (List UInt8)) (k R : Int) (mm nn : Nat) (t : PT) (T : Value) (h : AudB w b0 A n Vv Ve Vf (vs ++ [v]) es fs TL) (hb0 : b0 ≤ w.heap.size) (hl : vs.length ≤ 900)
    (hsh : PT.Sh 2 mm nn (dep nn) 0 t) (hn : nn ≤ 500) (hN : NodesC w T t.flat) (hvm : v.1 ≠ mm) :
    Calls Tryz.prog 96 #[.pointer (some ⟨A, 0, none⟩), .agg #[.int .i64 k, .int .i64 mm, .int .i64 nn, .int .i64 R, T]] w fun e w' => GP b0 A n (vs ++ [v]) es TL mm nn R t w e w' := by
  have hlen : (vs ++ [v]).length = vs.length + 1 := by simp
  have hd := dep_le nn 9 (by rw [pw_9]; omega)
  have hpw : pw (dep nn) ≤ 512 := pw_le (e := 9) hd
  have hfew := hsh.few
  have hVA := VersAt.of_owns h.vers
  obtain ⟨va, vc, rfl, hvr⟩ := id hVA
  clear hvr
  have hA : Below w.heap.size w (w.alloc (.cells #[.int .i64 k, .int .i64 mm, .int .i64 nn, .int .i64 R, T] 63)) := (Below.refl _ _).alloc (Nat.le_refl _) _
  have g0 := heap_new w (.cells #[.int .i64 k, .int .i64 mm, .int .i64 nn, .int .i64 R, T] 63) _ rfl
  have hW := h.below hA
  have hNW := hN.below hA
  have hVW := hVA.below hA
  have hKW : KeepsA b0 w (w.alloc (.cells #[.int .i64 k, .int .i64 mm, .int .i64 nn, .int .i64 R, T] 63)) := KeepsA.of_below hA
  have hbW := Nat.le_trans hb0 hA.size
  have hAl := lt_of_heap h.blk
  clear h hN hVA hA
  generalize hW0 : w.alloc (.cells #[.int .i64 k, .int .i64 mm, .int .i64 nn, .int .i64 R, T] 63) = W at g0 hW hNW hVW hKW hbW
  obtain ⟨vb, vo, rfl, hvb, v0, v1⟩ := vers_cell hVW vs.length (by simp)
  simp only [List.getElem_append_right (Nat.le_refl _), Nat.sub_self, List.getElem_cons_zero] at v0 v1
  obtain ⟨m0, m1, m2, m3, m4⟩ := msg_box g0
  have hc : W.cell? ⟨A, 2, none⟩ = some (.slice (some ⟨vb, vo, none⟩) (vs.length + 1) vc) := by rw [cell_of_row _ _ _ _ _ _ hW.blk]; simp
  rw [hlen] at hW
  have HRG : Hid (∀ dm dn, resG (vs ++ [v]) mm R dm dn = if v.1 ≠ mm then 8 else if dm ≠ v.2 ∨ dn ≠ R then 9 else 0) := fun dm dn => by unfold resG; simp
  have HW : Hid (AudB W b0 A n (.slice (some ⟨vb, vo, none⟩) (vs.length + 1) vc) Ve Vf (vs ++ [v]) es fs TL) := hW
  have HNW : Hid (NodesC W T t.flat) := hNW
  clear hW hNW hVW
  have hlti : (vs.length : Int) < (vs.length : Int) + 1 := by omega
  have hvb' : (v.1 != (mm : Int)) = true := by simp [hvm]
  have HP : Hid (∀ q, GP b0 A n (vs ++ [v]) es TL mm nn R t w (.returned (.int .i64 8)) (W.drewN q)) := fun q => GP.no ⟨_, _, _, _, rfl, HW.out.below (below_drewN (Below.refl _ _) q), hKW.trans (KeepsA.of_below (below_drewN (Below.refl _ _) q))⟩ (by rw [HRG.out, if_pos hvm]) (by decide)
  have HV : Hid _ := hvm
  clear hvm
  go_enter Tryz.func96, Tryz.ntmps96
  go_wp2
  go_quiet (fail)
  go_wp2
  go_ret
  exact HP.out _
end Go.Proofs.YtlndinigbppafaaGreat
