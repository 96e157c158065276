/-
  The walks of the program's tree: bits.Len, Whole and the methods of Stretch.
-/
import Derived.Test.YtpdjdaipijjeeaaWireC
import Derived.BigQuiet
import Derived.Deep.QuietTactic
namespace Go.Proofs.Ytpdjdaipijjeeaa
open Go.RowKit

/-- A stretch, as a value. -/
def strV (p d : Nat) : Value := .agg #[.int .i64 p, .int .i64 d]
theorem below_dN {B : Nat} {a w : World} (h : Below B a w) (n : Nat) : Below B a (w.drewN n) := ⟨h.os, h.tape, h.output, h.size, h.block⟩
theorem endNum (p d : Nat) (hp : p ≤ 1000000) (hd : d ≤ 16) : wrap64 ((p : Int) + wrap64 (2 ^ d)) = ((p + pw d : Nat) : Int) := by
  have h16 : pw d ≤ 65536 := pw_le (e := 16) hd
  have e : (2 : Int) ^ d = (pw d : Int) := by unfold pw; simp
  rw [e]; unfold wrap64; omega

set_option maxRecDepth 100000 in
set_option maxHeartbeats 400000 in
theorem strEnd_any (p d : Nat) (P D : Int) (eP : P = p) (eD : D = d) (w : World) (hp : p ≤ 1000000) (hd : d ≤ 16) :
    Calls Try.prog 88 #[.agg #[.int .i64 P, .int .i64 D]] w fun e w' => e = .returned (.int .i64 (p + pw d : Nat)) ∧ Below w.heap.size w w' := by
  subst eP eD
  have HE : Hid _ := endNum p d hp hd
  go_enter Try.func88, Try.ntmps88
  go_wp2
  go_quiet (fail)
  go_wp2
  go_ret
  exact ⟨ret_int HE.out, below_dN ((Below.refl _ _).alloc (Nat.le_refl _) _) _⟩

set_option maxRecDepth 100000 in
set_option maxHeartbeats 400000 in
theorem strLeft_any (p d : Nat) (P D : Int) (eP : P = p) (eD : D = (d : Int) + 1) (w : World) (hd : d + 1 ≤ 16) :
    Calls Try.prog 90 #[.agg #[.int .i64 P, .int .i64 D]] w fun e w' => e = .returned (.agg #[.int .i64 p, .int .i64 d]) ∧ Below w.heap.size w w' := by
  subst eP eD
  go_enter Try.func90, Try.ntmps90
  go_wp2
  exact bodyPost_ret (v := .agg #[.int .i64 p, .int .i64 d]) (by simp [results, Try.results90, go_sem]) rfl ⟨rfl, by repeat (first | exact Below.refl _ _ | refine Below.setCell ?_ (by simp) _ | refine Below.alloc ?_ (by simp) _)⟩

set_option maxRecDepth 100000 in
set_option maxHeartbeats 400000 in
theorem strBelow_any (p d : Nat) (P D m : Int) (eP : P = p) (eD : D = d) (w : World) (hp : p ≤ 1000000) (hd : d ≤ 16) :
    Calls Try.prog 74 #[.agg #[.int .i64 P, .int .i64 D], .int .i64 m] w fun e w' => e = .returned (.bool (decide (((p + pw d : Nat) : Int) ≤ m))) ∧ Below w.heap.size w w' := by
  subst eP eD
  go_enter Try.func74, Try.ntmps74
  go_wp2_with fail
  refine (strEnd_any p d _ _ rfl rfl _ hp hd).mono ?_
  rintro e w1 ⟨rfl, hb⟩
  go_wp2
  go_ret
  exact ⟨by simp, ((Below.refl _ _).alloc (Nat.le_refl _) _).trans (hb.mono (by simp))⟩

set_option maxRecDepth 100000 in
set_option maxHeartbeats 400000 in
theorem strBeyond_any (p : Nat) (P D m : Int) (eP : P = p) (w : World) :
    Calls Try.prog 75 #[.agg #[.int .i64 P, .int .i64 D], .int .i64 m] w fun e w' => e = .returned (.bool (decide (m ≤ (p : Int)))) ∧ Below w.heap.size w w' := by
  subst eP
  go_enter Try.func75, Try.ntmps75
  go_wp2
  go_ret
  exact ⟨rfl, ((Below.refl _ _).alloc (Nat.le_refl _) _)⟩

set_option maxRecDepth 100000 in
set_option maxHeartbeats 400000 in
theorem strHolds_any (p d : Nat) (P D i : Int) (eP : P = p) (eD : D = d) (w : World) (hp : p ≤ 1000000) (hd : d ≤ 16) :
    Calls Try.prog 79 #[.agg #[.int .i64 P, .int .i64 D], .int .i64 i] w fun e w' => e = .returned (.bool (decide ((p : Int) ≤ i) && decide (i < ((p + pw d : Nat) : Int)))) ∧ Below w.heap.size w w' := by
  subst eP eD
  by_cases hpi : (p : Int) ≤ i
  · go_enter Try.func79, Try.ntmps79
    go_wp2_with fail
    refine (strEnd_any p d _ _ rfl rfl _ hp hd).mono ?_
    rintro e w1 ⟨rfl, hb⟩
    go_wp2
    go_ret
    exact ⟨by simp [hpi], ((Below.refl _ _).alloc (Nat.le_refl _) _).trans (hb.mono (by simp))⟩
  · go_enter Try.func79, Try.ntmps79
    go_wp2
    go_ret
    exact ⟨by simp; omega, ((Below.refl _ _).alloc (Nat.le_refl _) _)⟩

/-- A stretch in a box, and a place for a result behind it. -/
structure SR (B : Nat) (P D : Int) (w : World) : Prop where
  c0 : w.cell? ⟨B, 0, none⟩ = some (.int .i64 P)
  c1 : w.cell? ⟨B, 1, none⟩ = some (.int .i64 D)
  r0 : w.cell? ⟨B + 1, 0, none⟩ = some (.int .i64 0)
  r1 : w.cell? ⟨B + 1, 1, none⟩ = some (.int .i64 0)
  z0 : w.frozen? ⟨B + 1, 0, none⟩ = false
  z1 : w.frozen? ⟨B + 1, 1, none⟩ = false
theorem SR.below {B : Nat} {P D : Int} {u u' : World} (h : SR B P D u) (hb : Below u.heap.size u u') : SR B P D u' :=
  ⟨cell_keep h.c0 hb, cell_keep h.c1 hb, cell_keep h.r0 hb, cell_keep h.r1 hb, frozen_keep h.r0 h.z0 hb, frozen_keep h.r1 h.z1 hb⟩
theorem SR.mk' (w : World) (P D : Int) : SR w.heap.size P D ((w.alloc (.cells #[.int .i64 P, .int .i64 D] 118)).alloc (.cells #[.int .i64 0, .int .i64 0] 118)) := by
  refine ⟨?_, ?_, ?_, ?_, ?_, ?_⟩ <;> simp
theorem SR.drew {B : Nat} {P D : Int} {u : World} (h : SR B P D u) : SR B P D u.drew := ⟨h.c0, h.c1, h.r0, h.r1, h.z0, h.z1⟩

set_option maxRecDepth 100000 in
set_option maxHeartbeats 400000 in
theorem strRight_any (p d : Nat) (P D : Int) (eP : P = p) (eD : D = (d : Int) + 1) (w : World) (hp : p ≤ 1000000) (hd : d + 1 ≤ 16) :
    Calls Try.prog 94 #[.agg #[.int .i64 P, .int .i64 D]] w fun e w' => e = .returned (.agg #[.int .i64 (p + pw d : Nat), .int .i64 d]) ∧ Below w.heap.size w w' := by
  subst eP eD
  go_enter Try.func94, Try.ntmps94
  go_wp2
  have hS := (SR.mk' w p ((d : Int) + 1)).drew
  have hW : Below w.heap.size w ((w.alloc (.cells #[.int .i64 p, .int .i64 ((d : Int) + 1)] 118)).alloc (.cells #[.int .i64 0, .int .i64 0] 118)) := ((Below.refl _ _).alloc (Nat.le_refl _) _).alloc (by simp) _
  generalize (w.alloc (.cells #[.int .i64 p, .int .i64 ((d : Int) + 1)] 118)).alloc (.cells #[.int .i64 0, .int .i64 0] 118) = W at hS hW ⊢
  have f0 : W.cell? ⟨w.heap.size, 0, none⟩ = some (.int .i64 p) := hS.c0
  have f1 : W.cell? ⟨w.heap.size, 1, none⟩ = some (.int .i64 ((d : Int) + 1)) := hS.c1
  have hWs := hW.size
  have hwd : IntKind.i64.wrap (d : Int) = d := by rw [IntKind.wrap_i64]; omega
  go_region_with (first
    | (go_at_call 90; refine (strLeft_any p d _ _ rfl rfl _ hd).mono ?_; rintro e w1 ⟨rfl, hb1⟩; have hS1 := hS.below hb1; obtain ⟨q0, q1, q2, q3, q4, q5⟩ := id hS1)
    | (go_at_call 88; refine (strEnd_any p d _ _ rfl rfl _ hp (by omega)).mono ?_; rintro e w2 ⟨rfl, hb2⟩; have hS2 := hS1.below hb2; obtain ⟨q0, q1, q2, q3, q4, q5⟩ := id hS2))
  all_goals go_wp2
  all_goals have hs1 : w.heap.size ≤ w1.heap.size := Nat.le_trans hWs hb1.size
  all_goals refine bodyPost_ret (v := .agg #[.int .i64 ((p : Int) + (pw d : Int)), .int .i64 d]) (by simp [results, Try.results94, go_sem, q2, q3]) rfl ⟨by simp, ?_⟩
  all_goals exact (((hW.drew.trans (hb1.mono hWs)).trans (hb2.mono hs1)).setCell (Nat.le_succ _) _).setCell (Nat.le_succ _) _

set_option maxRecDepth 100000 in
set_option maxHeartbeats 400000 in
theorem strSingle_any (p d : Nat) (P D m : Int) (eP : P = p) (eD : D = (d : Int) + 1) (w : World) (hp : p ≤ 1000000) (hd : d + 1 ≤ 16) :
    Calls Try.prog 91 #[.agg #[.int .i64 P, .int .i64 D], .int .i64 m] w fun e w' => e = .returned (.bool (decide (m ≤ ((p + pw d : Nat) : Int)))) ∧ Below w.heap.size w w' := by
  subst eP eD
  go_enter Try.func91, Try.ntmps91
  go_wp2_with fail
  refine (strRight_any p d _ _ rfl rfl _ hp hd).mono ?_
  rintro e w1 ⟨rfl, hb⟩
  go_wp2_with fail
  refine (strBeyond_any (p + pw d) _ _ _ rfl _).mono ?_
  rintro e w2 ⟨rfl, hb2⟩
  go_wp2
  go_ret
  exact ⟨rfl, (((Below.refl _ _).alloc (Nat.le_refl _) _).trans (hb.mono (by simp))).trans (hb2.mono (Nat.le_trans (by simp) hb.size))⟩
end Go.Proofs.Ytpdjdaipijjeeaa
