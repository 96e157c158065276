/-
  The walks of the rules of proofs, and of slices.Grow and slices.Concat at nodes.
-/
import Derived.Test.YtpdjdaipijjeeaaTreeE
import Derived.Lib.AppendZeros
namespace Go.Proofs.Ytpdjdaipijjeeaa
open Go.RowKit

/-- A member proof's rule. -/
def ruleM (i : Int) (p d : Nat) : Bool := !decide ((p : Int) ≤ i) || !decide (i < (p : Int) + (pw d : Int))
/-- A growth proof's rule. -/
def ruleG (m : Int) (p d : Nat) : Bool := decide (((p + pw d : Nat) : Int) ≤ m) || decide (m ≤ (p : Int))
/-- The function value R is the rule f. -/
def RuleAt (w : World) (R : Value) (f : Nat → Nat → Bool) : Prop :=
  ∃ (b : Nat) (i : Int), w.cell? ⟨b, 0, none⟩ = some (.int .i64 i) ∧
    ((R = .func (.func 78) #[] #[.pointer (some ⟨b, 0, none⟩)] ∧ f = ruleM i) ∨ (R = .func (.func 73) #[] #[.pointer (some ⟨b, 0, none⟩)] ∧ f = ruleG i))
theorem RuleAt.below {w w' : World} {R : Value} {f : Nat → Nat → Bool} (h : RuleAt w R f) (hb : Below w.heap.size w w') : RuleAt w' R f := by
  obtain ⟨b, i, hc, h⟩ := h
  exact ⟨b, i, cell_keep hc hb, h⟩

set_option maxRecDepth 100000 in
set_option maxHeartbeats 400000 in
theorem memberRule_any (i : Int) (w : World) :
    Calls Try.prog 63 #[.int .i64 i] w fun e w' => ∃ R, e = .returned R ∧ RuleAt w' R (ruleM i) ∧ Below w.heap.size w w' := by
  go_enter Try.func63, Try.ntmps63
  go_wp2
  go_ret
  exact ⟨_, rfl, ⟨w.heap.size, i, by simp, .inl ⟨rfl, rfl⟩⟩, (Below.refl _ _).alloc (Nat.le_refl _) _⟩
set_option maxRecDepth 100000 in
set_option maxHeartbeats 400000 in
theorem growthRule_any (i : Int) (w : World) :
    Calls Try.prog 61 #[.int .i64 i] w fun e w' => ∃ R, e = .returned R ∧ RuleAt w' R (ruleG i) ∧ Below w.heap.size w w' := by
  go_enter Try.func61, Try.ntmps61
  go_wp2
  go_ret
  exact ⟨_, rfl, ⟨w.heap.size, i, by simp, .inr ⟨rfl, rfl⟩⟩, (Below.refl _ _).alloc (Nat.le_refl _) _⟩

set_option maxRecDepth 100000 in
set_option maxHeartbeats 400000 in
theorem memberLit_any (p d : Nat) (P D i : Int) (b : Nat) (w : World) (eP : P = p) (eD : D = d) (hp : p ≤ 1000000) (hd : d ≤ 16) (hc : w.cell? ⟨b, 0, none⟩ = some (.int .i64 i)) :
    Calls Try.prog 78 #[.agg #[.int .i64 P, .int .i64 D], .pointer (some ⟨b, 0, none⟩)] w fun e w' => e = .returned (.bool (ruleM i p d)) ∧ Below w.heap.size w w' := by
  subst eP eD
  have hb0 := World.block_lt_of_cell? w _ hc
  simp at hb0
  go_enter Try.func78, Try.ntmps78
  go_wp2_with fail
  refine (strHolds_any p d _ _ _ rfl rfl _ hp hd).mono ?_
  rintro e w1 ⟨rfl, hb⟩
  go_wp2
  go_ret
  exact ⟨rfl, ((Below.refl _ _).alloc (Nat.le_refl _) _).trans (hb.mono (by simp))⟩

set_option maxRecDepth 100000 in
set_option maxHeartbeats 400000 in
theorem growthLit_any (p d : Nat) (P D m : Int) (b : Nat) (w : World) (eP : P = p) (eD : D = d) (hp : p ≤ 1000000) (hd : d ≤ 16) (hc : w.cell? ⟨b, 0, none⟩ = some (.int .i64 m)) :
    Calls Try.prog 73 #[.agg #[.int .i64 P, .int .i64 D], .pointer (some ⟨b, 0, none⟩)] w fun e w' => e = .returned (.bool (ruleG m p d)) ∧ Below w.heap.size w w' := by
  subst eP eD
  have hb0 := World.block_lt_of_cell? w _ hc
  simp at hb0
  by_cases hm : ((p + pw d : Nat) : Int) ≤ m
  · have HR : Hid (ruleG m p d = true) := by show ruleG m p d = true; unfold ruleG; rw [decide_eq_true hm]; rfl
    have hmb : decide (((p + pw d : Nat) : Int) ≤ m) = true := decide_eq_true hm
    go_enter Try.func73, Try.ntmps73
    go_wp2_with (first
      | (go_at_call 74; refine (strBelow_any p d _ _ _ rfl rfl _ hp hd).mono ?_; rintro e w1 ⟨rfl, hb⟩; rw [hmb]))
    go_ret
    exact ⟨by rw [HR.out]; rfl, ((Below.refl _ _).alloc (Nat.le_refl _) _).trans (hb.mono (by simp))⟩
  · have HR : Hid (ruleG m p d = decide (m ≤ (p : Int))) := by show ruleG m p d = _; unfold ruleG; rw [decide_eq_false hm]; rfl
    have hmb : decide (((p + pw d : Nat) : Int) ≤ m) = false := decide_eq_false hm
    go_enter Try.func73, Try.ntmps73
    go_wp2_with (first
      | (go_at_call 74; refine (strBelow_any p d _ _ _ rfl rfl _ hp hd).mono ?_; rintro e w1 ⟨rfl, hb⟩; rw [hmb]; have q0 := cell_keep (a := ⟨b, 0, none⟩) (show (w.alloc (.cells #[.int .i64 p, .int .i64 d] 118)).cell? ⟨b, 0, none⟩ = some (.int .i64 m) from cell_keep hc ((Below.refl _ _).alloc (Nat.le_refl _) _)) hb; have q1 := cell_keep (a := ⟨w.heap.size, 0, none⟩) (show (w.alloc (.cells #[.int .i64 p, .int .i64 d] 118)).cell? ⟨w.heap.size, 0, none⟩ = some (.int .i64 p) by simp) hb; have q2 := cell_keep (a := ⟨w.heap.size, 1, none⟩) (show (w.alloc (.cells #[.int .i64 p, .int .i64 d] 118)).cell? ⟨w.heap.size, 1, none⟩ = some (.int .i64 d) by simp) hb)
      | (go_at_call 75; refine (strBeyond_any p _ _ _ rfl _).mono ?_; rintro e w2 ⟨rfl, hb2⟩))
    go_ret
    exact ⟨by rw [HR.out]; rfl, (((Below.refl _ _).alloc (Nat.le_refl _) _).trans (hb.mono (by simp))).trans (hb2.mono (Nat.le_trans (by simp) hb.size))⟩

set_option maxRecDepth 100000 in
set_option maxHeartbeats 400000 in
theorem leftOut_any (p d : Nat) (P D : Int) (R : Value) (f : Nat → Nat → Bool) (w : World) (eP : P = p) (eD : D = d) (hp : p ≤ 1000000) (hd : d ≤ 16) (hR : RuleAt w R f) :
    Calls Try.prog 110 #[.agg #[.int .i64 P, .int .i64 D], R] w fun e w' => e = .returned (.bool (f p d)) ∧ Below w.heap.size w w' := by
  obtain ⟨b, i, hc, ⟨rfl, rfl⟩ | ⟨rfl, rfl⟩⟩ := hR
  · subst eP eD
    go_enter Try.func110, Try.ntmps110
    go_wp2_with fail
    refine (memberLit_any p d _ _ i b _ rfl rfl hp hd (cell_keep hc ((Below.refl _ _).alloc (Nat.le_refl _) _))).mono ?_
    rintro e w1 ⟨rfl, hb⟩
    go_wp2
    go_ret
    exact ⟨rfl, ((Below.refl _ _).alloc (Nat.le_refl _) _).trans (hb.mono (by simp))⟩
  · subst eP eD
    go_enter Try.func110, Try.ntmps110
    go_wp2_with fail
    refine (growthLit_any p d _ _ i b _ rfl rfl hp hd (cell_keep hc ((Below.refl _ _).alloc (Nat.le_refl _) _))).mono ?_
    rintro e w1 ⟨rfl, hb⟩
    go_wp2
    go_ret
    exact ⟨rfl, ((Below.refl _ _).alloc (Nat.le_refl _) _).trans (hb.mono (by simp))⟩

/-- A node alone in a new row. -/
theorem node_at (w : World) (k g : Int) (s : ByteArray) (b : Nat) (hb : b = w.heap.size) : NodesAt (w.alloc (.cells #[.int .i64 k, .int .i64 g, .string s] 100)) (.slice (some ⟨b, 0, none⟩) 1 1) [⟨k, g, s⟩] := by
  refine ⟨_, _, rfl, fun h => (by cases h), fun _ => ⟨_, _, _, _, rfl, heap_new w _ b hb, fun j hj => ?_⟩⟩
  match j, hj with
  | 0, _ => exact ⟨rfl, rfl, rfl⟩

set_option maxRecDepth 100000 in
set_option maxHeartbeats 400000 in
theorem stub_any (g : Int) (w : World) :
    Calls Try.prog 130 #[.int .i64 g] w fun e w' => ∃ v', e = .returned v' ∧ NodesAt w' v' [⟨0, g, ByteArray.empty⟩] ∧ Below w.heap.size w w' := by
  go_enter Try.func130, Try.ntmps130
  go_wp2
  go_ret
  exact ⟨_, rfl, node_at w 0 g _ _ rfl, (Below.refl _ _).alloc (Nat.le_refl _) _⟩

set_option maxRecDepth 100000 in
set_option maxHeartbeats 400000 in
theorem grow_any (n : Nat) (w : World) (h1 : 1 ≤ n) (hn : n ≤ 1000000) :
    Calls Try.prog 134 #[.slice none 0 0, .int .i64 n] w fun e w' => ∃ v', e = .returned v' ∧ w'.ownsRow w.heap.size 100 3 v' 0 [] ∧ Below w.heap.size w w' := by
  obtain ⟨i0, hi, hz0, hz1, hz2⟩ := info_parts Try.infoNode
  have hr := fun ty => Lib.run_append_nil_zeros (P := Try.prog) w 40 3 ty 100 i0 _ .i64 .i64 Try.underlying40 Try.underlying3 hi hz0 n h1 (by rw [hz1]; decide) (by omega) (by rw [hz2]; omega)
  have HC := grownCap_ge w n 0 100
  have hmax := grownCap_le_maxLen w n 0 100 (by unfold maxLen; omega)
  have hn0 : (0 : Int) < (n : Int) := by omega
  generalize grownCap w n 0 100 = C at *
  go_enter Try.func134, Try.ntmps134
  go_wp2_with (at_builtin; refine Lib.wpList_append_run _ rfl (.tmp 20) (.tmp 21) 40 3 rfl _ _ rfl rfl _ _ (hr _) ?_)
  go_ret
  refine ⟨_, rfl, (World.ownsRow_made w _ C (Nat.le_refl _) hmax ?_).drew, ((Below.refl _ _).alloc (Nat.le_refl _) _).drew⟩
  simp [Builtin.zeroCells]
  omega
end Go.Proofs.Ytpdjdaipijjeeaa
