/-
  The simulation, further operations: comparisons, products, texts, slices made and copied.
-/
import Derived.Test.YtlndinigbppafaaSimI
namespace Go.Sim
variable {P : Program} {Shd : Nat → Prop} {R : BR}

theorem sim_geq (t : TypeId) {a A b B : Value} (ha : VR P R a A) (hb : VR P R b B) : Sim P Shd (VR P) R (binOp .geq t a b) (binOp .geq t A B) := by
  cases ha <;> cases hb <;> first
    | exact Sim.stuck _
    | exact Sim.unsupported _
    | exact Sim.pure (.bool _)
    | (rename_i h1 _ _ h2; exact sim_ptrs (f := Op.addrCmp _) h1 (dead_addrCmp _))
    | (unfold binOp; dsimp only; split; exact Sim.stuck _; exact Sim.pure (.bool _))
theorem sim_mul (op : BinOp) (ho : op = .mul ∨ op = .quo ∨ op = .or) (t : TypeId) {a A b B : Value} (ha : VR P R a A) (hb : VR P R b B) : Sim P Shd (VR P) R (binOp op t a b) (binOp op t A B) := by
  rcases ho with rfl | rfl | rfl
  all_goals
    cases ha <;> cases hb <;> first
      | exact Sim.stuck _
      | exact Sim.unsupported _
      | (unfold binOp Op.intArith; dsimp only; split; exact Sim.stuck _; exact Sim.pure (.int _ _))
      | (unfold binOp Op.intBits; dsimp only; split; exact Sim.stuck _; exact Sim.pure (.int _ _))
      | (unfold binOp Op.intDiv; dsimp only; split; exact Sim.stuck _; split; exact Sim.runtimePanic _; exact Sim.pure (.int _ _))

theorem sim_noView {a A : Addr} (h : AR R a A) : Sim P Shd (fun _ _ _ => True) R (noView a) (noView A) := by
  refine Sim.bind (sim_viewAt h.1) fun R1 x X s1 q => ?_
  obtain ⟨rfl, rfl⟩ := q
  exact Sim.pure trivial
theorem sim_byteOf {a A : Addr} (h : AR R a A) : Sim P Shd (fun _ a b => a = b) R (byteOf a) (byteOf A) := by
  unfold byteOf
  obtain ⟨h1, h2, h3, h4⟩ := h
  simp only [h3, h4]
  refine Sim.bind sim_program fun R1 p p' s1 q => ?_
  obtain ⟨rfl, rfl⟩ := q
  refine Sim.bind (sim_noView ⟨s1 _ _ h1, h2, h3, h4⟩) fun R2 _ _ s2 _ => ?_
  refine Sim.bind (sim_shape (s2 _ _ (s1 _ _ h1))) fun R3 x _ s3 q => ?_
  subst q
  split
  · split
    · exact Sim.pure rfl
    · rw [h2]
      split
      · exact Sim.pure rfl
      · exact Sim.stuck _
  · exact Sim.stuck _
theorem sim_addrMod (k : IntKind) {a A : Addr} (n : Int) (h : AR R a A) : Sim P Shd (VR P) R (Op.addrMod k a n) (Op.addrMod k A n) := by
  unfold Op.addrMod
  refine Sim.bind (sim_shape h.1) fun R1 x _ s1 q => ?_
  subst q
  split
  · refine Sim.bind (sim_typeInfo _) fun R2 i _ s2 q => ?_
    obtain ⟨rfl, _⟩ := q
    dsimp only
    split
    · exact Sim.dead (dead_left (dead_unsupported _))
    · refine Sim.bind (sim_byteOf ((h.mono s1).mono s2)) fun R3 m _ s3 q => ?_
      subst q
      exact Sim.pure (.int _ _)
  · exact Sim.unsupported _
theorem sim_rem (t : TypeId) {a A b B : Value} (ha : VR P R a A) (hb : VR P R b B) : Sim P Shd (VR P) R (binOp .rem t a b) (binOp .rem t A B) := by
  cases ha <;> cases hb <;> first
    | exact Sim.stuck _
    | exact Sim.unsupported _
    | (unfold binOp Op.intDiv; dsimp only; split; exact Sim.stuck _; split; exact Sim.runtimePanic _; exact Sim.pure (.int _ _))
    | (rename_i h1 _ _; exact Sim.bind (sim_behindNumber h1) fun _ _ _ _ q => sim_addrMod _ _ q.1)

/-- A type of numbers, of texts or of pointers. -/
def Plain (P : Program) (t : TypeId) : Prop := (∃ k, P.underlying t = some (.int k) ∧ ∀ i u, P.info? t = some i → i.desc ≠ .named "sync.copyChecker" u) ∨ P.underlying t = some .string ∨ ∃ e, P.underlying t = some (.pointer e) ∧ ∀ i, P.info? e = some i → i.size ≠ 0

theorem sim_eqGuardIn {t : TypeId} (ht : Plain P t) (d : Nat) {a A b B : Value} : Sim P Shd (fun _ x y => x = false ∧ y = false) R (Op.eqGuardIn (d + 1) t a b) (Op.eqGuardIn (d + 1) t A B) := by
  unfold Op.eqGuardIn
  refine Sim.bind (sim_underlying t) fun R1 x _ s1 q => ?_
  obtain ⟨rfl, hd⟩ := q
  rcases ht with ⟨k, h, _⟩ | h | ⟨e, h, _⟩
  all_goals
    rw [h] at hd
    cases hd
    exact Sim.pure ⟨rfl, rfl⟩
theorem eqGuardType_plain {t : TypeId} (ht : Plain P t) (d : Nat) : P.eqGuardType (d + 1) t = false := by
  rcases ht with ⟨k, h, _⟩ | h | ⟨e, h, _⟩ <;> simp [Program.eqGuardType, h]
theorem sim_eqGuard (op : BinOp) (ho : op = .eql ∨ op = .neq) {t : TypeId} (ht : Plain P t) (x y : Operand) {a A b B : Value} (ha : VR P R a A) (hb : VR P R b B) : Sim P Shd (fun _ _ _ => True) R (eqGuard op t x y a b) (eqGuard op t x y A B) := by
  have nil2 : Sim P Shd (fun _ _ _ => True) R (do if ← Op.eqGuardIn Op.maxDepth t .nilIface .nilIface then unsupported (.noEntry "binop/eql: two nil values of an interface type with methods, neither of them the literal nil"))
      (do if ← Op.eqGuardIn Op.maxDepth t .nilIface .nilIface then unsupported (.noEntry "binop/eql: two nil values of an interface type with methods, neither of them the literal nil")) := by
    refine Sim.bind (sim_eqGuardIn ht 9999) fun R1 x y s1 q => ?_
    obtain ⟨rfl, rfl⟩ := q
    exact Sim.pure trivial
  have nils : Sim P Shd (fun _ _ _ => True) R (eqGuard op t x y .nilIface .nilIface) (eqGuard op t x y .nilIface .nilIface) := by
    rcases ho with rfl | rfl
    all_goals
      cases x <;> cases y <;> first
        | exact Sim.pure trivial
        | exact nil2
  have aggs : ∀ {c d C D : Array Value}, Sim P Shd (fun _ _ _ => True) R (eqGuard op t x y (.agg c) (.agg d)) (eqGuard op t x y (.agg C) (.agg D)) := by
    intro c d C D
    have e : ∀ c d : Array Value, eqGuard op t x y (.agg c) (.agg d) = (do
        if !(← program).eqGuardType (← program).depth t then return
        if ← Op.eqGuardIn Op.maxDepth t (.agg c) (.agg d) then unsupported (.noEntry "binop/eql: two nil values of an interface type with methods, in a part of a struct or an array")) := by
      intro c d
      rcases ho with rfl | rfl <;> rfl
    rw [e, e]
    refine Sim.bind sim_program fun R1 p p' s1 q => ?_
    obtain ⟨rfl, rfl⟩ := q
    refine Sim.bind sim_program fun R2 p p' s2 q => ?_
    obtain ⟨rfl, rfl⟩ := q
    rw [show p'.depth = 2 * (p'.types.size + Made.depth) + 1 + 1 from rfl, eqGuardType_plain ht]
    exact Sim.pure trivial
  rcases ho with rfl | rfl
  all_goals
    cases ha <;> cases hb <;> first
      | exact nils
      | exact aggs
      | exact Sim.pure trivial
end Go.Sim
