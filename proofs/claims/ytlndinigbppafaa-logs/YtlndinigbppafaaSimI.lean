/-
  The simulation of a whole operation.
-/
import Derived.Test.YtlndinigbppafaaSimH
namespace Go.Sim
variable {P : Program} {Shd : Nat → Prop} {R : BR}

theorem sim_callFunc {f : FuncId} (hf : BodyOK P f) {x X : Array Value} (h : VRs P R x X) : Sim P Shd (NR P) R (callFunc f x) (callFunc f X) := by
  have hf' := hf
  obtain ⟨fn, h1, h2, h3⟩ := hf
  have e : ∀ (x : Array Value) (w : World), (callFunc f x).run P w = .ok (.enter f x) w := by
    intro x w
    have hn : fn.name ≠ "runtime.NumGoroutine" := fun x => by rw [x] at h3; revert h3; decide
    cases hb : fn.body with
    | none => rw [hb] at h2; cases h2
    | some c => simp [callFunc, program, h1, hn, hb, bind, Sem.bind, Sem.run, pure]
  intro w W hw ht
  refine ⟨fun h w' e1 => (by rw [e] at e1; cases e1), fun a w' e1 => ?_⟩
  rw [e] at e1
  cases e1
  refine ⟨R, _, W, e X W,   .enter f hf' h, hw, EX.refl _ _ _ _, fun ev he => ?_, fun τ _ => e x _⟩
  have : (callFunc f X).events P W #[] = #[] := by
    have hn : fn.name ≠ "runtime.NumGoroutine" := fun x => by rw [x] at h3; revert h3; decide
    cases hb : fn.body with
    | none => rw [hb] at h2; cases h2
    | some c => simp [callFunc, h1, hn, hb]
  rw [this] at he
  simp at he

theorem sim_nilAhead {name : String} (hm : MethOK P name) (fuel : Nat) (t : TypeId) (htl : t < P.types.size) {v V : Value} (h : VR P R v V) : Sim P Shd (fun _ a b => a = b) R (nilAhead fuel t v name) (nilAhead fuel t V name) := by
  cases fuel with
  | zero => exact Sim.pure rfl
  | succ fuel =>
    refine Sim.bind (sim_typeInfo t) fun R1 i _ s1 q => ?_
    obtain ⟨rfl, hi⟩ := q
    cases hf : i.methods.find? (·.name == name) with
    | none => exact Sim.stuck _
    | some m =>
      obtain ⟨hp, f, pr, hmf, _⟩ := hm t i m htl hi hf
      simp only [hp, hmf]
      refine Sim.bind (Q := fun R' (a b : Except (Option Bool) (TypeId × Option Value)) => a = .ok (t, some v) ∧ b = .ok (t, some V)) (Sim.pure ⟨rfl, rfl⟩) fun R2 a b s2 q => ?_
      obtain ⟨rfl, rfl⟩ := q
      dsimp only
      cases pr with
      | true => exact Sim.pure rfl
      | false =>
        refine Sim.bind (sim_underlying t) fun R3 d _ s3 q => ?_
        obtain ⟨rfl, hd⟩ := q
        cases d <;> first
          | exact Sim.pure rfl
          | (cases h <;> exact Sim.pure rfl)

theorem sim_receiver (t : TypeId) (pr : Bool) (nm : String) {v V : Value} (h : VR P R v V) : Sim P Shd (VR P) R (receiverAt t (.val v) pr (some nm)) (receiverAt t (.val V) pr (some nm)) := by
  refine Sim.bind (sim_underlying t) fun R1 d _ s1 q => ?_
  obtain ⟨rfl, hd⟩ := q
  have h1 := h.mono s1
  cases pr with
  | true => cases d <;> first | exact Sim.stuck _ | exact Sim.pure h1
  | false =>
    cases d <;> first
      | exact Sim.pure h1
      | skip
    rename_i e
    refine Sim.bind (Q := VR P) (Sim.pure h1) fun R2 p p' s2 q => ?_
    refine Sim.bind (Q := VR P) ?_ fun R3 p p' s3 q => Sim.bind (sim_asAddr q) fun _ _ _ _ q => sim_loadVar e q
    unfold Builtin.ssaWrapNilChk_
    dsimp only [strVal]
    cases q with
    | ptr ha => exact Sim.pure (.ptr ha)
    | nilPtr =>
      refine Sim.dead (dead_bind (mild_choose _) fun x => ?_)
      split
      · exact dead_left (dead_runtimePanic _)
      refine dead_bind (mild_underlying _) fun d => ?_
      split
      · refine dead_bind (mild_typeInfo _) fun i => ?_
        split
        · split
          · split
            · exact dead_runtimePanic _
            · exact dead_unsupported _
          · exact dead_stuck _
        · exact dead_stuck _
      · exact dead_stuck _
    | _ => exact Sim.stuck _

theorem sim_method {name : String} (hm : MethOK P name) (fuel : Nat) (t : TypeId) (htl : t < P.types.size) {v V : Value} (h : VR P R v V) :
    Sim P Shd (fun R' x X => x.1 = X.1 ∧ BodyOK P x.1 ∧ VR P R' x.2 X.2) R (method fuel t v name) (method fuel t V name) := by
  cases fuel with
  | zero => exact Sim.unsupported _
  | succ fuel =>
    refine Sim.bind (sim_typeInfo t) fun R1 i _ s1 q => ?_
    obtain ⟨rfl, hi⟩ := q
    cases hf : i.methods.find? (·.name == name) with
    | none => exact Sim.stuck _
    | some m =>
      obtain ⟨hp, f, pr, hmf, hb⟩ := hm t i m htl hi hf
      simp only [hp, hmf]
      refine Sim.bind (Q := fun R' (a b : TypeId × Place) => a = (t, .val v) ∧ b = (t, .val V)) (Sim.pure ⟨rfl, rfl⟩) fun R2 a b s2 q => ?_
      obtain ⟨rfl, rfl⟩ := q
      dsimp only
      exact Sim.bind (sim_receiver t pr _ ((h.mono s1).mono s2)) fun _ _ _ _ q => Sim.pure ⟨rfl, hb, q⟩

theorem sim_callMethod {name : String} (hm : MethOK P name) {v V : Value} (h : VR P R v V) {x X : Array Value} (hx : VRs P R x X) : Sim P Shd (NR P) R (callMethod v name x) (callMethod V name X) := by
  cases h with
  | iface t htl h =>
    refine Sim.bind sim_program fun R1 p p' s1 q => ?_
    obtain ⟨rfl, rfl⟩ := q
    refine Sim.bind (sim_method hm _ t htl (h.mono s1)) fun R2 y Y s2 q => ?_
    obtain ⟨f, r⟩ := y
    obtain ⟨f', r'⟩ := Y
    obtain ⟨rfl, hb, hr⟩ := q
    exact sim_callFunc hb ((VRs.one hr).append ((hx.mono s1).mono s2))
  | nilIface => exact Sim.dead (dead_runtimePanic .nilDeref)
  | _ => exact Sim.stuck _

/-- A call of a function value, with its arguments. -/
theorem sim_callValue {v V : Value} (h : VR P R v V) {x X : Array Value} (hx : VRs P R x X) :
    Sim P Shd (NR P) R (do let d ← Deferred.ofValue v x; invoke d.target d.args) (do let d ← Deferred.ofValue V X; invoke d.target d.args) := by
  cases h with
  | func f hf h1 h2 h3 h4 =>
    rename_i a A b B
    have ha : VRs P R a A := ⟨h1, h2⟩
    have hb : VRs P R b B := ⟨h3, h4⟩
    cases f with
    | func f => exact sim_callFunc hf ((ha.append hx).append hb)
    | method name =>
      show Sim P Shd (NR P) R (invoke (.fn (.method name) b) (a ++ x)) (invoke (.fn (.method name) B) (A ++ X))
      unfold invoke
      have hax := ha.append hx
      dsimp only
      cases he : (a ++ x)[0]? with
      | none => exact Sim.stuck _
      | some r =>
        obtain ⟨r', e', hr⟩ := hax.get he
        simp only [e']
        have := hax.extract 1 (a ++ x).size
        rw [show (A ++ X).size = (a ++ x).size from hax.1.symm]
        exact sim_callMethod hf hr this
    | methodOf _ _ => exact hf.elim
    | via _ _ _ _ => exact hf.elim
    | yield _ => exact hf.elim
  | nilFunc => exact Sim.dead (dead_runtimePanic .nilDeref)
  | _ => exact Sim.stuck _
end Go.Sim
