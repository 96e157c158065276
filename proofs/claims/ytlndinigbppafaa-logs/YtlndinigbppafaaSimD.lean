/-
  The simulation, operation by operation.
-/
import Derived.Test.YtlndinigbppafaaSimC
namespace Go.Sim
variable {P : Program} {Shd : Nat → Prop} {R : BR}

/-- What an operation may come to. -/
inductive NR (P : Program) (R : BR) : Next → Next → Prop
  | value {v V : Value} : VR P R v V → NR P R (.value v) (.value V)
  | skip : NR P R .skip .skip
  | enter (f : FuncId) {x X : Array Value} : BodyOK P f → VRs P R x X → NR P R (.enter f x) (.enter f X)

theorem Sim.v {s S : Sem Value} (h : Sim P Shd (VR P) R s S) : Sim P Shd (NR P) R (do Pure.pure (Next.value (← s))) (do Pure.pure (Next.value (← S))) := Sim.bind h fun _ _ _ _ q => Sim.pure (NR.value q)
theorem Sim.u {Q : BR → Unit → Unit → Prop} {s S : Sem Unit} (h : Sim P Shd Q R s S) : Sim P Shd (NR P) R (do s; Pure.pure Next.skip) (do S; Pure.pure Next.skip) := Sim.bind h fun _ _ _ _ _ => Sim.pure NR.skip

theorem sim_asIntOf {v V : Value} (h : VR P R v V) : Sim P Shd (fun _ a b => a = b) R (asIntOf v) (asIntOf V) := by
  cases h <;> first | exact Sim.pure rfl | exact Sim.stuck _ | exact Sim.unsupported _
theorem sim_asInt {v V : Value} (h : VR P R v V) : Sim P Shd (fun _ a b => a = b) R (asInt v) (asInt V) := Sim.bind (sim_asIntOf h) fun _ _ _ _ q => Sim.pure (by rw [q])
theorem sim_asBool {v V : Value} (h : VR P R v V) : Sim P Shd (fun _ a b => a = b) R (asBool v) (asBool V) := by
  cases h <;> first | exact Sim.pure rfl | exact Sim.stuck _
theorem sim_asAgg {v V : Value} (h : VR P R v V) : Sim P Shd (VRs P) R (asAgg v) (asAgg V) := by
  cases h <;> first | exact Sim.stuck _ | exact Sim.pure ⟨by assumption, by assumption⟩
theorem sim_sureAddr {v V : Value} (h : VR P R v V) : Sim P Shd AR R (Instr.sureAddr v) (Instr.sureAddr V) := by
  cases h <;> first | exact Sim.stuck _ | (rename_i ha; exact Sim.pure ha)
theorem sim_asAddr {v V : Value} (h : VR P R v V) : Sim P Shd AR R (asAddr v) (asAddr V) := by
  cases h <;> first | exact Sim.stuck _ | exact Sim.dead (dead_runtimePanic .nilDeref) | (rename_i ha; exact Sim.pure ha)

theorem sim_part (t : TypeId) {x X : Array Value} (h : VRs P R x X) (off : Nat) : Sim P Shd (VR P) R (part t x off) (part t X off) := by
  refine Sim.bind (sim_isAgg t) fun R1 a b s1 q => ?_
  subst q
  have h1 := h.mono s1
  cases a with
  | true =>
    refine Sim.bind (sim_sizeOf t) fun R2 n m s2 q => ?_
    subst q
    have := (h1.mono s2).extract off (off + n)
    exact Sim.pure (.agg this.1 this.2)
  | false =>
    cases hx : x[off]? with
    | none => simp only [Bool.false_eq_true, ↓reduceIte]; exact Sim.stuck _
    | some v =>
      obtain ⟨V, hV, hr⟩ := h1.get hx
      simp only [Bool.false_eq_true, ↓reduceIte, hV]
      exact Sim.pure hr

theorem sim_alloc (hZ : ZeroOK P) (t : TypeId) (ht : t < P.types.size) : Sim P Shd (VR P) R (Instr.alloc t true (.tuple #[])) (Instr.alloc t true (.tuple #[])) :=
  Sim.bind (sim_zeroValue hZ t ht) fun _ _ _ _ q => Sim.bind (sim_newVar t q) fun _ _ _ _ q => Sim.pure (.ptr q.1)
theorem sim_box (t : TypeId) {v V : Value} (h : VR P R v V) : Sim P Shd (VR P) R (Instr.box t v) (Instr.box t V) := Sim.bind (sim_newVar t h) fun _ _ _ _ q => Sim.pure (.ptr q.1)
theorem sim_loadAt (t : TypeId) {v V : Value} (h : VR P R v V) : Sim P Shd (VR P) R (Instr.loadAt t v) (Instr.loadAt t V) := Sim.bind (sim_sureAddr h) fun _ _ _ _ q => sim_loadVar t q
theorem sim_storeAt (t : TypeId) {a A v V : Value} (ha : VR P R a A) (h : VR P R v V) : Sim P Shd (fun _ _ _ => True) R (Instr.storeAt t a v) (Instr.storeAt t A V) :=
  Sim.bind (sim_sureAddr ha) fun _ _ _ s q => sim_storeVar t q (h.mono s)

/-- The fields of a struct type have cells. -/
def FieldOK (P : Program) (s : TypeId) (i : Nat) : Prop := ∀ fs f x, P.underlying s = some (.struct fs) → fs[i]? = some f → P.info? f.type = some x → x.size ≠ 0

theorem sim_sizeOf' (t : TypeId) : Sim P Shd (fun _ a b => a = b ∧ ∃ i, P.info? t = some i ∧ i.size = a) R (sizeOf t) (sizeOf t) :=
  Sim.bind (sim_typeInfo t) fun _ a b _ q => Sim.pure (by obtain ⟨rfl, h⟩ := q; exact ⟨rfl, _, h, rfl⟩)

theorem sim_fieldAt (s : TypeId) (i : Nat) (hf : FieldOK P s i) {v V : Value} (h : VR P R v V) : Sim P Shd (VR P) R (Instr.fieldAt s v i) (Instr.fieldAt s V i) := by
  refine Sim.bind (sim_underlying s) fun R1 a b s1 q => ?_
  obtain ⟨rfl, hu⟩ := q
  split
  · rename_i fs
    cases hx : fs[i]? with
    | none => exact Sim.stuck _
    | some f =>
      refine Sim.bind (sim_sureAddr (h.mono s1)) fun R2 c C s2 q => ?_
      unfold fieldPlace
      refine Sim.bind (Q := AR) ?_ fun R3 a A s3 q3 => Sim.pure (.ptr q3)
      refine Sim.bind (sim_sizeOf' f.type) fun R3 n m s3 q3 => ?_
      obtain ⟨rfl, x, hi, hn⟩ := q3
      have := hf fs f x hu hx hi
      rw [if_neg (by omega), if_neg (by omega)]
      exact Sim.pure ((q.mono s3).add _)
  · exact Sim.stuck _
theorem sim_field (t : TypeId) (i : Nat) {v V : Value} (h : VR P R v V) : Sim P Shd (VR P) R (Instr.field t v i) (Instr.field t V i) := by
  refine Sim.bind (sim_underlying t) fun R1 a b s1 q => ?_
  obtain ⟨rfl, hu⟩ := q
  split
  · rename_i fs
    cases hx : fs[i]? with
    | none => exact Sim.stuck _
    | some f => exact Sim.bind (sim_asAgg (h.mono s1)) fun _ _ _ _ q => sim_part f.type q _
  · exact Sim.stuck _

theorem sim_indexAt (t : TypeId) {v V x X : Value} (h : VR P R v V) (hx : VR P R x X) : Sim P Shd (VR P) R (Instr.indexAt t v x) (Instr.indexAt t V X) := by
  refine Sim.bind (sim_asIntOf hx) fun R1 a b s1 q => ?_
  subst q
  obtain ⟨k, i⟩ := a
  refine Sim.bind (sim_underlying t) fun R2 a b s2 q => ?_
  obtain ⟨rfl, hu⟩ := q
  have h2 := (h.mono s1).mono s2
  have K : ∀ {R3 : BR} (base Base : Option Addr) (len : Nat) (elem : TypeId), ((base = none ∧ Base = none) ∨ ∃ a A, base = some a ∧ Base = some A ∧ AR R3 a A) →
      Sim P Shd (VR P) R3 (do
        let tiny := len ≤ 1 && (match ← underlying t with | .array .. => true | _ => false)
        match base with
        | some a =>
          if 0 ≤ i ∧ i < len then pure (.pointer (some (a.add (i.toNat * (← sizeOf elem)))))
          else if tiny then unsupported (.noEntry "op/indexAddr.an index out of range at an array of length 0 or 1 (ledger 616)")
          else boundsPanic k i len .index
        | none => boundsPanic k i 0 .index) (do
        let tiny := len ≤ 1 && (match ← underlying t with | .array .. => true | _ => false)
        match Base with
        | some a =>
          if 0 ≤ i ∧ i < len then pure (.pointer (some (a.add (i.toNat * (← sizeOf elem)))))
          else if tiny then unsupported (.noEntry "op/indexAddr.an index out of range at an array of length 0 or 1 (ledger 616)")
          else boundsPanic k i len .index
        | none => boundsPanic k i 0 .index) := by
    intro R3 base Base len elem q2
    refine Sim.bind (sim_underlying t) fun R4 a b s4 q => ?_
    obtain ⟨rfl, hu⟩ := q
    rcases q2 with ⟨rfl, rfl⟩ | ⟨a, A, rfl, rfl, ha⟩
    · exact Sim.boundsPanic _ _ _ _
    · dsimp only
      split
      · refine Sim.bind (sim_sizeOf elem) fun R5 n m s5 q => ?_
        subst q
        exact Sim.pure (.ptr (((ha.mono s4).mono s5).add _))
      · repeat' split
        all_goals first | exact Sim.unsupported _ | exact Sim.boundsPanic _ _ _ _
  cases a with
  | array len elem => exact Sim.bind (sim_sureAddr h2) fun _ _ _ _ q => K _ _ len elem (.inr ⟨_, _, rfl, rfl, q⟩)
  | slice elem =>
    cases h2 with
    | nilSlice l c => exact K _ _ l elem (.inl ⟨rfl, rfl⟩)
    | slice l c ha => exact K _ _ l elem (.inr ⟨_, _, rfl, rfl, ha⟩)
    | _ => exact Sim.dead (dead_left (dead_stuck _))
  | _ => exact Sim.dead (dead_left (dead_stuck _))
end Go.Sim
