/-
  The simulation of a whole operation: which operations are borne, and the law.
-/
import Derived.Test.YtlndinigbppafaaSimZ
namespace Go.Sim
variable {P : Program} {Shd : Nat → Prop} {R : BR}

def OperandOK (P : Program) : Operand → Prop
  | .tmp _ => True
  | .const v => ∀ R, VR P R v v
  | .global _ => False
  | .func f => BodyOK P f

/-- The operations that are borne. -/
def OpOK (P : Program) : Op → Prop
  | .move x | .assign x => OperandOK P x
  | .pick c a b => OperandOK P c ∧ OperandOK P a ∧ OperandOK P b
  | .alloc t => t < P.types.size
  | .box _ x => OperandOK P x
  | .build t parts => t < P.types.size ∧ (∃ fs, P.underlying t = some (.struct fs)) ∧ ∀ p ∈ parts, OperandOK P p.2
  | .buildSlice t _ parts => (∀ e, P.underlying t = some (.slice e) → e < P.types.size) ∧ ∀ p ∈ parts, OperandOK P p.2
  | .load _ a => OperandOK P a
  | .store _ a x => OperandOK P a ∧ OperandOK P x
  | .nilCheck x => OperandOK P x
  | .binOp op t x y _ => OperandOK P x ∧ OperandOK P y ∧
      ((op = .lss ∨ op = .leq ∨ op = .gtr) ∨ ((op = .add ∨ op = .sub) ∧ ∃ d0, P.underlying t = some d0 ∧ ((∃ k, d0 = .int k) ∨ d0 = .string)) ∨ (op = .shl ∨ op = .shr) ∨ (op = .eql ∧ ∃ k n, y = .const (.int k n)) ∨ op = .geq ∨ (op = .mul ∨ op = .quo ∨ op = .or) ∨ op = .rem ∨ ((op = .eql ∨ op = .neq) ∧ Plain P t))
  | .unOp op _ x => (op = .not ∨ op = .neg) ∧ OperandOK P x
  | .convert src dst x => OperandOK P x ∧ ((∃ k k', P.underlying src = some (.int k) ∧ P.underlying dst = some (.int k')) ∨ (P.underlying src = some .string ∧ ∃ e, P.underlying dst = some (.slice e) ∧ P.underlying e = some (.int .u8)) ∨ (P.underlying dst = some .string ∧ ∃ e, P.underlying src = some (.slice e) ∧ P.underlying e = some (.int .u8)) ∨ (src = dst ∧ ∃ e, P.underlying dst = some (.slice e) ∧ P.underlying e = some (.int .u8)))
  | .makeInterface t x => t < P.types.size ∧ OperandOK P x
  | .makeFunc f a b => FnOK P f ∧ (∀ x ∈ a, OperandOK P x) ∧ ∀ x ∈ b, OperandOK P x
  | .slice t x lo hi mx => ((∃ e, P.underlying t = some (.slice e)) ∨ P.underlying t = some .string) ∧ OperandOK P x ∧ (∀ y ∈ lo, OperandOK P y) ∧ (∀ y ∈ hi, OperandOK P y) ∧ ∀ y ∈ mx, OperandOK P y
  | .fieldAddr s x f => FieldOK P s f ∧ OperandOK P x
  | .field _ x _ => OperandOK P x
  | .indexAddr _ x i => OperandOK P x ∧ OperandOK P i
  | .index t x i => P.underlying t = some .string ∧ OperandOK P x ∧ OperandOK P i
  | .makeSlice t l c => (∃ e, P.underlying t = some (.slice e) ∧ e < P.types.size) ∧ OperandOK P l ∧ OperandOK P c
  | .extract x _ => OperandOK P x
  | .panic _ => True
  | .call c => (∀ x ∈ c.args, OperandOK P x) ∧ match c.callee with
    | .builtin .len => ∃ t, c.argTypes = #[t] ∧ (P.underlying t = some .string ∨ ∃ e, P.underlying t = some (.slice e))
    | .builtin .cap => ∃ t e, c.argTypes = #[t] ∧ P.underlying t = some (.slice e)
    | .builtin .append => ∃ t t2 e, c.argTypes = #[t, t2] ∧ P.underlying t = some (.slice e) ∧ e < P.types.size
    | .builtin .copy => ∃ t t2 e, c.argTypes = #[t, t2] ∧ P.underlying t = some (.slice e)
    | .builtin .unsafeString => ∃ t t2 x y, c.argTypes = #[t, t2] ∧ c.args = #[x, y]
    | .builtin _ => False
    | .value f => OperandOK P f
    | .invoke r name => OperandOK P r ∧ MethOK P name
  | _ => False

theorem dead_panic (x : Value) : Dead P (Instr.panic x) := by
  unfold Instr.panic
  split
  · exact dead_goPanic _
  · refine dead_bind ?_ fun i => ?_
    · refine Mild.bind (fun w h w' e => (by cases e)) fun r => ?_
      split
      · exact Mild.bind mild_program fun _ => Mild.pure _
      · exact (dead_stuck _).mild
    split
    · exact dead_goPanic _
    · exact dead_runtimePanic _
  · exact dead_stuck _

theorem VRs.map {f g : Operand → Value} (h : ∀ x, OperandOK P x → VR P R (f x) (g x)) {l : Array Operand} (hl : ∀ x ∈ l, OperandOK P x) : VRs P R (l.map f) (l.map g) := by
  refine ⟨by simp, fun i v V h1 h2 => ?_⟩
  simp only [Array.getElem?_map, Option.map_eq_some_iff] at h1 h2
  obtain ⟨a, e1, rfl⟩ := h1
  obtain ⟨b, e2, rfl⟩ := h2
  rw [e1] at e2
  cases e2
  exact h _ (hl _ (Array.mem_of_getElem? e1))
theorem OV.map {f g : Operand → Value} (h : ∀ x, OperandOK P x → VR P R (f x) (g x)) {l : Option Operand} (hl : ∀ x ∈ l, OperandOK P x) : OV P R (l.map f) (l.map g) := by
  cases l with
  | none => exact .inl ⟨rfl, rfl⟩
  | some x => exact .inr ⟨_, _, rfl, rfl, h _ (hl _ rfl)⟩
theorem PR.map {f g : Operand → Value} (h : ∀ x, OperandOK P x → VR P R (f x) (g x)) : ∀ {l : List (Nat × Operand)}, (∀ p ∈ l, OperandOK P p.2) → PR P R (l.map fun p => (p.1, f p.2)) (l.map fun p => (p.1, g p.2))
  | [], _ => trivial
  | (_, _) :: _, hl => ⟨rfl, h _ (hl _ (List.mem_cons_self ..)), PR.map h fun p hp => hl p (List.mem_cons_of_mem _ hp)⟩

theorem sim_execOp (hS : ∀ b, ¬ Shd b) (hZ : ZeroOK P) {f g : Operand → Value} (h : ∀ x, OperandOK P x → VR P R (f x) (g x)) (hf : ∀ v, f (.const v) = v) (hg : ∀ v, g (.const v) = v) (o : Oper) (ho : OpOK P o.op) :
    Sim P Shd (NR P) R (execOp f o) (execOp g o) := by
  unfold execOp
  cases hop : o.op with
  | move x => rw [hop] at ho; exact Sim.pure (.value (h x ho))
  | assign x => rw [hop] at ho; exact Sim.pure (.value (h x ho))
  | pick c a b =>
    rw [hop] at ho
    refine Sim.bind (sim_asBool (h c ho.1)) fun R1 x _ s1 q => ?_
    subst q
    cases x
    · exact Sim.pure (.value ((h b ho.2.2).mono s1))
    · exact Sim.pure (.value ((h a ho.2.1).mono s1))
  | alloc t => rw [hop] at ho; exact Sim.v (sim_alloc hZ t ho)
  | box t x => rw [hop] at ho; exact Sim.v (sim_box t (h x ho))
  | build t parts =>
    rw [hop] at ho
    obtain ⟨hl, ⟨fs, hfs⟩, hp⟩ := ho
    refine Sim.v (sim_build hZ t fs hfs hl ?_)
    simp only [Array.toList_map]
    exact PR.map h fun p hp' => hp p (by simpa using hp')
  | buildSlice t n parts =>
    rw [hop] at ho
    refine Sim.v (sim_buildSlice hZ t ho.1 n ?_)
    simp only [Array.toList_map]
    exact PR.map h fun p hp' => ho.2 p (by simpa using hp')
  | load t a => rw [hop] at ho; exact Sim.v (sim_loadAt t (h a ho))
  | store t a x => rw [hop] at ho; exact Sim.u (sim_storeAt t (h a ho.1) (h x ho.2))
  | nilCheck x =>
    rw [hop] at ho
    have hx := h x ho
    dsimp only
    generalize f x = v at hx ⊢
    generalize g x = V at hx ⊢
    cases hx with
    | nilPtr => exact Sim.dead (dead_runtimePanic .nilDeref)
    | nilIface => exact Sim.dead (dead_runtimePanic .nilDeref)
    | nilFunc => exact Sim.dead (dead_runtimePanic .nilDeref)
    | func fn hf h1 h2 h3 h4 =>
      rename_i a A b B
      have hv : VR P R (.func fn a b) (.func fn A B) := .func fn hf h1 h2 h3 h4
      cases fn with
      | method name =>
        cases he : a[0]? with
        | none =>
          have : A[0]? = none := by
            rw [Array.getElem?_eq_none_iff] at he ⊢
            omega
          simp only [he, this]
          exact Sim.pure (.value hv)
        | some r =>
          obtain ⟨r', e', hr⟩ := VRs.get ⟨h1, h2⟩ he
          simp only [he, e']
          cases hr with
          | nilIface => exact Sim.dead (dead_runtimePanic .nilDeref)
          | iface t htl hr =>
            refine Sim.bind sim_program fun R1 p p' s1 q => ?_
            obtain ⟨rfl, rfl⟩ := q
            refine Sim.bind (sim_nilAhead hf _ t htl (hr.mono s1)) fun R2 y _ s2 q => ?_
            subst q
            split
            · exact Sim.dead (dead_left (dead_unsupported _))
            · exact Sim.pure (.value ((hv.mono s1).mono s2))
          | _ => exact Sim.pure (.value hv)
      | func _ => exact Sim.pure (.value hv)
      | _ => exact hf.elim
    | bool b => exact Sim.pure (.value (.bool b))
    | int k n => exact Sim.pure (.value (.int k n))
    | string s => exact Sim.pure (.value (.string s))
    | ptr ha => exact Sim.pure (.value (.ptr ha))
    | nilSlice l c => exact Sim.pure (.value (.nilSlice l c))
    | slice l c ha => exact Sim.pure (.value (.slice l c ha))
    | nilMap => exact Sim.pure (.value .nilMap)
    | nilChan => exact Sim.pure (.value .nilChan)
    | iface t htl hv => exact Sim.pure (.value (.iface t htl hv))
    | agg h1 h2 => exact Sim.pure (.value (.agg h1 h2))
    | tuple h1 h2 => exact Sim.pure (.value (.tuple h1 h2))
  | binOp op t x y ty =>
    rw [hop] at ho
    obtain ⟨hx, hy, ho⟩ := ho
    refine Sim.v ?_
    have G : ∀ (a b : Value), (op matches .eql | .neq) = false → eqGuard op t x y a b = pure () := by
      intro a b e
      cases op <;> first | rfl | cases e
    rcases ho with ho | ⟨ho, d0, hk, hd0⟩ | ho | ⟨rfl, k, n, rfl⟩ | rfl | ho | rfl | ⟨ho, hpl⟩
    · rw [G _ _ (by rcases ho with rfl | rfl | rfl <;> rfl), G _ _ (by rcases ho with rfl | rfl | rfl <;> rfl)]
      exact sim_cmp op ho t (h x hx) (h y hy)
    · rw [G _ _ (by rcases ho with rfl | rfl <;> rfl), G _ _ (by rcases ho with rfl | rfl <;> rfl)]
      exact sim_addSub op ho t d0 hk hd0 (h x hx) (h y hy)
    · rw [G _ _ (by rcases ho with rfl | rfl <;> rfl), G _ _ (by rcases ho with rfl | rfl <;> rfl)]
      exact sim_shift op ho t (h x hx) (h y hy)
    · have ha := h x hx
      rw [hf, hg]
      generalize f x = v at ha ⊢
      generalize g x = V at ha ⊢
      have e1 : ∀ v : Value, eqGuard .eql t x (.const (.int k n)) v (.int k n) = pure () := by intro v; cases v <;> rfl
      rw [e1, e1]
      exact sim_eqlInt t k n ha
    · rw [G _ _ rfl, G _ _ rfl]
      exact sim_geq t (h x hx) (h y hy)
    · rw [G _ _ (by rcases ho with rfl | rfl | rfl <;> rfl), G _ _ (by rcases ho with rfl | rfl | rfl <;> rfl)]
      exact sim_mul op ho t (h x hx) (h y hy)
    · rw [G _ _ rfl, G _ _ rfl]
      exact sim_rem t (h x hx) (h y hy)
    · exact Sim.bind (sim_eqGuard op ho hpl x y (h x hx) (h y hy)) fun _ _ _ s1 _ => sim_eql hS op ho hpl ((h x hx).mono s1) ((h y hy).mono s1)
  | unOp op t x =>
    rw [hop] at ho
    obtain ⟨rfl | rfl, hx⟩ := ho
    · exact Sim.v (sim_not (h x hx))
    · exact Sim.v (sim_neg (h x hx))
  | convert src dst x =>
    rw [hop] at ho
    obtain ⟨hx, ho⟩ := ho
    refine Sim.v ?_
    have hv := h x hx
    refine Sim.bind (sim_underlying src) fun R1 a _ s1 q => ?_
    obtain ⟨rfl, ha⟩ := q
    refine Sim.bind (sim_underlying dst) fun R2 b _ s2 q => ?_
    obtain ⟨rfl, hb⟩ := q
    have hv2 := (hv.mono s1).mono s2
    generalize f x = v at hv2 ⊢
    generalize g x = V at hv2 ⊢
    rcases ho with ⟨k, k', h1, h2⟩ | ⟨h1, e, h2, h3⟩ | ⟨h1, e, h2, h3⟩ | ⟨rfl, e, h2, h3⟩
    · rw [h1] at ha; rw [h2] at hb
      cases ha; cases hb
      cases hv2 <;> first | exact Sim.pure (.int _ _) | exact Sim.unsupported _
    · rw [h1] at ha; rw [h2] at hb
      cases ha; cases hb
      cases hv2 <;> first
        | exact Sim.unsupported _
        | skip
      refine Sim.bind (sim_underlying e) fun R3 c _ s3 q => ?_
      obtain ⟨rfl, hc⟩ := q
      rw [h3] at hc
      cases hc
      exact sim_stringToBytes e _
    · rw [h2] at ha; rw [h1] at hb
      cases ha; cases hb
      have K : Sim P Shd (VR P) R2 (do match ← underlying e with | .int .u8 => Conv.bytesToString v | .int .i32 => Conv.runesToString v | _ => stuck "Convert: a slice of what to string?")
          (do match ← underlying e with | .int .u8 => Conv.bytesToString V | .int .i32 => Conv.runesToString V | _ => stuck "Convert: a slice of what to string?") := by
        refine Sim.bind (sim_underlying e) fun R3 c _ s3 q => ?_
        obtain ⟨rfl, hc⟩ := q
        rw [h3] at hc
        cases hc
        exact sim_bytesToString (hv2.mono s3)
      cases hv2 <;> first
        | exact K
        | exact Sim.pure (.string _)
        | (have := @sim_bytesToString P Shd R2; exact Sim.pure (.string _))
        | skip
    · rw [h2] at ha hb
      cases ha; cases hb
      cases hv2 <;> first
        | exact Sim.unsupported _
        | skip
      · refine Sim.bind (sim_underlying e) fun R3 c _ s3 q => ?_
        obtain ⟨rfl, hc⟩ := q
        rw [h3] at hc
        cases hc
        exact sim_stringToBytes e _
      rename_i a A l c ha
      show Sim P Shd (VR P) R2 (underlying e >>= _) (underlying e >>= _)
      refine Sim.bind (sim_underlying e) fun R3 d _ s3 q => ?_
      obtain ⟨rfl, hc⟩ := q
      rw [h3] at hc
      cases hc
      simp only [beq_self_eq_true]
      exact Sim.bind (sim_markStringish hS (ha.mono s3)) fun _ _ _ s4 _ => Sim.pure (.slice _ _ ((ha.mono s3).mono s4))
  | makeInterface t x => rw [hop] at ho; exact Sim.v (sim_makeInterface t ho.1 (h x ho.2))
  | makeFunc fn a b => rw [hop] at ho; exact Sim.v (sim_makeFunc fn ho.1 (VRs.map h ho.2.1) (VRs.map h ho.2.2))
  | slice t x lo hi mx =>
    rw [hop] at ho
    obtain ⟨⟨e, he⟩ | he, hx, h1, h2, h3⟩ := ho
    · exact Sim.v (sim_sliceAt t e he (h x hx) (OV.map h h1) (OV.map h h2) (OV.map h h3))
    · exact Sim.v (sim_sliceString t he (h x hx) (OV.map h h1) (OV.map h h2) (OV.map h h3))
  | index t x i => rw [hop] at ho; exact Sim.v (sim_indexString t ho.1 (h x ho.2.1) (h i ho.2.2))
  | makeSlice t l c =>
    rw [hop] at ho
    obtain ⟨⟨e, he, hel⟩, h1, h2⟩ := ho
    exact Sim.v (sim_makeSlice hZ t e he hel (h l h1) (h c h2))
  | fieldAddr s x i => rw [hop] at ho; exact Sim.v (sim_fieldAt s i ho.1 (h x ho.2))
  | field t x i => rw [hop] at ho; exact Sim.v (sim_field t i (h x ho))
  | indexAddr t x i => rw [hop] at ho; exact Sim.v (sim_indexAt t (h x ho.1) (h i ho.2))
  | extract x i => rw [hop] at ho; exact Sim.v (sim_extract i (h x ho))
  | panic _ => exact Sim.dead (dead_left (dead_panic _))
  | call c =>
    rw [hop] at ho
    obtain ⟨hargs, ho⟩ := ho
    have ha := VRs.map h hargs
    show Sim P Shd (NR P) R (do let d ← resolve f c o.type; invoke d.target d.args) (do let d ← resolve g c o.type; invoke d.target d.args)
    unfold resolve
    cases hc : c.callee with
    | value fv =>
      rw [hc] at ho
      exact sim_callValue (h fv ho) ha
    | invoke r name =>
      rw [hc] at ho
      have hr := (VRs.one (h r ho.1)).append ha
      show Sim P Shd (NR P) R (invoke (.fn (.method name) #[]) (#[f r] ++ c.args.map f)) (invoke (.fn (.method name) #[]) (#[g r] ++ c.args.map g))
      unfold invoke
      dsimp only
      have e1 : ∀ (z : Value) (l : Array Value), (#[z] ++ l)[0]? = some z := by intro z l; simp [Array.getElem?_append]
      simp only [e1]
      have := hr.extract 1 (#[f r] ++ c.args.map f).size
      rw [show (#[g r] ++ c.args.map g).size = (#[f r] ++ c.args.map f).size from hr.1.symm]
      exact sim_callMethod ho.2 (h r ho.1) this
    | builtin b =>
      rw [hc] at ho
      cases b <;> first | exact ho.elim | skip
      · obtain ⟨t, t2, e, e1, e2, e3⟩ := ho
        rw [e1]
        exact Sim.v (sim_append hZ t t2 e o.type e2 e3 ha)
      · obtain ⟨t, e, e1, e2⟩ := ho
        rw [e1]
        exact Sim.v (sim_cap t e o.type e2 ha)
      · obtain ⟨t, t2, e, e1, e2⟩ := ho
        rw [e1]
        exact Sim.v (sim_copy t e t2 o.type e2 ha)
      · obtain ⟨t, e1, e2⟩ := ho
        rw [e1]
        rcases e2 with e2 | ⟨e, e2⟩
        · exact Sim.v (sim_lenString t o.type e2 ha)
        · exact Sim.v (sim_len t e o.type e2 ha)
      · obtain ⟨t, t2, x, y, e1, e2⟩ := ho
        rw [e1, e2]
        have hx := h x (hargs x (by rw [e2]; simp))
        have hy := h y (hargs y (by rw [e2]; simp))
        have m : ∀ k : Operand → Value, (#[x, y] : Array Operand).map k = #[k x, k y] := fun k => by simp
        rw [m, m]
        exact Sim.v (sim_unsafeString hS t t2 o.type hx hy)
  | _ => rw [hop] at ho; exact ho.elim
end Go.Sim
