/-
  Texts of ours, joined: SimZ, SimJ, SimK, SimL, SimM, SimN, ChA.
-/
import Derived.Test.YtlndinigbppafaaSimY
import Derived.Conc.Own
import Derived.Conc.Listed
import Derived.KernelRfl
import Derived.Conc.CrowdComm
/-
  The simulation, further operations: texts and bytes, slices made and copied.
-/
namespace Go.Sim
variable {P : Program} {Shd : Nat → Prop} {R : BR}

theorem sim_neg {v V : Value} (h : VR P R v V) : Sim P Shd (VR P) R (Op.unary .neg v) (Op.unary .neg V) := by
  cases h <;> first | exact Sim.stuck _ | exact Sim.unsupported _ | exact Sim.pure (.int _ _)

theorem sim_bytesLoop : ∀ (l L : List Value) (s : ByteArray) {R : BR}, LR P R l L → Sim P Shd (fun _ a b => a = b) R
    (forIn l s fun c s => do
      let .int .u8 n := c | stuck "bytesToString: byte expected"
      pure (ForInStep.yield (s.push (UInt8.ofNat n.toNat))))
    (forIn L s fun c s => do
      let .int .u8 n := c | stuck "bytesToString: byte expected"
      pure (ForInStep.yield (s.push (UInt8.ofNat n.toNat))))
  | [], [], _, _, _ => Sim.pure rfl
  | [], _ :: _, _, _, h => absurd h.1 (by simp)
  | _ :: _, [], _, _, h => absurd h.1 (by simp)
  | v :: l, V :: L, s, _, h => by
    rw [List.forIn_cons, List.forIn_cons]
    have hv := h.head
    refine Sim.bind (Q := fun _ a b => ∃ s', a = ForInStep.yield s' ∧ b = ForInStep.yield s') ?_ fun R1 a b s1 q => ?_
    · cases hv <;> first | exact Sim.stuck _ | skip
      rename_i k n
      cases k <;> first | exact Sim.stuck _ | exact Sim.pure ⟨_, rfl, rfl⟩
    · obtain ⟨s', rfl, rfl⟩ := q
      exact sim_bytesLoop l L s' (h.tail.mono s1)
theorem sim_bytesToString {v V : Value} (h : VR P R v V) : Sim P Shd (VR P) R (Conv.bytesToString v) (Conv.bytesToString V) := by
  cases h <;> first | exact Sim.stuck _ | exact Sim.pure (.string _) | skip
  rename_i a A l c ha
  unfold Conv.bytesToString
  dsimp only
  refine Sim.bind (sim_loadCells l ha) fun R1 x X s1 q => ?_
  refine Sim.bind (Q := fun _ a b => a = b) ?_ fun R2 s _ s2 q => ?_
  · rw [← Array.forIn_toList, ← Array.forIn_toList]
    exact sim_bytesLoop _ _ _ q.toL
  · subst q
    exact Sim.pure (.string _)

theorem sim_markStringish (hS : ∀ b, ¬ Shd b) {a A : Addr} (h : AR R a A) : Sim P Shd (fun _ _ _ => True) R (markStringish a) (markStringish A) := by
  unfold markStringish
  refine Sim.bind (sim_shape h.1) fun R1 x _ s1 q => ?_
  subst q
  cases x with
  | none => exact Sim.pure trivial
  | some y => exact sim_freeze (a := { block := a.block, off := y.2 }) (A := { block := A.block, off := y.2 }) (s1 _ _ h.1) (hS _) rfl 1

theorem sim_sliceString (t : TypeId) (ht : P.underlying t = some .string) {v V : Value} (h : VR P R v V) {lo hi mx Lo Hi Mx : Option Value} (hl : OV P R lo Lo) (hh : OV P R hi Hi) (hm : OV P R mx Mx) :
    Sim P Shd (VR P) R (Instr.sliceAt t v lo hi mx) (Instr.sliceAt t V Lo Hi Mx) := by
  refine Sim.bind (sim_underlying t) fun R1 a b s1 q => ?_
  obtain ⟨rfl, hu⟩ := q
  rw [ht] at hu
  cases hu
  dsimp only
  refine Sim.bind (sim_underlying t) fun R2 a b s2 q => ?_
  obtain ⟨rfl, hu⟩ := q
  rw [ht] at hu
  cases hu
  have h2 := (h.mono s1).mono s2
  cases h2 <;> first | exact Sim.stuck _ | skip
  rename_i s
  dsimp only
  have hm2 : mx.isSome = Mx.isSome := by
    rcases hm with ⟨rfl, rfl⟩ | ⟨x, X, rfl, rfl, _⟩ <;> rfl
  rw [hm2]
  split
  · exact Sim.dead (dead_left (dead_stuck _))
  · refine Sim.bind (sim_sliceBounds false s.size s.size ((hl.mono s1).mono s2) ((hh.mono s1).mono s2) (.inl ⟨rfl, rfl⟩)) fun R3 x y s3 q => ?_
    subst q
    obtain ⟨l, h, m⟩ := x
    exact Sim.pure (.string _)

theorem sim_indexString (t : TypeId) (ht : P.underlying t = some .string) {v V i I : Value} (h : VR P R v V) (hi : VR P R i I) : Sim P Shd (VR P) R (Instr.index t v i) (Instr.index t V I) := by
  refine Sim.bind (sim_asIntOf hi) fun R1 x _ s1 q => ?_
  subst q
  obtain ⟨k, n⟩ := x
  dsimp only
  refine Sim.bind (sim_underlying t) fun R2 a b s2 q => ?_
  obtain ⟨rfl, hu⟩ := q
  rw [ht] at hu
  cases hu
  have h2 := (h.mono s1).mono s2
  cases h2 <;> first | exact Sim.stuck _ | skip
  dsimp only
  split
  · exact Sim.pure (.int _ _)
  · exact Sim.boundsPanic _ _ _ _

theorem sim_copy (t e t2 ty : TypeId) (ht : P.underlying t = some (.slice e)) {x X : Array Value} (h : VRs P R x X) : Sim P Shd (VR P) R (Builtin.copy_ #[t, t2] ty x) (Builtin.copy_ #[t, t2] ty X) := by
  unfold Builtin.copy_
  cases h0 : x[0]? with
  | none => exact Sim.stuck _
  | some d =>
    obtain ⟨D, hD, hd⟩ := h.get h0
    cases h1 : x[1]? with
    | none => exact Sim.stuck _
    | some y =>
      obtain ⟨Y, hY, hy⟩ := h.get h1
      rw [hD, hY]
      show Sim P Shd (VR P) R (underlying t >>= _) (underlying t >>= _)
      refine Sim.bind (sim_underlying t) fun R1 a b s1 q => ?_
      obtain ⟨rfl, hu⟩ := q
      rw [ht] at hu
      cases hu
      have hd := hd.mono s1
      have hy := hy.mono s1
      have K : ∀ {b B : Option Addr} (l : Nat), ((b = none ∧ B = none) ∨ ∃ x X, b = some x ∧ B = some X ∧ AR R1 x X) → Sim P Shd (VR P) R1
          (do
            let n := Nat.min (← Builtin.lenOf y) l
            let cells ← Builtin.firstCells (← sizeOf e) n y
            if let some a := b then storeCells a cells.toList
            pure (goInt n))
          (do
            let n := Nat.min (← Builtin.lenOf Y) l
            let cells ← Builtin.firstCells (← sizeOf e) n Y
            if let some a := B then storeCells a cells.toList
            pure (goInt n)) := by
        intro b B l hb
        refine Sim.bind (sim_lenOf hy) fun R2 n _ s2 q => ?_
        subst q
        refine Sim.bind (sim_sizeOf e) fun R3 sz _ s3 q => ?_
        subst q
        refine Sim.bind (sim_firstCells sz _ ((hy.mono s2).mono s3)) fun R4 c C s4 q => ?_
        rcases hb with ⟨rfl, rfl⟩ | ⟨x, X, rfl, rfl, hx⟩
        · exact Sim.pure (.int _ _)
        · exact Sim.bind (sim_storeCells _ _ 0 (((hx.mono s2).mono s3).mono s4) q.toL) fun _ _ _ _ _ => Sim.pure (.int _ _)
      cases hd with
      | nilSlice l c => exact K l (.inl ⟨rfl, rfl⟩)
      | slice l c ha => exact K l (.inr ⟨_, _, rfl, rfl, ha⟩)
      | _ => exact Sim.stuck _

theorem sim_makeSlice (hZ : ZeroOK P) (t e : TypeId) (ht : P.underlying t = some (.slice e)) (he : e < P.types.size) {l L c C : Value} (hl : VR P R l L) (hc : VR P R c C) : Sim P Shd (VR P) R (Instr.makeSlice t l c) (Instr.makeSlice t L C) := by
  unfold Instr.makeSlice
  refine Sim.bind (sim_underlying t) fun R1 a b s1 q => ?_
  obtain ⟨rfl, hu⟩ := q
  rw [ht] at hu
  cases hu
  refine Sim.bind (sim_asInt (hl.mono s1)) fun R2 n _ s2 q => ?_
  subst q
  refine Sim.bind (sim_asInt ((hc.mono s1).mono s2)) fun R3 m _ s3 q => ?_
  subst q
  refine Sim.bind (sim_typeInfo e) fun R4 i _ s4 q => ?_
  obtain ⟨rfl, _⟩ := q
  dsimp only
  split
  · split
    · exact Sim.dead (dead_left (dead_runtimePanic _))
    · split
      · exact Sim.dead (dead_left (dead_runtimePanic _))
      · exact Sim.dead (dead_bind (mild_choose _) fun _ => dead_left (dead_runtimePanic _))
  · refine Sim.bind (sim_askRoom _) fun R5 _ _ s5 _ => ?_
    refine Sim.bind (sim_sizeOf e) fun R6 z _ s6 q => ?_
    subst q
    have K : ∀ {R7 : BR} {z Z : Array Value} (k : Nat), VRs P R7 z Z → Sim P Shd (VR P) R7
        (do let a ← newRow e ((Array.range k).map (z[· % z.size]!)); pure (.slice (some a) (IntKind.i64.wrap n).toNat (IntKind.i64.wrap m).toNat))
        (do let a ← newRow e ((Array.range k).map (Z[· % Z.size]!)); pure (.slice (some a) (IntKind.i64.wrap n).toNat (IntKind.i64.wrap m).toNat)) :=
      fun k hz => Sim.bind (sim_newRow e (hz.cyc k)) fun _ _ _ _ q => Sim.pure (.slice _ _ q.1)
    split
    · exact Sim.bind (Q := fun R' a b => VRs P R' a b) (Sim.pure VRs.nil) fun _ _ _ _ q => K _ q
    · exact Sim.bind (sim_zeroValue hZ e he) fun _ _ _ _ q => K _ q.cells

theorem sim_variablesAt {a A : Addr} (h : AR R a A) (u : TypeId) (n : Nat) : Sim P Shd (fun _ a b => a = b) R (variablesAt a u n) (variablesAt A u n) := by
  unfold variablesAt
  refine Sim.bind sim_program fun R1 p p' s1 q => ?_
  obtain ⟨rfl, rfl⟩ := q
  refine Sim.bind (sim_shape (s1 _ _ h.1)) fun R2 x _ s2 q => ?_
  subst q
  rw [h.2.1]
  split
  · exact Sim.pure rfl
  · exact Sim.pure rfl
theorem sim_loadBytes : ∀ (n : Nat) (acc : ByteArray) {R : BR} {a A : Addr}, AR R a A → Sim P Shd (fun _ a b => a = b) R (loadBytes a acc n) (loadBytes A acc n)
  | 0, _, _, _, _, _ => Sim.pure rfl
  | n + 1, acc, _, a, A, h => by
    refine Sim.bind (sim_load h) fun R1 v V s1 q => ?_
    cases q <;> first | exact Sim.stuck _ | skip
    rename_i k m
    cases k <;> first | exact Sim.stuck _ | exact sim_loadBytes n _ ((h.mono s1).add 1)
theorem sim_elemOf (t : TypeId) : Sim P Shd (fun _ a b => a = b) R (elemOf t) (elemOf t) := by
  refine Sim.bind (sim_underlying t) fun R1 a b s1 q => ?_
  obtain ⟨rfl, _⟩ := q
  split
  · exact Sim.pure rfl
  · exact Sim.stuck _

theorem sim_unsafeString (hS : ∀ b, ¬ Shd b) (t t2 ty : TypeId) {p p' n n' : Value} (hp : VR P R p p') (hn : VR P R n n') : Sim P Shd (VR P) R (Builtin.unsafeString_ #[t, t2] ty #[p, n]) (Builtin.unsafeString_ #[t, t2] ty #[p', n']) := by
  cases hp <;> first | exact Sim.stuck _ | skip
  · refine Sim.bind (sim_asInt hn) fun R1 m _ s1 q => ?_
    subst q
    split
    · dsimp only
      split
      · exact Sim.dead (dead_left (dead_runtimePanic _))
      · split
        · exact Sim.dead (dead_left (dead_unsupported _))
        · split
          · exact Sim.pure (.string _)
          · exact Sim.runtimePanic _
    · exact Sim.stuck _
  · rename_i a A ha
    refine Sim.bind (sim_asInt hn) fun R1 m _ s1 q => ?_
    subst q
    split
    · dsimp only
      split
      · exact Sim.dead (dead_left (dead_runtimePanic _))
      split
      · exact Sim.dead (dead_left (dead_unsupported _))
      · split
        · exact Sim.pure (.string _)
        · refine Sim.bind (sim_elemOf _) fun R2 e _ s2 q => ?_
          subst q
          have ha2 := (ha.mono s1).mono s2
          refine Sim.bind (sim_variablesAt ha2 e _) fun R3 x _ s3 q => ?_
          subst q
          split
          · refine Sim.bind (sim_loadBytes _ _ (ha2.mono s3)) fun R4 b _ s4 q => ?_
            subst q
            exact Sim.bind (sim_freeze (s4 _ _ (s3 _ _ ha2.1)) (hS _) ha2.2.1 _) fun _ _ _ _ _ => Sim.pure (.string _)
          · exact Sim.unsupported _
    · exact Sim.stuck _
end Go.Sim

/-
  The simulation of a whole operation: which operations are borne, and the law.
-/
namespace Go.Sim
variable {P : Program} {Shd : Nat → Prop} {R : BR}

def OperandOK (P : Program) : Operand → Prop
  | .tmp _ => True
  | .const v => ∀ R, VR P R v v
  | .global _ => False
  | .func f => BodyOK P f

/-- The operations that are borne. -/
def OpOK (P : Program) : Op → Prop
  | .move x | .assign x => OperandOK P x
  | .pick c a b => OperandOK P c ∧ OperandOK P a ∧ OperandOK P b
  | .alloc t => t < P.types.size
  | .box _ x => OperandOK P x
  | .build t parts => t < P.types.size ∧ (∃ fs, P.underlying t = some (.struct fs)) ∧ ∀ p ∈ parts, OperandOK P p.2
  | .buildSlice t _ parts => (∀ e, P.underlying t = some (.slice e) → e < P.types.size) ∧ ∀ p ∈ parts, OperandOK P p.2
  | .load _ a => OperandOK P a
  | .store _ a x => OperandOK P a ∧ OperandOK P x
  | .nilCheck x => OperandOK P x
  | .binOp op t x y _ => OperandOK P x ∧ OperandOK P y ∧
      ((op = .lss ∨ op = .leq ∨ op = .gtr) ∨ ((op = .add ∨ op = .sub) ∧ ∃ d0, P.underlying t = some d0 ∧ ((∃ k, d0 = .int k) ∨ d0 = .string)) ∨ (op = .shl ∨ op = .shr) ∨ (op = .eql ∧ ∃ k n, y = .const (.int k n)) ∨ op = .geq ∨ (op = .mul ∨ op = .quo ∨ op = .or) ∨ op = .rem ∨ ((op = .eql ∨ op = .neq) ∧ Plain P t))
  | .unOp op _ x => (op = .not ∨ op = .neg) ∧ OperandOK P x
  | .convert src dst x => OperandOK P x ∧ ((∃ k k', P.underlying src = some (.int k) ∧ P.underlying dst = some (.int k')) ∨ (P.underlying src = some .string ∧ ∃ e, P.underlying dst = some (.slice e) ∧ P.underlying e = some (.int .u8)) ∨ (P.underlying dst = some .string ∧ ∃ e, P.underlying src = some (.slice e) ∧ P.underlying e = some (.int .u8)) ∨ (src = dst ∧ ∃ e, P.underlying dst = some (.slice e) ∧ P.underlying e = some (.int .u8)))
  | .makeInterface t x => t < P.types.size ∧ OperandOK P x
  | .makeFunc f a b => FnOK P f ∧ (∀ x ∈ a, OperandOK P x) ∧ ∀ x ∈ b, OperandOK P x
  | .slice t x lo hi mx => ((∃ e, P.underlying t = some (.slice e)) ∨ P.underlying t = some .string) ∧ OperandOK P x ∧ (∀ y ∈ lo, OperandOK P y) ∧ (∀ y ∈ hi, OperandOK P y) ∧ ∀ y ∈ mx, OperandOK P y
  | .fieldAddr s x f => FieldOK P s f ∧ OperandOK P x
  | .field _ x _ => OperandOK P x
  | .indexAddr _ x i => OperandOK P x ∧ OperandOK P i
  | .index t x i => P.underlying t = some .string ∧ OperandOK P x ∧ OperandOK P i
  | .makeSlice t l c => (∃ e, P.underlying t = some (.slice e) ∧ e < P.types.size) ∧ OperandOK P l ∧ OperandOK P c
  | .extract x _ => OperandOK P x
  | .panic _ => True
  | .call c => (∀ x ∈ c.args, OperandOK P x) ∧ match c.callee with
    | .builtin .len => ∃ t, c.argTypes = #[t] ∧ (P.underlying t = some .string ∨ ∃ e, P.underlying t = some (.slice e))
    | .builtin .cap => ∃ t e, c.argTypes = #[t] ∧ P.underlying t = some (.slice e)
    | .builtin .append => ∃ t t2 e, c.argTypes = #[t, t2] ∧ P.underlying t = some (.slice e) ∧ e < P.types.size
    | .builtin .copy => ∃ t t2 e, c.argTypes = #[t, t2] ∧ P.underlying t = some (.slice e)
    | .builtin .unsafeString => ∃ t t2 x y, c.argTypes = #[t, t2] ∧ c.args = #[x, y]
    | .builtin _ => False
    | .value f => OperandOK P f
    | .invoke r name => OperandOK P r ∧ MethOK P name
  | _ => False

theorem dead_panic (x : Value) : Dead P (Instr.panic x) := by
  unfold Instr.panic
  split
  · exact dead_goPanic _
  · refine dead_bind ?_ fun i => ?_
    · refine Mild.bind (fun w h w' e => (by cases e)) fun r => ?_
      split
      · exact Mild.bind mild_program fun _ => Mild.pure _
      · exact (dead_stuck _).mild
    split
    · exact dead_goPanic _
    · exact dead_runtimePanic _
  · exact dead_stuck _

theorem VRs.map {f g : Operand → Value} (h : ∀ x, OperandOK P x → VR P R (f x) (g x)) {l : Array Operand} (hl : ∀ x ∈ l, OperandOK P x) : VRs P R (l.map f) (l.map g) := by
  refine ⟨by simp, fun i v V h1 h2 => ?_⟩
  simp only [Array.getElem?_map, Option.map_eq_some_iff] at h1 h2
  obtain ⟨a, e1, rfl⟩ := h1
  obtain ⟨b, e2, rfl⟩ := h2
  rw [e1] at e2
  cases e2
  exact h _ (hl _ (Array.mem_of_getElem? e1))
theorem OV.map {f g : Operand → Value} (h : ∀ x, OperandOK P x → VR P R (f x) (g x)) {l : Option Operand} (hl : ∀ x ∈ l, OperandOK P x) : OV P R (l.map f) (l.map g) := by
  cases l with
  | none => exact .inl ⟨rfl, rfl⟩
  | some x => exact .inr ⟨_, _, rfl, rfl, h _ (hl _ rfl)⟩
theorem PR.map {f g : Operand → Value} (h : ∀ x, OperandOK P x → VR P R (f x) (g x)) : ∀ {l : List (Nat × Operand)}, (∀ p ∈ l, OperandOK P p.2) → PR P R (l.map fun p => (p.1, f p.2)) (l.map fun p => (p.1, g p.2))
  | [], _ => trivial
  | (_, _) :: _, hl => ⟨rfl, h _ (hl _ (List.mem_cons_self ..)), PR.map h fun p hp => hl p (List.mem_cons_of_mem _ hp)⟩

theorem sim_execOp (hS : ∀ b, ¬ Shd b) (hZ : ZeroOK P) {f g : Operand → Value} (h : ∀ x, OperandOK P x → VR P R (f x) (g x)) (hf : ∀ v, f (.const v) = v) (hg : ∀ v, g (.const v) = v) (o : Oper) (ho : OpOK P o.op) :
    Sim P Shd (NR P) R (execOp f o) (execOp g o) := by
  unfold execOp
  cases hop : o.op with
  | move x => rw [hop] at ho; exact Sim.pure (.value (h x ho))
  | assign x => rw [hop] at ho; exact Sim.pure (.value (h x ho))
  | pick c a b =>
    rw [hop] at ho
    refine Sim.bind (sim_asBool (h c ho.1)) fun R1 x _ s1 q => ?_
    subst q
    cases x
    · exact Sim.pure (.value ((h b ho.2.2).mono s1))
    · exact Sim.pure (.value ((h a ho.2.1).mono s1))
  | alloc t => rw [hop] at ho; exact Sim.v (sim_alloc hZ t ho)
  | box t x => rw [hop] at ho; exact Sim.v (sim_box t (h x ho))
  | build t parts =>
    rw [hop] at ho
    obtain ⟨hl, ⟨fs, hfs⟩, hp⟩ := ho
    refine Sim.v (sim_build hZ t fs hfs hl ?_)
    simp only [Array.toList_map]
    exact PR.map h fun p hp' => hp p (by simpa using hp')
  | buildSlice t n parts =>
    rw [hop] at ho
    refine Sim.v (sim_buildSlice hZ t ho.1 n ?_)
    simp only [Array.toList_map]
    exact PR.map h fun p hp' => ho.2 p (by simpa using hp')
  | load t a => rw [hop] at ho; exact Sim.v (sim_loadAt t (h a ho))
  | store t a x => rw [hop] at ho; exact Sim.u (sim_storeAt t (h a ho.1) (h x ho.2))
  | nilCheck x =>
    rw [hop] at ho
    have hx := h x ho
    dsimp only
    generalize f x = v at hx ⊢
    generalize g x = V at hx ⊢
    cases hx with
    | nilPtr => exact Sim.dead (dead_runtimePanic .nilDeref)
    | nilIface => exact Sim.dead (dead_runtimePanic .nilDeref)
    | nilFunc => exact Sim.dead (dead_runtimePanic .nilDeref)
    | func fn hf h1 h2 h3 h4 =>
      rename_i a A b B
      have hv : VR P R (.func fn a b) (.func fn A B) := .func fn hf h1 h2 h3 h4
      cases fn with
      | method name =>
        cases he : a[0]? with
        | none =>
          have : A[0]? = none := by
            rw [Array.getElem?_eq_none_iff] at he ⊢
            omega
          simp only [he, this]
          exact Sim.pure (.value hv)
        | some r =>
          obtain ⟨r', e', hr⟩ := VRs.get ⟨h1, h2⟩ he
          simp only [he, e']
          cases hr with
          | nilIface => exact Sim.dead (dead_runtimePanic .nilDeref)
          | iface t htl hr =>
            refine Sim.bind sim_program fun R1 p p' s1 q => ?_
            obtain ⟨rfl, rfl⟩ := q
            refine Sim.bind (sim_nilAhead hf _ t htl (hr.mono s1)) fun R2 y _ s2 q => ?_
            subst q
            split
            · exact Sim.dead (dead_left (dead_unsupported _))
            · exact Sim.pure (.value ((hv.mono s1).mono s2))
          | _ => exact Sim.pure (.value hv)
      | func _ => exact Sim.pure (.value hv)
      | _ => exact hf.elim
    | bool b => exact Sim.pure (.value (.bool b))
    | int k n => exact Sim.pure (.value (.int k n))
    | string s => exact Sim.pure (.value (.string s))
    | ptr ha => exact Sim.pure (.value (.ptr ha))
    | nilSlice l c => exact Sim.pure (.value (.nilSlice l c))
    | slice l c ha => exact Sim.pure (.value (.slice l c ha))
    | nilMap => exact Sim.pure (.value .nilMap)
    | nilChan => exact Sim.pure (.value .nilChan)
    | iface t htl hv => exact Sim.pure (.value (.iface t htl hv))
    | agg h1 h2 => exact Sim.pure (.value (.agg h1 h2))
    | tuple h1 h2 => exact Sim.pure (.value (.tuple h1 h2))
  | binOp op t x y ty =>
    rw [hop] at ho
    obtain ⟨hx, hy, ho⟩ := ho
    refine Sim.v ?_
    have G : ∀ (a b : Value), (op matches .eql | .neq) = false → eqGuard op t x y a b = pure () := by
      intro a b e
      cases op <;> first | rfl | cases e
    rcases ho with ho | ⟨ho, d0, hk, hd0⟩ | ho | ⟨rfl, k, n, rfl⟩ | rfl | ho | rfl | ⟨ho, hpl⟩
    · rw [G _ _ (by rcases ho with rfl | rfl | rfl <;> rfl), G _ _ (by rcases ho with rfl | rfl | rfl <;> rfl)]
      exact sim_cmp op ho t (h x hx) (h y hy)
    · rw [G _ _ (by rcases ho with rfl | rfl <;> rfl), G _ _ (by rcases ho with rfl | rfl <;> rfl)]
      exact sim_addSub op ho t d0 hk hd0 (h x hx) (h y hy)
    · rw [G _ _ (by rcases ho with rfl | rfl <;> rfl), G _ _ (by rcases ho with rfl | rfl <;> rfl)]
      exact sim_shift op ho t (h x hx) (h y hy)
    · have ha := h x hx
      rw [hf, hg]
      generalize f x = v at ha ⊢
      generalize g x = V at ha ⊢
      have e1 : ∀ v : Value, eqGuard .eql t x (.const (.int k n)) v (.int k n) = pure () := by intro v; cases v <;> rfl
      rw [e1, e1]
      exact sim_eqlInt t k n ha
    · rw [G _ _ rfl, G _ _ rfl]
      exact sim_geq t (h x hx) (h y hy)
    · rw [G _ _ (by rcases ho with rfl | rfl | rfl <;> rfl), G _ _ (by rcases ho with rfl | rfl | rfl <;> rfl)]
      exact sim_mul op ho t (h x hx) (h y hy)
    · rw [G _ _ rfl, G _ _ rfl]
      exact sim_rem t (h x hx) (h y hy)
    · exact Sim.bind (sim_eqGuard op ho hpl x y (h x hx) (h y hy)) fun _ _ _ s1 _ => sim_eql hS op ho hpl ((h x hx).mono s1) ((h y hy).mono s1)
  | unOp op t x =>
    rw [hop] at ho
    obtain ⟨rfl | rfl, hx⟩ := ho
    · exact Sim.v (sim_not (h x hx))
    · exact Sim.v (sim_neg (h x hx))
  | convert src dst x =>
    rw [hop] at ho
    obtain ⟨hx, ho⟩ := ho
    refine Sim.v ?_
    have hv := h x hx
    refine Sim.bind (sim_underlying src) fun R1 a _ s1 q => ?_
    obtain ⟨rfl, ha⟩ := q
    refine Sim.bind (sim_underlying dst) fun R2 b _ s2 q => ?_
    obtain ⟨rfl, hb⟩ := q
    have hv2 := (hv.mono s1).mono s2
    generalize f x = v at hv2 ⊢
    generalize g x = V at hv2 ⊢
    rcases ho with ⟨k, k', h1, h2⟩ | ⟨h1, e, h2, h3⟩ | ⟨h1, e, h2, h3⟩ | ⟨rfl, e, h2, h3⟩
    · rw [h1] at ha; rw [h2] at hb
      cases ha; cases hb
      cases hv2 <;> first | exact Sim.pure (.int _ _) | exact Sim.unsupported _
    · rw [h1] at ha; rw [h2] at hb
      cases ha; cases hb
      cases hv2 <;> first
        | exact Sim.unsupported _
        | skip
      refine Sim.bind (sim_underlying e) fun R3 c _ s3 q => ?_
      obtain ⟨rfl, hc⟩ := q
      rw [h3] at hc
      cases hc
      exact sim_stringToBytes e _
    · rw [h2] at ha; rw [h1] at hb
      cases ha; cases hb
      have K : Sim P Shd (VR P) R2 (do match ← underlying e with | .int .u8 => Conv.bytesToString v | .int .i32 => Conv.runesToString v | _ => stuck "Convert: a slice of what to string?")
          (do match ← underlying e with | .int .u8 => Conv.bytesToString V | .int .i32 => Conv.runesToString V | _ => stuck "Convert: a slice of what to string?") := by
        refine Sim.bind (sim_underlying e) fun R3 c _ s3 q => ?_
        obtain ⟨rfl, hc⟩ := q
        rw [h3] at hc
        cases hc
        exact sim_bytesToString (hv2.mono s3)
      cases hv2 <;> first
        | exact K
        | exact Sim.pure (.string _)
        | (have := @sim_bytesToString P Shd R2; exact Sim.pure (.string _))
        | skip
    · rw [h2] at ha hb
      cases ha; cases hb
      cases hv2 <;> first
        | exact Sim.unsupported _
        | skip
      · refine Sim.bind (sim_underlying e) fun R3 c _ s3 q => ?_
        obtain ⟨rfl, hc⟩ := q
        rw [h3] at hc
        cases hc
        exact sim_stringToBytes e _
      rename_i a A l c ha
      show Sim P Shd (VR P) R2 (underlying e >>= _) (underlying e >>= _)
      refine Sim.bind (sim_underlying e) fun R3 d _ s3 q => ?_
      obtain ⟨rfl, hc⟩ := q
      rw [h3] at hc
      cases hc
      simp only [beq_self_eq_true]
      exact Sim.bind (sim_markStringish hS (ha.mono s3)) fun _ _ _ s4 _ => Sim.pure (.slice _ _ ((ha.mono s3).mono s4))
  | makeInterface t x => rw [hop] at ho; exact Sim.v (sim_makeInterface t ho.1 (h x ho.2))
  | makeFunc fn a b => rw [hop] at ho; exact Sim.v (sim_makeFunc fn ho.1 (VRs.map h ho.2.1) (VRs.map h ho.2.2))
  | slice t x lo hi mx =>
    rw [hop] at ho
    obtain ⟨⟨e, he⟩ | he, hx, h1, h2, h3⟩ := ho
    · exact Sim.v (sim_sliceAt t e he (h x hx) (OV.map h h1) (OV.map h h2) (OV.map h h3))
    · exact Sim.v (sim_sliceString t he (h x hx) (OV.map h h1) (OV.map h h2) (OV.map h h3))
  | index t x i => rw [hop] at ho; exact Sim.v (sim_indexString t ho.1 (h x ho.2.1) (h i ho.2.2))
  | makeSlice t l c =>
    rw [hop] at ho
    obtain ⟨⟨e, he, hel⟩, h1, h2⟩ := ho
    exact Sim.v (sim_makeSlice hZ t e he hel (h l h1) (h c h2))
  | fieldAddr s x i => rw [hop] at ho; exact Sim.v (sim_fieldAt s i ho.1 (h x ho.2))
  | field t x i => rw [hop] at ho; exact Sim.v (sim_field t i (h x ho))
  | indexAddr t x i => rw [hop] at ho; exact Sim.v (sim_indexAt t (h x ho.1) (h i ho.2))
  | extract x i => rw [hop] at ho; exact Sim.v (sim_extract i (h x ho))
  | panic _ => exact Sim.dead (dead_left (dead_panic _))
  | call c =>
    rw [hop] at ho
    obtain ⟨hargs, ho⟩ := ho
    have ha := VRs.map h hargs
    show Sim P Shd (NR P) R (do let d ← resolve f c o.type; invoke d.target d.args) (do let d ← resolve g c o.type; invoke d.target d.args)
    unfold resolve
    cases hc : c.callee with
    | value fv =>
      rw [hc] at ho
      exact sim_callValue (h fv ho) ha
    | invoke r name =>
      rw [hc] at ho
      have hr := (VRs.one (h r ho.1)).append ha
      show Sim P Shd (NR P) R (invoke (.fn (.method name) #[]) (#[f r] ++ c.args.map f)) (invoke (.fn (.method name) #[]) (#[g r] ++ c.args.map g))
      unfold invoke
      dsimp only
      have e1 : ∀ (z : Value) (l : Array Value), (#[z] ++ l)[0]? = some z := by intro z l; simp [Array.getElem?_append]
      simp only [e1]
      have := hr.extract 1 (#[f r] ++ c.args.map f).size
      rw [show (#[g r] ++ c.args.map g).size = (#[f r] ++ c.args.map f).size from hr.1.symm]
      exact sim_callMethod ho.2 (h r ho.1) this
    | builtin b =>
      rw [hc] at ho
      cases b <;> first | exact ho.elim | skip
      · obtain ⟨t, t2, e, e1, e2, e3⟩ := ho
        rw [e1]
        exact Sim.v (sim_append hZ t t2 e o.type e2 e3 ha)
      · obtain ⟨t, e, e1, e2⟩ := ho
        rw [e1]
        exact Sim.v (sim_cap t e o.type e2 ha)
      · obtain ⟨t, t2, e, e1, e2⟩ := ho
        rw [e1]
        exact Sim.v (sim_copy t e t2 o.type e2 ha)
      · obtain ⟨t, e1, e2⟩ := ho
        rw [e1]
        rcases e2 with e2 | ⟨e, e2⟩
        · exact Sim.v (sim_lenString t o.type e2 ha)
        · exact Sim.v (sim_len t e o.type e2 ha)
      · obtain ⟨t, t2, x, y, e1, e2⟩ := ho
        rw [e1, e2]
        have hx := h x (hargs x (by rw [e2]; simp))
        have hy := h y (hargs y (by rw [e2]; simp))
        have m : ∀ k : Operand → Value, (#[x, y] : Array Operand).map k = #[k x, k y] := fun k => by simp
        rw [m, m]
        exact Sim.v (sim_unsafeString hS t t2 o.type hx hy)
  | _ => rw [hop] at ho; exact ho.elim
end Go.Sim

/-
  The simulation of a goroutine's own step.
-/
namespace Go.Sim
variable {P : Program} {Shd : Nat → Prop} {R : BR}

def CodeOK (P : Program) : Code → Prop
  | .region _ ops _ => ∀ o ∈ ops, OpOK P o.op
  | .seq a b => CodeOK P a ∧ CodeOK P b
  | .cond c a b => OperandOK P c ∧ CodeOK P a ∧ CodeOK P b
  | .block _ c | .loop c | .scope c => CodeOK P c
  | .exit _ | .ret | .skip | .label _ => True
  | _ => False
def ItemOK (P : Program) : Item → Prop
  | .code c => CodeOK P c
  | .inLoop c => CodeOK P c
  | .inBlock _ | .inScope _ => True
  | .inRegion ops _ => ∀ o ∈ ops, OpOK P o.op
  | _ => False

structure FR (P : Program) (R : BR) (fr Fr : Frame) : Prop where
  fn : fr.fn = Fr.fn
  tmps : VRs P R fr.tmps Fr.tmps
  todo : fr.todo = Fr.todo
  items : ∀ it ∈ fr.todo, ItemOK P it
  defers : fr.defers = []
  defers' : Fr.defers = []
  mode : fr.mode = Fr.mode
  modes : fr.mode = .run ∨ fr.mode = .returning
  kind : fr.kind = .normal
  kind' : Fr.kind = .normal
  round : fr.roundOf = none
  round' : Fr.roundOf = none
  func : ∃ f, P.funcs[fr.fn]? = some f

theorem FR.mono {R R' : BR} (h : ∀ b B, R b B → R' b B) {fr Fr : Frame} (k : FR P R fr Fr) : FR P R' fr Fr := { k with tmps := k.tmps.mono h }

def FRs (P : Program) (R : BR) : List Frame → List Frame → Prop
  | [], [] => True
  | a :: l, b :: m => FR P R a b ∧ a.mode = .run ∧ FRs P R l m
  | _, _ => False
theorem FRs.mono {R R' : BR} (h : ∀ b B, R b B → R' b B) : ∀ {l L : List Frame}, FRs P R l L → FRs P R' l L
  | [], [], _ => trivial
  | [], _ :: _, k => k.elim
  | _ :: _, [], k => k.elim
  | _ :: _, _ :: _, k => ⟨k.1.mono h, k.2.1, FRs.mono h k.2.2⟩

theorem VR.undef : VR P R Go.undef Go.undef := .tuple rfl fun i v V h => by simp at h

/-- The same frame with other things to do. -/
theorem FR.at {fr Fr : Frame} (h : FR P R fr Fr) (l : List Item) (hl : ∀ it ∈ l, ItemOK P it) : FR P R { fr with todo := l } { Fr with todo := l } :=
  { fn := h.fn, tmps := h.tmps, todo := rfl, items := hl, defers := h.defers, defers' := h.defers', mode := h.mode, modes := h.modes, kind := h.kind, kind' := h.kind', round := h.round, round' := h.round', func := h.func }
theorem FR.ret {fr Fr : Frame} (h : FR P R fr Fr) : FR P R { fr with mode := .returning } { Fr with mode := .returning } :=
  { fn := h.fn, tmps := h.tmps, todo := h.todo, items := h.items, defers := h.defers, defers' := h.defers', mode := rfl, modes := .inr rfl, kind := h.kind, kind' := h.kind', round := h.round, round' := h.round', func := h.func }

theorem FR.finish {fr Fr : Frame} (h : FR P R fr Fr) {v V : Value} (hv : VR P R v V) : FR P R (fr.finish v) (Fr.finish V) := by
  have ht := h.todo
  have hi := h.items
  unfold Frame.finish
  rw [← ht]
  cases hd : fr.todo with
  | nil => exact h
  | cons it k =>
    rw [hd] at hi
    have h0 := hi it (List.mem_cons_self ..)
    cases it with
    | inRegion ops todo =>
      cases todo with
      | nil => exact h
      | cons i rest =>
        refine { fn := h.fn, tmps := ?_, todo := rfl, items := ?_, defers := h.defers, defers' := h.defers', mode := h.mode, modes := h.modes, kind := h.kind, kind' := h.kind', round := h.round, round' := h.round', func := h.func }
        · dsimp only
          split
          · exact h.tmps.set _ hv
          · exact h.tmps
        · intro x hx
          rcases List.mem_cons.1 hx with rfl | hx
          · exact h0
          · exact hi x (List.mem_cons_of_mem _ hx)
    | code _ => exact h
    | inBlock _ => exact h
    | inLoop _ => exact h
    | inScope _ => exact h
    | _ => exact h0.elim

theorem FR.eval {fr Fr : Frame} (h : FR P R fr Fr) (x : Operand) (hx : OperandOK P x) : VR P R (fr.eval x) (Fr.eval x) := by
  cases x with
  | tmp t => exact h.tmps.getD t VR.undef
  | const v => exact hx R
  | global g => exact hx.elim
  | func f => exact .func (.func f) hx rfl (fun i v V h => by simp at h) rfl (fun i v V h => by simp at h)

theorem exitTo_mem : ∀ {id : Nat} {k k' : List Item}, exitTo id k = some k' → ∀ it ∈ k', it ∈ k
  | _, [], _, h, _, _ => by simp [exitTo] at h
  | id, x :: k, k', h, it, hit => by
    cases x with
    | inBlock i =>
      simp only [exitTo] at h
      split at h
      · cases h; exact List.mem_cons_of_mem _ hit
      · exact List.mem_cons_of_mem _ (exitTo_mem h it hit)
    | _ => simp only [exitTo] at h; exact List.mem_cons_of_mem _ (exitTo_mem h it hit)

/-- The bodies of the functions that are met. -/
def BodiesOK (P : Program) : Prop := ∀ (f : FuncId) (fn : Func) (c : Code), P.funcs[f]? = some fn → fn.name ∈ names → fn.body = some c → CodeOK P c

theorem FR.enter (hB : BodiesOK P) {f : FuncId} (hf : BodyOK P f) {x X : Array Value} (h : VRs P R x X) : FR P R (Frame.enter P f x .normal) (Frame.enter P f X .normal) := by
  obtain ⟨fn, h1, h2, h3⟩ := hf
  cases hb : fn.body with
  | none => rw [hb] at h2; cases h2
  | some c =>
    have b1 := hB f fn c h1 h3 hb
    refine { fn := rfl, tmps := ?_, todo := rfl, items := ?_, defers := rfl, defers' := rfl, mode := rfl, modes := .inl rfl, kind := rfl, kind' := rfl, round := rfl, round' := rfl, func := ⟨fn, h1⟩ }
    · simp only [Frame.enter]
      rw [← h.1]
      exact h.append (VRs.rep _ VR.undef)
    · intro it hit
      simp only [Frame.enter, h1, Option.bind_some, hb, Option.getD_some, List.mem_singleton] at hit
      subst hit
      exact b1
end Go.Sim

/-
  The simulation of a goroutine's own step: the law.
-/
namespace Go.Sim
open Go.Conc (G)
variable {P : Program} {Shd : Nat → Prop} {R : BR}

/-- What a step comes to, in the lone world and in the other. -/
def StepTo (P : Program) (Shd : Nat → Prop) (R : BR) (c0 : Frame) (K : List Frame) (w W : World) (s S : GStep) (t : (Nat → Question → Nat) → GStep) : Prop :=
  ∃ fr' cs' w', s.bare = .go (G fr' (cs' ++ [c0])) w' ∧ ∃ R' Fr' Cs' W' Es, S = .go (G Fr' (Cs' ++ K)) W' Es ∧ FR P R' fr' Fr' ∧ FRs P R' cs' Cs' ∧ WR P Shd R' w' W' ∧ EX Shd R R' w W w' W' ∧ (∀ e ∈ Es, EvOK Shd R' e) ∧
    ∀ τ, (∀ j q, w.drawn ≤ j → j < w'.drawn → τ j q = w.tape j q) → (t τ).bare = .go (G fr' (cs' ++ [c0])) (w'.tp τ)
def Fails (P : Program) (c0 : Frame) (cs : List Frame) (s : GStep) : Prop :=
  (∃ fr' w', s.bare = .go (G fr' (cs ++ [c0])) w' ∧ (∃ ch, fr'.mode = .panicking ch) ∧ fr'.defers = [] ∧ ∃ f, P.funcs[fr'.fn]? = some f) ∨ ∃ o w', s.bare = .ended o w'

theorem yielded_eq {ops : Array Oper} {t T : Array Value} (h : VRs P R t T) : yielded ops t = yielded ops T := by
  funext j
  unfold yielded
  cases hd : (ops[j]?).bind (·.dst) with
  | none => rfl
  | some d =>
    simp only [Option.bind_some]
    cases ht : t[d]? with
    | none =>
      have : T[d]? = none := by
        have := h.1
        rw [Array.getElem?_eq_none_iff] at ht ⊢
        omega
      rw [this]
    | some v =>
      obtain ⟨V, hV, hv⟩ := h.get ht
      rw [hV]
      cases hv <;> rfl

/-- What a result's place holds. -/
def rdv (t : Array Value) : ResultVar → Sem Value
  | .tmp x => pure (t.getD x Go.undef)
  | .cell a ty => do loadVar ty (← asAddr (t.getD a Go.undef))
theorem results_eq (fn : Func) (t : Array Value) : results fn t = (fn.results.mapM (rdv t) >>= fun vs => pure (if h : vs.size = 1 then vs[0] else .tuple vs)) := by
  unfold results
  congr 1

theorem results_run {fn : Func} (hr : ∀ r ∈ fn.results, ∃ t, r = .tmp t) {t T : Array Value} (h : VRs P R t T) :
    ∃ v V, VR P R v V ∧ results fn t = pure v ∧ results fn T = pure V := by
  have K : ∀ (l : List ResultVar), (∀ r ∈ l, ∃ t, r = .tmp t) → ∃ vs Vs : List Value, VRs P R vs.toArray Vs.toArray ∧
      l.mapM (rdv t) = pure vs ∧ l.mapM (rdv T) = pure Vs := by
    intro l
    induction l with
    | nil => exact fun _ => ⟨[], [], VRs.nil, rfl, rfl⟩
    | cons r l ih =>
      intro hl
      obtain ⟨x, rfl⟩ := hl r (List.mem_cons_self ..)
      obtain ⟨vs, Vs, h1, h2, h3⟩ := ih fun r hr => hl r (List.mem_cons_of_mem _ hr)
      refine ⟨t.getD x Go.undef :: vs, T.getD x Go.undef :: Vs, ?_, ?_, ?_⟩
      · have := (VRs.one (h.getD x VR.undef)).append h1
        simpa using this
      · rw [List.mapM_cons, h2]; rfl
      · rw [List.mapM_cons, h3]; rfl
  obtain ⟨vs, Vs, h1, h2, h3⟩ := K fn.results.toList (fun r hr' => hr r (by simpa using hr'))
  have e1 := h1.1
  simp only [List.size_toArray] at e1
  refine ⟨if h : vs.toArray.size = 1 then vs.toArray[0] else .tuple vs.toArray, if h : Vs.toArray.size = 1 then Vs.toArray[0] else .tuple Vs.toArray, ?_, ?_, ?_⟩
  · by_cases hs : vs.length = 1
    · rw [dif_pos (by simpa using hs), dif_pos (by simpa using e1 ▸ hs)]
      exact h1.2 0 _ _ (by simp [hs]) (by simp [e1 ▸ hs])
    · rw [dif_neg (by simpa using hs), dif_neg (by simpa [← e1] using hs)]
      exact .tuple h1.1 h1.2
  · rw [results_eq, Array.mapM_eq_mapM_toList, h2]
    rfl
  · rw [results_eq, Array.mapM_eq_mapM_toList, h3]
    rfl

theorem sim_rdv {t T : Array Value} (h : VRs P R t T) (r : ResultVar) : Sim P Shd (VR P) R (rdv t r) (rdv T r) := by
  cases r with
  | tmp x => exact Sim.pure (h.getD x VR.undef)
  | cell a ty => exact Sim.bind (sim_asAddr (h.getD a VR.undef)) fun _ _ _ _ q => sim_loadVar ty q
theorem sim_rdvs {t T : Array Value} : ∀ (l : List ResultVar) {R : BR}, VRs P R t T → Sim P Shd (LR P) R (l.mapM (rdv t)) (l.mapM (rdv T))
  | [], _, _ => Sim.pure ⟨rfl, fun i v V h => by simp at h⟩
  | r :: l, R, h => by
    rw [List.mapM_cons, List.mapM_cons]
    refine Sim.bind (sim_rdv h r) fun R1 v V s1 q => Sim.bind (sim_rdvs l (h.mono s1)) fun R2 x X s2 q2 => Sim.pure ⟨by simp [q2.1], fun i a A h1 h2 => ?_⟩
    cases i with
    | zero => simp at h1 h2; subst h1; subst h2; exact q.mono s2
    | succ i => exact q2.2 i a A (by simpa using h1) (by simpa using h2)
theorem sim_results (fn : Func) {t T : Array Value} (h : VRs P R t T) : Sim P Shd (VR P) R (results fn t) (results fn T) := by
  rw [results_eq, results_eq, Array.mapM_eq_mapM_toList, Array.mapM_eq_mapM_toList]
  refine Sim.bind (Q := fun R' a b => VRs P R' a b) ?_ fun R2 a b s2 q => Sim.pure ?_
  · exact Sim.bind (sim_rdvs _ h) fun _ _ _ _ q => Sim.pure ⟨by simpa using q.1, fun i v V h1 h2 => q.2 i v V (by simpa using h1) (by simpa using h2)⟩
  · by_cases hs : a.size = 1
    · have hS : b.size = 1 := q.1 ▸ hs
      rw [dif_pos hs, dif_pos hS]
      exact q.2 0 _ _ (Array.getElem?_eq_getElem (by omega)) (Array.getElem?_eq_getElem (by omega))
    · rw [dif_neg hs, dif_neg (fun x => hs (q.1 ▸ x))]
      exact .tuple q.1 q.2

theorem cons_ok {a : Item} {k : List Item} (h : ItemOK P a) (hk : ∀ x ∈ k, ItemOK P x) : ∀ x ∈ a :: k, ItemOK P x := by
  intro x hx
  rcases List.mem_cons.1 hx with rfl | hx
  · exact h
  · exact hk x hx

theorem step_sim (hS : ∀ b, ¬ Shd b) (hZ : ZeroOK P) (hB : BodiesOK P) {fr Fr c0 : Frame} {cs Cs K : List Frame} {w W : World} (h : FR P R fr Fr) (hcs : FRs P R cs Cs) (hw : WR P Shd R w W)
    (ht : ∀ j q, w.tape (w.drawn + j) q = W.tape (W.drawn + j) q) (hn : fr.mode = .returning → cs ≠ []) (main main' : Bool) :
    StepTo P Shd R c0 K w W (stepG P main (G fr (cs ++ [c0])) w) (stepG P main' (G Fr (Cs ++ K)) W) (fun τ => stepG P main (G fr (cs ++ [c0])) (w.tp τ)) ∨ Fails P c0 cs (stepG P main (G fr (cs ++ [c0])) w) := by
  have same : ∀ (l : List Item), (∀ it ∈ l, ItemOK P it) → stepG P main (G fr (cs ++ [c0])) w = .go (G { fr with todo := l } (cs ++ [c0])) w → stepG P main' (G Fr (Cs ++ K)) W = .go (G { Fr with todo := l } (Cs ++ K)) W →
      (∀ w, stepG P main (G fr (cs ++ [c0])) w = .go (G { fr with todo := l } (cs ++ [c0])) w) →
      StepTo P Shd R c0 K w W (stepG P main (G fr (cs ++ [c0])) w) (stepG P main' (G Fr (Cs ++ K)) W) (fun τ => stepG P main (G fr (cs ++ [c0])) (w.tp τ)) := by
    intro l hl e1 e2 e3
    rw [e1, e2]
    exact ⟨_, cs, w, rfl, R, _, Cs, W, #[], rfl, h.at l hl, hcs, hw, EX.refl _ _ _ _, by simp, fun τ _ => by dsimp only; rw [e3]; rfl⟩
  rcases h.modes with hm | hm
  · have hM : Fr.mode = .run := h.mode ▸ hm
    have hT := h.todo
    have hi := h.items
    have ret : stepG P main (G fr (cs ++ [c0])) w = .go (G { fr with mode := .returning } (cs ++ [c0])) w → stepG P main' (G Fr (Cs ++ K)) W = .go (G { Fr with mode := .returning } (Cs ++ K)) W →
        (∀ w, stepG P main (G fr (cs ++ [c0])) w = .go (G { fr with mode := .returning } (cs ++ [c0])) w) →
        StepTo P Shd R c0 K w W (stepG P main (G fr (cs ++ [c0])) w) (stepG P main' (G Fr (Cs ++ K)) W) (fun τ => stepG P main (G fr (cs ++ [c0])) (w.tp τ)) := by
      intro e1 e2 e3
      rw [e1, e2]
      exact ⟨_, cs, w, rfl, R, _, Cs, W, #[], rfl, h.ret, hcs, hw, EX.refl _ _ _ _, by simp, fun τ _ => by dsimp only; rw [e3]; rfl⟩
    cases hd : fr.todo with
    | nil =>
      have hD : Fr.todo = [] := hT ▸ hd
      exact .inl (ret (by simp [stepG, stepG.exec, G, hm, hd, h.round]) (by simp [stepG, stepG.exec, G, hM, hD, h.round']) (fun _ => by simp [stepG, stepG.exec, G, hm, hd, h.round]))
    | cons it k =>
      rw [hd] at hi
      have h0 := hi it (List.mem_cons_self ..)
      have hk : ∀ x ∈ k, ItemOK P x := fun x hx => hi x (List.mem_cons_of_mem _ hx)
      have hD : Fr.todo = it :: k := hT ▸ hd
      cases it with
      | inBlock i => exact .inl (same k hk (by simp [stepG, stepG.exec, G, hm, hd]) (by simp [stepG, stepG.exec, G, hM, hD]) (fun _ => by simp [stepG, stepG.exec, G, hm, hd]))
      | inScope c => exact .inl (same k hk (by simp [stepG, stepG.exec, G, hm, hd]) (by simp [stepG, stepG.exec, G, hM, hD]) (fun _ => by simp [stepG, stepG.exec, G, hm, hd]))
      | inLoop c =>
        exact .inl (same (.code c :: .inLoop c :: k) (cons_ok h0 (cons_ok h0 hk)) (by simp [stepG, stepG.exec, G, hm, hd]) (by simp [stepG, stepG.exec, G, hM, hD]) (fun _ => by simp [stepG, stepG.exec, G, hm, hd]))
      | code c =>
        cases c with
        | ret => exact .inl (ret (by simp [stepG, stepG.exec, G, hm, hd, h.round]) (by simp [stepG, stepG.exec, G, hM, hD, h.round']) (fun _ => by simp [stepG, stepG.exec, G, hm, hd, h.round]))
        | skip => exact .inl (same k hk (by simp [stepG, stepG.exec, G, hm, hd]) (by simp [stepG, stepG.exec, G, hM, hD]) (fun _ => by simp [stepG, stepG.exec, G, hm, hd]))
        | label l => exact .inl (same k hk (by simp [stepG, stepG.exec, G, hm, hd]) (by simp [stepG, stepG.exec, G, hM, hD]) (fun _ => by simp [stepG, stepG.exec, G, hm, hd]))
        | seq a b =>
          exact .inl (same (.code a :: .code b :: k) (cons_ok h0.1 (cons_ok h0.2 hk)) (by simp [stepG, stepG.exec, G, hm, hd]) (by simp [stepG, stepG.exec, G, hM, hD]) (fun _ => by simp [stepG, stepG.exec, G, hm, hd]))
        | block i c =>
          exact .inl (same (.code c :: .inBlock i :: k) (cons_ok h0 (cons_ok trivial hk)) (by simp [stepG, stepG.exec, G, hm, hd]) (by simp [stepG, stepG.exec, G, hM, hD]) (fun _ => by simp [stepG, stepG.exec, G, hm, hd]))
        | scope c =>
          exact .inl (same (.code c :: .inScope c :: k) (cons_ok h0 (cons_ok trivial hk)) (by simp [stepG, stepG.exec, G, hm, hd]) (by simp [stepG, stepG.exec, G, hM, hD]) (fun _ => by simp [stepG, stepG.exec, G, hm, hd]))
        | loop c =>
          exact .inl (same (.code c :: .inLoop c :: k) (cons_ok h0 (cons_ok h0 hk)) (by simp [stepG, stepG.exec, G, hm, hd]) (by simp [stepG, stepG.exec, G, hM, hD]) (fun _ => by simp [stepG, stepG.exec, G, hm, hd]))
        | exit i =>
          cases he : exitTo i k with
          | some k' => exact .inl (same k' (fun x hx => hk x (exitTo_mem he x hx)) (by simp [stepG, stepG.exec, G, hm, hd, he]) (by simp [stepG, stepG.exec, G, hM, hD, he]) (fun _ => by simp [stepG, stepG.exec, G, hm, hd, he]))
          | none => exact .inr (.inr ⟨_, w, by simp [stepG, stepG.exec, G, hm, hd, he, h.round]; rfl⟩)
        | cond c a b =>
          have hv := h.eval c h0.1
          generalize hx : fr.eval c = v at hv
          generalize hX : Fr.eval c = V at hv
          cases hv with
          | bool t =>
            exact .inl (same (.code (if t then a else b) :: k) (cons_ok (by cases t; exact h0.2.2; exact h0.2.1) hk) (by simp [stepG, stepG.exec, G, hm, hd, hx]) (by simp [stepG, stepG.exec, G, hM, hD, hX]) (fun _ => by simp [stepG, stepG.exec, G, hm, hd, hx]))
          | _ => exact .inr (.inr ⟨_, w, by simp [stepG, stepG.exec, G, hm, hd, hx]; rfl⟩)
        | region i ops draw =>
          cases draw with
          | false => exact .inl (same (.inRegion ops (List.range ops.size) :: k) (cons_ok h0 hk) (by simp [stepG, stepG.exec, G, hm, hd]) (by simp [stepG, stepG.exec, G, hM, hD]) (fun _ => by simp [stepG, stepG.exec, G, hm, hd]))
          | true =>
            obtain ⟨R', b, W', r1, q, hw', x, ev, _⟩ := ((sim_choose (P := P) (Shd := Shd) (R := R) (.order fr.fn i)) w W hw ht).2 (w.tape w.drawn (.order fr.fn i)) { w with drawn := w.drawn + 1 } (by simp [choose, Sem.run, Question.forced, Question.cut])
            refine .inl ⟨{ fr with todo := .inRegion ops (Region.schedule (P.follows .mixedOrders) ops (w.tape w.drawn (.order fr.fn i))) :: k }, cs, { w with drawn := w.drawn + 1 }, ?_, R', { Fr with todo := .inRegion ops (Region.schedule (P.follows .mixedOrders) ops b) :: k }, Cs, W', #[], ?_, ?_, hcs.mono x.sub, hw', x, by simp, fun τ hτ => ?_⟩
            · simp [stepG, stepG.exec, G, hm, hd, choose, Sem.run, Question.forced, Question.cut]
            · rw [h.fn] at r1
              simp [stepG, stepG.exec, G, hM, hD, r1]
            · rw [← q]
              exact (h.mono x.sub).at _ (cons_ok h0 hk)
            · have := hτ w.drawn (.order fr.fn i) (Nat.le_refl _) (Nat.lt_succ_self _)
              simp [stepG, stepG.exec, G, hm, hd, choose, Sem.run, Question.forced, Question.cut, World.tp, this]
        | _ => exact h0.elim
      | inRegion ops todo =>
        cases todo with
        | nil => exact .inl (same k hk (by simp [stepG, stepG.exec, G, hm, hd]) (by simp [stepG, stepG.exec, G, hM, hD]) (fun _ => by simp [stepG, stepG.exec, G, hm, hd]))
        | cons i rest =>
          have hy := yielded_eq (ops := ops) h.tmps
          have pass : ((ops[i]?).map (Region.wanted · (yielded ops fr.tmps))).getD false = false → StepTo P Shd R c0 K w W (stepG P main (G fr (cs ++ [c0])) w) (stepG P main' (G Fr (Cs ++ K)) W) (fun τ => stepG P main (G fr (cs ++ [c0])) (w.tp τ)) := by
            intro hf
            have hF := hf
            rw [hy] at hF
            refine ⟨fr.finish Go.undef, cs, w, by simp [stepG, stepG.exec, G, hm, hd, hf], R, Fr.finish Go.undef, Cs, W, #[], by simp [stepG, stepG.exec, G, hM, hD, hF], h.finish VR.undef, hcs, hw, EX.refl _ _ _ _, by simp, fun τ _ => by simp [stepG, stepG.exec, G, hm, hd, hf]⟩
          cases hwt : ((ops[i]?).map (Region.wanted · (yielded ops fr.tmps))).getD false with
          | false => exact .inl (pass hwt)
          | true =>
            cases ho : ops[i]? with
            | none => rw [ho] at hwt; cases hwt
            | some o =>
              have hwT := hwt
              rw [hy] at hwT
              have hop : OpOK P o.op := h0 o (Array.mem_of_getElem? ho)
              have hs := sim_execOp (Shd := Shd) hS hZ (f := fr.eval) (g := Fr.eval) (fun x hx => h.eval x hx) (fun _ => rfl) (fun _ => rfl) o hop w W hw ht
              have er : fr.oper? = some o := by simp [Frame.oper?, hd, ho]
              have eR : Fr.oper? = some o := by simp [Frame.oper?, hD, ho]
              cases hr : (execOp fr.eval o).run P w with
              | halt x w' =>
                have hx := hs.1 _ _ hr
                right
                cases x with
                | panic v => exact .inl ⟨fr.raise [{ v, recovered := false }], w', by simp [stepG, stepG.exec, G, hm, hd, hwt, stepG.oper, er, h.round, stepG.apply, hr, h.kind], by simp [Frame.raise, hm], by simp [Frame.raise, hm, h.defers], by obtain ⟨f, hf⟩ := h.func; exact ⟨f, by simpa [Frame.raise, hm] using hf⟩⟩
                | stuck t => exact .inr ⟨_, w', by simp [stepG, stepG.exec, G, hm, hd, hwt, stepG.oper, er, h.round, stepG.apply, hr, h.kind]; rfl⟩
                | unsupported u =>
                  cases u with
                  | initOrder _ => exact hx.elim
                  | _ => exact .inr ⟨_, w', by simp [stepG, stepG.exec, G, hm, hd, hwt, stepG.oper, er, h.round, stepG.apply, hr, h.kind]; rfl⟩
                | _ => exact hx.elim
              | ok a w' =>
                obtain ⟨R', b, W', r1, q, hw', x, ev, tp⟩ := hs.2 _ _ hr
                left
                have ev' : ∀ e ∈ seen P Fr.fn ((execOp Fr.eval o).events P W #[]), EvOK Shd R' e := fun e he => ev e (Conc.mem_seen he)
                cases q with
                | value hv =>
                  rename_i v V
                  refine ⟨fr.finish v, cs, w', ?_, R', Fr.finish V, Cs, W', seen P Fr.fn ((execOp Fr.eval o).events P W #[]), ?_, (h.mono x.sub).finish hv, hcs.mono x.sub, hw', x, ev', fun τ hτ => ?_⟩
                  · simp [stepG, stepG.exec, G, hm, hd, hwt, stepG.oper, er, h.round, stepG.apply, hr, h.kind]
                  · simp [stepG, stepG.exec, G, hM, hD, hwT, stepG.oper, eR, h.round', stepG.apply, r1, h.kind', GStep.after]
                  · simp [stepG, stepG.exec, G, hm, hd, hwt, stepG.oper, er, h.round, stepG.apply, tp τ hτ, h.kind]
                | skip =>
                  refine ⟨fr.finish Go.undef, cs, w', ?_, R', Fr.finish Go.undef, Cs, W', seen P Fr.fn ((execOp Fr.eval o).events P W #[]), ?_, (h.mono x.sub).finish VR.undef, hcs.mono x.sub, hw', x, ev', fun τ hτ => ?_⟩
                  · simp [stepG, stepG.exec, G, hm, hd, hwt, stepG.oper, er, h.round, stepG.apply, hr, h.kind]
                  · simp [stepG, stepG.exec, G, hM, hD, hwT, stepG.oper, eR, h.round', stepG.apply, r1, h.kind', GStep.after]
                  · simp [stepG, stepG.exec, G, hm, hd, hwt, stepG.oper, er, h.round, stepG.apply, tp τ hτ, h.kind]
                | enter f hf hv =>
                  rename_i a A
                  refine ⟨Frame.enter P f a .normal, fr :: cs, w', ?_, R', Frame.enter P f A .normal, Fr :: Cs, W', seen P Fr.fn ((execOp Fr.eval o).events P W #[]), ?_, FR.enter hB hf hv, ⟨h.mono x.sub, hm, hcs.mono x.sub⟩, hw', x, ev', fun τ hτ => ?_⟩
                  · simp [stepG, stepG.exec, G, hm, hd, hwt, stepG.oper, er, h.round, stepG.apply, hr, h.kind]
                  · simp [stepG, stepG.exec, G, hM, hD, hwT, stepG.oper, eR, h.round', stepG.apply, r1, h.kind', GStep.after]
                  · simp [stepG, stepG.exec, G, hm, hd, hwt, stepG.oper, er, h.round, stepG.apply, tp τ hτ, h.kind]
      | _ => exact h0.elim
  · obtain ⟨fn, hf⟩ := h.func
    have hF : P.funcs[Fr.fn]? = some fn := h.fn ▸ hf
    have hM : Fr.mode = .returning := h.mode ▸ hm
    cases cs with
    | nil => exact absurd rfl (hn hm)
    | cons c cs =>
      cases Cs with
      | nil => exact hcs.elim
      | cons C Cs =>
        obtain ⟨h1, h2, h3⟩ := hcs
        have hs := sim_results (Shd := Shd) fn h.tmps w W hw ht
        cases hr : (results fn fr.tmps).run P w with
        | halt x w' =>
          right
          cases x with
          | stuck t => exact .inr ⟨_, w', by simp [stepG, G, hm, unwind, h.defers, hf, hr]; rfl⟩
          | _ => exact .inr ⟨_, w', by simp [stepG, G, hm, unwind, h.defers, hf, hr]; rfl⟩
        | ok v w' =>
          obtain ⟨R', V, W', r1, hv, hw', x, ev, tp⟩ := hs.2 _ _ hr
          refine .inl ⟨c.finish v, cs, w', ?_, R', C.finish V, Cs, W', seen P Fr.fn ((results fn Fr.tmps).events P W #[]), ?_, (h1.mono x.sub).finish hv, h3.mono x.sub, hw', x, fun e he => ev e (Conc.mem_seen he), fun τ hτ => ?_⟩
          · simp [stepG, G, hm, unwind, h.defers, hf, hr, doReturn, h.kind]
          · simp [stepG, G, hM, unwind, h.defers', hF, r1, doReturn, h.kind', GStep.after]
          · simp [stepG, G, hm, unwind, h.defers, hf, tp τ hτ, doReturn, h.kind]
end Go.Sim

/-
  From a contract of the lone walk to company: a run that comes to its return alone, on every tape, never fails; whatever the tape's answers, it goes on to the return.
-/
namespace Go.Sim
open Go.Conc (G)
variable {P : Program} {Shd : Nat → Prop} {R : BR}

/-- A frame beneath, at which a panic ends the run. -/
def c0 (P : Program) : Frame := { fn := P.funcs.size, tmps := #[], todo := [.call { target := .nil, args := #[] } false "fmt's door" #[]], defers := [], mode := .run, kind := .normal }

theorem door : "fmt's door".startsWith "fmt's door" = true := by kernel_rfl
theorem catches0 : (c0 P).catches P = true := by
  have : P.funcs[P.funcs.size]? = none := by simp
  unfold Frame.catches c0
  simp only [this]
  exact door

/-- A panic on its way: no frame defers anything. -/
structure Bad (fr : Frame) (cs : List Frame) : Prop where
  mode : ∃ ch, fr.mode = .panicking ch
  defers : fr.defers = []
  func : ∃ f, P.funcs[fr.fn]? = some f
  callers : ∀ c ∈ cs, c.defers = [] ∧ ∃ f, P.funcs[c.fn]? = some f

theorem raise_mode (fr : Frame) (l : List PanicEntry) : ∃ ch, (fr.raise l).mode = .panicking ch := by unfold Frame.raise; split <;> exact ⟨_, rfl⟩
theorem raise_defers (fr : Frame) (l : List PanicEntry) : (fr.raise l).defers = fr.defers := by unfold Frame.raise; split <;> rfl
theorem raise_fn (fr : Frame) (l : List PanicEntry) : (fr.raise l).fn = fr.fn := by unfold Frame.raise; split <;> rfl

theorem lone_inj {fr fr' : Frame} {cs cs' : List Frame} {w w' : World} (h : lone fr cs w = lone fr' cs' w') : fr = fr' ∧ cs = cs' ∧ w = w' := by
  simp only [lone, Machine.mk.injEq, Array.mk.injEq, List.cons.injEq, Goroutine.mk.injEq] at h
  exact ⟨h.2.1.1.1, h.2.1.1.2.1, h.1⟩

theorem bad_run : ∀ (n : Nat) {fr fr' : Frame} {cs : List Frame} {w w' : World}, Bad (P := P) fr cs → runN P n (lone fr (cs ++ [c0 P]) w) = .next (lone fr' [c0 P] w') → fr'.mode ≠ .returning
  | 0, fr, fr', cs, w, w', hb, e => by
    simp only [runN, Stepped.next.injEq] at e
    obtain ⟨rfl, _, _⟩ := lone_inj e
    obtain ⟨ch, h⟩ := hb.mode
    rw [h]; intro x; cases x
  | n + 1, fr, fr', cs, w, w', hb, e => by
    obtain ⟨ch, hm⟩ := hb.mode
    obtain ⟨f, hf⟩ := hb.func
    have hc : fr.catches P = false := by unfold Frame.catches; simp [hf]
    cases cs with
    | cons c cs =>
      have hs : step P (lone fr (c :: cs ++ [c0 P]) w) = .next (lone (c.raise ch) (cs ++ [c0 P]) w) := step_lone_go (by simp [stepG, hm, unwind, hb.defers, hc])
      rw [runN, hs] at e
      have hcc := hb.callers c (List.mem_cons_self ..)
      exact bad_run n ⟨raise_mode _ _, by rw [raise_defers]; exact hcc.1, by rw [raise_fn]; exact hcc.2, fun x hx => hb.callers x (List.mem_cons_of_mem _ hx)⟩ e
    | nil =>
      have hs : step P (lone fr ([] ++ [c0 P]) w) = .next (lone ((c0 P).raise ch) [] w) := step_lone_go (by simp [stepG, hm, unwind, hb.defers, hc])
      rw [runN, hs] at e
      cases n with
      | zero =>
        simp only [runN, Stepped.next.injEq] at e
        obtain ⟨_, h, _⟩ := lone_inj e
        cases h
      | succ n =>
        have hx : ((c0 P).raise ch).catches P = true := by
          have := catches0 (P := P)
          unfold Frame.raise c0 at *
          exact this
        have hs2 : ∃ o w2, step P (lone ((c0 P).raise ch) [] w) = .ended o w2 := by
          obtain ⟨ch', h1⟩ := raise_mode (c0 P) ch
          have h2 : ((c0 P).raise ch).defers = [] := by rw [raise_defers]; rfl
          exact ⟨_, w, step_lone_ended (by simp [stepG, h1, unwind, h2, hx]; rfl)⟩
        obtain ⟨o, w2, hs2⟩ := hs2
        simp only [runN, hs2] at e
        cases e

/-- The run comes to its return. -/
def Ends (P : Program) (Fin : Frame → World → Prop) (fr : Frame) (cs : List Frame) (w : World) (n : Nat) : Prop :=
  ∃ fr' w', runN P n (lone fr (cs ++ [c0 P]) w) = .next (lone fr' [c0 P] w') ∧ fr'.mode = .returning ∧ Fin fr' w'
def Good (P : Program) (Fin : Frame → World → Prop) (fr : Frame) (cs : List Frame) (w : World) : Prop := ∀ τ, ∃ n, Ends P Fin fr cs (w.tp τ) n

def IsFin (fr : Frame) (cs : List Frame) : Prop := fr.mode = .returning ∧ cs = []

/-- The lone state stands for something in company. -/
def Rel (P : Program) (Shd : Nat → Prop) (fr : Frame) (cs : List Frame) (w : World) : Prop := ∃ R Fr Cs W, FR P R fr Fr ∧ FRs P R cs Cs ∧ WR P Shd R w W

theorem WR.tp {w W : World} (h : WR P Shd R w W) (τ τ' : Nat → Question → Nat) : WR P Shd R (w.tp τ) (W.tp τ') := ⟨h.dom, h.inj, h.shd, h.low, h.glob⟩

theorem FRs.bad {cs Cs : List Frame} : FRs P R cs Cs → ∀ c ∈ cs, c.defers = [] ∧ ∃ f, P.funcs[c.fn]? = some f := by
  intro h
  induction cs generalizing Cs with
  | nil => intro c hc; cases hc
  | cons a cs ih =>
    cases Cs with
    | nil => exact h.elim
    | cons b Cs =>
      intro c hc
      rcases List.mem_cons.1 hc with rfl | hc
      · obtain ⟨f, hf⟩ := h.1.func
        exact ⟨h.1.defers, f, hf⟩
      · exact ih h.2.2 c hc

/-- A run that comes to its return does not fail. -/
theorem not_fails {Fin : Frame → World → Prop} {fr : Frame} {cs : List Frame} {w : World} {n : Nat} (hr : Rel P Shd fr cs w) (hn : ¬ IsFin fr cs) (h : Ends P Fin fr cs w n) : ¬ Fails P (c0 P) cs (stepG P true (G fr (cs ++ [c0 P])) w) := by
  obtain ⟨R, Fr, Cs, W, h1, h2, _⟩ := hr
  obtain ⟨fr', w', e, hm, _⟩ := h
  intro hf
  cases n with
  | zero =>
    simp only [runN, Stepped.next.injEq] at e
    obtain ⟨rfl, hc, _⟩ := lone_inj e
    exact hn ⟨hm, by simpa using congrArg List.length hc |> fun x => List.eq_nil_of_length_eq_zero (by simpa using x)⟩
  | succ n =>
    rcases hf with ⟨fr1, w1, hs, hp, hd, hfn⟩ | ⟨o, w1, hs⟩
    · have := step_lone_go (P := P) (fr := fr) (cs := cs ++ [c0 P]) (w := w) (by exact hs)
      rw [runN, this] at e
      exact bad_run n ⟨hp, hd, hfn, h2.bad⟩ e hm
    · have := step_lone_ended (P := P) (fr := fr) (cs := cs ++ [c0 P]) (w := w) (by exact hs)
      rw [runN, this] at e
      cases e

theorem G_inj {fr fr' : Frame} {cs cs' : List Frame} {c : Frame} {w w' : World} (h : GStep.go (G fr (cs ++ [c])) w = GStep.go (G fr' (cs' ++ [c])) w') : fr = fr' ∧ cs = cs' ∧ w = w' := by
  simp only [GStep.go.injEq, G, Goroutine.mk.injEq] at h
  exact ⟨h.1.1, List.append_cancel_right h.1.2.1, h.2.1⟩

/-- The run comes to its return, told step by step. -/
def EndsG (P : Program) (Fin : Frame → World → Prop) : Nat → Frame → List Frame → World → Prop
  | 0, fr, cs, w => IsFin fr cs ∧ Fin fr w
  | n + 1, fr, cs, w => (IsFin fr cs ∧ Fin fr w) ∨ (¬ IsFin fr cs ∧ ∃ fr' cs' w', (stepG P true (G fr (cs ++ [c0 P])) w).bare = .go (G fr' (cs' ++ [c0 P])) w' ∧ EndsG P Fin n fr' cs' w')

theorem endsG_bad {Fin : Frame → World → Prop} : ∀ (n : Nat) {fr : Frame} {cs : List Frame} {w : World}, Bad (P := P) fr cs → ¬ EndsG P Fin n fr cs w
  | 0, fr, cs, w, hb, h => by
    obtain ⟨ch, hm⟩ := hb.mode
    have := h.1.1
    rw [hm] at this; cases this
  | n + 1, fr, cs, w, hb, h => by
    obtain ⟨ch, hm⟩ := hb.mode
    obtain ⟨f, hf⟩ := hb.func
    have hc : fr.catches P = false := by unfold Frame.catches; simp [hf]
    rcases h with h | ⟨_, fr', cs', w', e, h⟩
    · have := h.1.1
      rw [hm] at this; cases this
    cases cs with
    | cons c cs =>
      have hs : (stepG P true (G fr (c :: cs ++ [c0 P])) w).bare = .go (G (c.raise ch) (cs ++ [c0 P])) w := by simp [stepG, G, hm, unwind, hb.defers, hc]
      rw [hs] at e
      obtain ⟨rfl, rfl, rfl⟩ := G_inj e
      have hcc := hb.callers c (List.mem_cons_self ..)
      exact endsG_bad n ⟨raise_mode _ _, by rw [raise_defers]; exact hcc.1, by rw [raise_fn]; exact hcc.2, fun x hx => hb.callers x (List.mem_cons_of_mem _ hx)⟩ h
    | nil =>
      have hs : (stepG P true (G fr ([] ++ [c0 P])) w).bare = .go (G ((c0 P).raise ch) []) w := by simp [stepG, G, hm, unwind, hb.defers, hc]
      rw [hs] at e
      simp only [GStep.go.injEq, G, Goroutine.mk.injEq] at e
      have := e.1.2.1
      simp at this

/-- The tape of the other world that answers as the lone one's. -/
def mt (w W : World) : Nat → Question → Nat := fun j q => w.tape (w.drawn + (j - W.drawn)) q


/-- A step of a lone state that stands for something. -/
theorem rel_step (hS : ∀ b, ¬ Shd b) (hZ : ZeroOK P) (hB : BodiesOK P) {fr : Frame} {cs : List Frame} {w : World} (hr : Rel P Shd fr cs w) (hn : ¬ IsFin fr cs) :
    (∃ fr' cs' w', (stepG P true (G fr (cs ++ [c0 P])) w).bare = .go (G fr' (cs' ++ [c0 P])) w' ∧ Rel P Shd fr' cs' w' ∧ w'.tape = w.tape ∧ w.drawn ≤ w'.drawn ∧
      ∀ τ, (∀ j q, w.drawn ≤ j → j < w'.drawn → τ j q = w.tape j q) → (stepG P true (G fr (cs ++ [c0 P])) (w.tp τ)).bare = .go (G fr' (cs' ++ [c0 P])) (w'.tp τ)) ∨
    Fails P (c0 P) cs (stepG P true (G fr (cs ++ [c0 P])) w) := by
  obtain ⟨R, Fr, Cs, W, h1, h2, h3⟩ := hr
  rcases step_sim hS hZ hB (c0 := c0 P) (K := []) (W := W.tp (mt w W)) h1 h2 (h3.tp w.tape (mt w W)) (fun j q => by show _ = mt w W (W.drawn + j) q; simp [mt, World.tp]) (fun hm hc => hn ⟨hm, hc⟩) true true with h | h
  · obtain ⟨fr', cs', w', e, R', Fr', Cs', W', Es, _, f1, f2, f3, x, _, tp⟩ := h
    obtain ⟨k, k1, _⟩ := x.drawn
    exact .inl ⟨fr', cs', w', e, ⟨R', Fr', Cs', W', f1, f2, f3⟩, x.ltape, by rw [k1]; exact Nat.le_add_right _ _, tp⟩
  · exact .inr h

theorem endsG_step (hS : ∀ b, ¬ Shd b) (hZ : ZeroOK P) (hB : BodiesOK P) {Fin : Frame → World → Prop} {n : Nat} {fr : Frame} {cs : List Frame} {w : World} (hr : Rel P Shd fr cs w) (hn : ¬ IsFin fr cs) (h : EndsG P Fin n fr cs w) :
    ∃ m fr' cs' w', n = m + 1 ∧ (stepG P true (G fr (cs ++ [c0 P])) w).bare = .go (G fr' (cs' ++ [c0 P])) w' ∧ EndsG P Fin m fr' cs' w' ∧ Rel P Shd fr' cs' w' ∧ w'.tape = w.tape ∧ w.drawn ≤ w'.drawn ∧
      ∀ τ, (∀ j q, w.drawn ≤ j → j < w'.drawn → τ j q = w.tape j q) → (stepG P true (G fr (cs ++ [c0 P])) (w.tp τ)).bare = .go (G fr' (cs' ++ [c0 P])) (w'.tp τ) := by
  cases n with
  | zero => exact absurd h.1 hn
  | succ n =>
    rcases h with h | ⟨_, fr', cs', w', e, h⟩
    · exact absurd h.1 hn
    rcases rel_step hS hZ hB hr hn with ⟨fr1, cs1, w1, e1, r1, x1, x2, tp⟩ | hf
    · rw [e1] at e
      obtain ⟨rfl, rfl, rfl⟩ := G_inj e
      exact ⟨n, _, _, _, rfl, e1, h, r1, x1, x2, tp⟩
    · exfalso
      obtain ⟨R, Fr, Cs, W, h1, h2, _⟩ := hr
      rcases hf with ⟨fr1, w1, hs, hp, hd, hfn⟩ | ⟨o, w1, hs⟩
      · rw [hs] at e
        obtain ⟨rfl, rfl, rfl⟩ := G_inj e
        exact endsG_bad n ⟨hp, hd, hfn, h2.bad⟩ h
      · rw [hs] at e; cases e

theorem endsG_tape (hS : ∀ b, ¬ Shd b) (hZ : ZeroOK P) (hB : BodiesOK P) {Fin : Frame → World → Prop} (hF : ∀ fr w τ, Fin fr w → Fin fr (w.tp τ)) : ∀ (n : Nat) {fr : Frame} {cs : List Frame} {w : World}, Rel P Shd fr cs w → EndsG P Fin n fr cs w →
    ∀ τ, (∀ j q, w.drawn ≤ j → τ j q = w.tape j q) → EndsG P Fin n fr cs (w.tp τ)
  | 0, fr, cs, w, _, h, τ, _ => ⟨h.1, hF _ _ _ h.2⟩
  | n + 1, fr, cs, w, hr, h, τ, hτ => by
    by_cases hn : IsFin fr cs
    · rcases h with h | h
      · exact .inl ⟨h.1, hF _ _ _ h.2⟩
      · exact absurd hn h.1
    · obtain ⟨m, fr', cs', w', em, e, h', r', x1, x2, tp⟩ := endsG_step hS hZ hB hr hn h
      cases em
      refine .inr ⟨hn, fr', cs', _, tp τ fun j q h1 _ => hτ j q h1, endsG_tape hS hZ hB hF n r' h' τ fun j q h1 => ?_⟩
      rw [x1]; exact hτ j q (Nat.le_trans x2 h1)

/-- On every tape the run comes to its return. -/
def GoodG (P : Program) (Fin : Frame → World → Prop) (fr : Frame) (cs : List Frame) (w : World) : Prop := ∀ τ, ∃ n, EndsG P Fin n fr cs (w.tp τ)

theorem Rel.tp {fr : Frame} {cs : List Frame} {w : World} (h : Rel P Shd fr cs w) (τ : Nat → Question → Nat) : Rel P Shd fr cs (w.tp τ) := by
  obtain ⟨R, Fr, Cs, W, h1, h2, h3⟩ := h
  exact ⟨R, Fr, Cs, W, h1, h2, h3.tp τ W.tape⟩

theorem good_step (hS : ∀ b, ¬ Shd b) (hZ : ZeroOK P) (hB : BodiesOK P) {Fin : Frame → World → Prop} (hF : ∀ fr w τ, Fin fr w → Fin fr (w.tp τ)) {fr : Frame} {cs : List Frame} {w : World} (hr : Rel P Shd fr cs w) (hn : ¬ IsFin fr cs) (h : GoodG P Fin fr cs w) (τ : Nat → Question → Nat) :
    ∃ fr' cs' w', (stepG P true (G fr (cs ++ [c0 P])) (w.tp τ)).bare = .go (G fr' (cs' ++ [c0 P])) w' ∧ GoodG P Fin fr' cs' w' ∧ Rel P Shd fr' cs' w' ∧ w'.tape = τ ∧ w.drawn ≤ w'.drawn ∧
      ∀ τ2, (∀ j q, w.drawn ≤ j → j < w'.drawn → τ2 j q = τ j q) → (stepG P true (G fr (cs ++ [c0 P])) (w.tp τ2)).bare = .go (G fr' (cs' ++ [c0 P])) (w'.tp τ2) := by
  obtain ⟨n, hE⟩ := h τ
  obtain ⟨m, fr', cs', w', em, e, h', r', x1, x2, tp⟩ := endsG_step hS hZ hB (hr.tp τ) hn hE
  refine ⟨fr', cs', w', e, fun τ3 => ?_, r', x1, x2, fun τ2 h2 => tp τ2 h2⟩
  obtain ⟨n2, hE2⟩ := h (fun j q => if j < w'.drawn then τ j q else τ3 j q)
  obtain ⟨m2, fr2, cs2, w2, em2, e2, h2, r2, y1, y2, tp2⟩ := endsG_step hS hZ hB (hr.tp _) hn hE2
  have e3 := tp (fun j q => if j < w'.drawn then τ j q else τ3 j q) (fun j q h1 h2 => by rw [if_pos h2]; rfl)
  have : (w.tp τ).tp (fun j q => if j < w'.drawn then τ j q else τ3 j q) = w.tp (fun j q => if j < w'.drawn then τ j q else τ3 j q) := rfl
  rw [this, e2] at e3
  obtain ⟨rfl, rfl, rfl⟩ := G_inj e3
  refine ⟨m2, ?_⟩
  have := endsG_tape hS hZ hB hF m2 r2 h2 τ3 fun j q h1 => ?_
  · exact this
  · have h1' : w'.drawn ≤ j := h1
    show τ3 j q = if j < w'.drawn then τ j q else τ3 j q
    rw [if_neg (by omega)]

/-- Whatever the tape answers, step by step: the run comes to its return. -/
inductive Run (P : Program) (Fin : Frame → World → Prop) : Frame → List Frame → World → Prop
  | fin {fr : Frame} {cs : List Frame} {w : World} : IsFin fr cs → Fin fr w → Run P Fin fr cs w
  | step {fr : Frame} {cs : List Frame} {w : World} : ¬ IsFin fr cs →
      (∀ τ, ∃ fr' cs' w', (stepG P true (G fr (cs ++ [c0 P])) (w.tp τ)).bare = .go (G fr' (cs' ++ [c0 P])) w') →
      (∀ τ fr' cs' w', (stepG P true (G fr (cs ++ [c0 P])) (w.tp τ)).bare = .go (G fr' (cs' ++ [c0 P])) w' → Run P Fin fr' cs' w') → Run P Fin fr cs w

theorem run_of_good (hS : ∀ b, ¬ Shd b) (hZ : ZeroOK P) (hB : BodiesOK P) {Fin : Frame → World → Prop} (hF : ∀ fr w τ, Fin fr w → Fin fr (w.tp τ)) {fr : Frame} {cs : List Frame} {w : World} (hr : Rel P Shd fr cs w) (h : GoodG P Fin fr cs w) : Run P Fin fr cs w := by
  apply Classical.byContradiction
  intro hnot
  let S := { σ : Frame × List Frame × World // Rel P Shd σ.1 σ.2.1 σ.2.2 ∧ GoodG P Fin σ.1 σ.2.1 σ.2.2 ∧ ¬ Run P Fin σ.1 σ.2.1 σ.2.2 }
  have nofin : ∀ σ : S, ¬ IsFin σ.1.1 σ.1.2.1 := by
    intro σ hf
    obtain ⟨n, hE⟩ := σ.2.2.1 σ.1.2.2.tape
    refine σ.2.2.2 (.fin hf ?_)
    cases n with
    | zero => exact hE.2
    | succ n =>
      rcases hE with hE | hE
      · exact hE.2
      · exact absurd hf hE.1
  have nx : ∀ σ : S, ∃ (τ : Nat → Question → Nat) (σ' : S), σ.1.2.2.drawn ≤ σ'.1.2.2.drawn ∧
      ∀ τ2, (∀ j q, σ.1.2.2.drawn ≤ j → j < σ'.1.2.2.drawn → τ2 j q = τ j q) → (stepG P true (G σ.1.1 (σ.1.2.1 ++ [c0 P])) (σ.1.2.2.tp τ2)).bare = .go (G σ'.1.1 (σ'.1.2.1 ++ [c0 P])) (σ'.1.2.2.tp τ2) := by
    intro σ
    have hn := nofin σ
    have : ∃ τ, ∀ fr' cs' w', (stepG P true (G σ.1.1 (σ.1.2.1 ++ [c0 P])) (σ.1.2.2.tp τ)).bare = .go (G fr' (cs' ++ [c0 P])) w' → ¬ Run P Fin fr' cs' w' := by
      apply Classical.byContradiction
      intro hc
      refine σ.2.2.2 (.step hn (fun τ => ?_) fun τ fr' cs' w' e => ?_)
      · obtain ⟨fr', cs', w', e, _⟩ := good_step hS hZ hB hF σ.2.1 hn σ.2.2.1 τ
        exact ⟨fr', cs', w', e⟩
      · apply Classical.byContradiction
        intro hc2
        refine hc ⟨τ, fun fr2 cs2 w2 e2 => ?_⟩
        rw [e] at e2
        obtain ⟨rfl, rfl, rfl⟩ := G_inj e2
        exact hc2
    obtain ⟨τ, hτ⟩ := this
    obtain ⟨fr', cs', w', e, hg, hr', _, hd, tp⟩ := good_step hS hZ hB hF σ.2.1 hn σ.2.2.1 τ
    exact ⟨τ, ⟨(fr', cs', w'), hr', hg, hτ _ _ _ e⟩, hd, tp⟩
  let s0 : S := ⟨(fr, cs, w), hr, h, hnot⟩
  let seq : Nat → S := fun n => Nat.rec s0 (fun _ σ => (nx σ).choose_spec.choose) n
  let ts : Nat → (Nat → Question → Nat) := fun i => (nx (seq i)).choose
  have hseq : ∀ i, (seq i).1.2.2.drawn ≤ (seq (i + 1)).1.2.2.drawn ∧
      ∀ τ2, (∀ j q, (seq i).1.2.2.drawn ≤ j → j < (seq (i + 1)).1.2.2.drawn → τ2 j q = ts i j q) →
        (stepG P true (G (seq i).1.1 ((seq i).1.2.1 ++ [c0 P])) ((seq i).1.2.2.tp τ2)).bare = .go (G (seq (i + 1)).1.1 ((seq (i + 1)).1.2.1 ++ [c0 P])) ((seq (i + 1)).1.2.2.tp τ2) :=
    fun i => (nx (seq i)).choose_spec.choose_spec
  have mono : ∀ i k, (seq i).1.2.2.drawn ≤ (seq (i + k)).1.2.2.drawn := by
    intro i k
    induction k with
    | zero => exact Nat.le_refl _
    | succ k ih => exact Nat.le_trans ih (hseq (i + k)).1
  let D : Nat → Nat := fun i => (seq i).1.2.2.drawn
  let star : Nat → Question → Nat := fun j q => open Classical in if h : ∃ i, D i ≤ j ∧ j < D (i + 1) then ts h.choose j q else 0
  have hstar : ∀ i j q, D i ≤ j → j < D (i + 1) → star j q = ts i j q := by
    intro i j q h1 h2
    have hex : ∃ i, D i ≤ j ∧ j < D (i + 1) := ⟨i, h1, h2⟩
    have hc := hex.choose_spec
    have heq : hex.choose = i := by
      rcases Nat.lt_trichotomy hex.choose i with hlt | heq | hgt
      · have := mono (hex.choose + 1) (i - (hex.choose + 1))
        rw [show hex.choose + 1 + (i - (hex.choose + 1)) = i by omega] at this
        have h3 : D (hex.choose + 1) ≤ D i := this
        omega
      · exact heq
      · have := mono (i + 1) (hex.choose - (i + 1))
        rw [show i + 1 + (hex.choose - (i + 1)) = hex.choose by omega] at this
        have h3 : D (i + 1) ≤ D hex.choose := this
        omega
    have e1 : star j q = ts hex.choose j q := dif_pos hex
    rw [e1, heq]
  have stepS : ∀ i, (stepG P true (G (seq i).1.1 ((seq i).1.2.1 ++ [c0 P])) ((seq i).1.2.2.tp star)).bare = .go (G (seq (i + 1)).1.1 ((seq (i + 1)).1.2.1 ++ [c0 P])) ((seq (i + 1)).1.2.2.tp star) :=
    fun i => (hseq i).2 star fun j q h1 h2 => hstar i j q h1 h2
  have no : ∀ n i, ¬ EndsG P Fin n (seq i).1.1 (seq i).1.2.1 ((seq i).1.2.2.tp star) := by
    intro n
    induction n with
    | zero => intro i hE; exact nofin _ hE.1
    | succ n ih =>
      intro i hE
      rcases hE with hE | ⟨_, fr', cs', w', e, hE⟩
      · exact nofin _ hE.1
      · rw [stepS i] at e
        obtain ⟨rfl, rfl, rfl⟩ := G_inj e
        exact ih (i + 1) hE
  obtain ⟨n, hE⟩ := h star
  exact no n 0 hE
end Go.Sim

/-
  A contract of the lone walk, as a run that goes on whatever the tape answers.
-/
namespace Go.Sim
open Go.Conc (G)
variable {P : Program} {Shd : Nat → Prop} {R : BR}

theorem noDoor : (Extern.next "fmt's door").isNone = true := by kernel_rfl

/-- Behind its return the lone run never stands as it stood. -/
theorem fin_over {Fr fr fr' : Frame} {w w' : World} (h : FR P R fr Fr) (hm : fr.mode = .returning) : ∀ n, runN P (n + 1) (lone fr [c0 P] w) ≠ .next (lone fr' [c0 P] w') := by
  intro n e
  obtain ⟨fn, hf⟩ := h.func
  cases hr : (results fn fr.tmps).run P w with
  | halt x w1 =>
    have hs : ∃ o w2, step P (lone fr [c0 P] w) = .ended o w2 := by
      cases x with
      | stuck t => exact ⟨_, w1, step_lone_ended (by simp [stepG, hm, unwind, h.defers, hf, hr]; rfl)⟩
      | _ => exact ⟨_, w1, step_lone_ended (by simp [stepG, hm, unwind, h.defers, hf, hr]; rfl)⟩
    obtain ⟨o, w2, hs⟩ := hs
    rw [runN, hs] at e
    cases e
  | ok v w1 =>
  have hs : step P (lone fr [c0 P] w) = .next (lone ((c0 P).finish v) [] w1) := step_lone_go (by simp [stepG, hm, unwind, h.defers, hf, hr, doReturn, h.kind])
  rw [runN, hs] at e
  cases n with
  | zero =>
    simp only [runN, Stepped.next.injEq] at e
    obtain ⟨_, x, _⟩ := lone_inj e
    cases x
  | succ n =>
    have hd : Extern.next "fmt's door" = none := by
      have := noDoor
      cases hx : Extern.next "fmt's door" with
      | none => rfl
      | some y => rw [hx] at this; cases this
    have hs2 : ∃ o w2, step P (lone ((c0 P).finish v) [] w1) = .ended o w2 := by
      exact ⟨_, w1, step_lone_ended (by simp [c0, Frame.finish, stepG, stepG.exec, hd]; rfl)⟩
    obtain ⟨o, w2, hs2⟩ := hs2
    simp only [runN, hs2] at e
    cases e

section

theorem endsG_of_run (hS : ∀ b, ¬ Shd b) (hZ : ZeroOK P) (hB : BodiesOK P) {Fin : Frame → World → Prop} {fr' : Frame} {w' : World} (hm : fr'.mode = .returning) (hF : Fin fr' w') : ∀ (n : Nat) {fr : Frame} {cs : List Frame} {w : World}, Rel P Shd fr cs w →
    runN P n (lone fr (cs ++ [c0 P]) w) = .next (lone fr' [c0 P] w') → EndsG P Fin n fr cs w
  | 0, fr, cs, w, hr, e => by
    simp only [runN, Stepped.next.injEq] at e
    obtain ⟨rfl, hc, rfl⟩ := lone_inj e
    have : cs = [] := List.eq_nil_of_length_eq_zero (by simpa using congrArg List.length hc)
    exact ⟨⟨hm, this⟩, hF⟩
  | n + 1, fr, cs, w, hr, e => by
    by_cases hn : IsFin fr cs
    · exfalso
      obtain ⟨h1, rfl⟩ := hn
      obtain ⟨R, Fr, Cs, W, f1, _, _⟩ := hr
      exact fin_over f1 h1 n e
    · rcases rel_step hS hZ hB hr hn with ⟨fr1, cs1, w1, e1, r1, _⟩ | hf
      · have hs := step_lone_go (P := P) (fr := fr) (cs := cs ++ [c0 P]) (w := w) (by exact e1)
        rw [runN, hs] at e
        exact .inr ⟨hn, fr1, cs1, w1, e1, endsG_of_run hS hZ hB hm hF n r1 e⟩
      · exact absurd hf (not_fails hr hn ⟨fr', w', e, hm, hF⟩)
end

/-- What holds when the call returns. -/
def FinQ (P : Program) (Q : Value → World → Prop) (fr : Frame) (w : World) : Prop := ∃ v fn, P.funcs[fr.fn]? = some fn ∧ (∀ r ∈ fn.results, ∃ t, r = .tmp t) ∧ results fn fr.tmps = pure v ∧ Q v w

theorem run_of_calls (hS : ∀ b, ¬ Shd b) (hZ : ZeroOK P) (hB : BodiesOK P) {f : FuncId} {args : Array Value} {w : World} {Q : Value → World → Prop} (hr : Rel P Shd (Frame.enter P f args .normal) [] w) (hQ : ∀ v w τ, Q v w → Q v (w.tp τ))
    {fn : Func} (hf : P.funcs[f]? = some fn) (hres : ∀ r ∈ fn.results, ∃ t, r = .tmp t)
    (hc : ∀ τ, Calls P f args (w.tp τ) fun e w' => match e with | .returned v => Q v w' | _ => False) : Run P (FinQ P Q) (Frame.enter P f args .normal) [] w := by
  refine run_of_good hS hZ hB (fun fr w τ h => ?_) hr fun τ => ?_
  · obtain ⟨v, fn, h1, h0, h2, h3⟩ := h
    exact ⟨v, fn, h1, h0, h2, hQ _ _ _ h3⟩
  · obtain ⟨e, w', fr, hp, hs, h1, h2⟩ := hc τ [c0 P]
    cases e with
    | returned v =>
      obtain ⟨n, hn⟩ := hs
      obtain ⟨hm, _, _, fn', hf', hr'⟩ := h2
      have : fn' = fn := by rw [h1, hf] at hf'; cases hf'; rfl
      subst this
      have hp' : Q v w' := hp
      have : ∃ v', results fn' fr.tmps = pure v' := by
        have K : ∀ (l : List ResultVar), (∀ r ∈ l, ∃ t, r = .tmp t) → ∃ vs : List Value, l.mapM (rdv fr.tmps) = pure vs := by
          intro l
          induction l with
          | nil => exact fun _ => ⟨[], rfl⟩
          | cons r l ih =>
            intro hl
            obtain ⟨x, rfl⟩ := hl r (List.mem_cons_self ..)
            obtain ⟨vs, h2⟩ := ih fun r hr => hl r (List.mem_cons_of_mem _ hr)
            exact ⟨fr.tmps.getD x Go.undef :: vs, by rw [List.mapM_cons, h2]; rfl⟩
        obtain ⟨vs, h2⟩ := K fn'.results.toList (fun r hr' => hres r (by simpa using hr'))
        exact ⟨_, by rw [results_eq, Array.mapM_eq_mapM_toList, h2]; rfl⟩
      obtain ⟨v', hv'⟩ := this
      rw [hv'] at hr'
      cases hr'
      exact ⟨n, endsG_of_run hS hZ hB hm ⟨_, fn', by rw [h1]; exact hf, hres, hv', hp'⟩ n (hr.tp τ) hn⟩
    | panicked ch => exact hp.elim
    | outgrown => exact hp.elim
end Go.Sim

/-
  A child in company: what the others may do meanwhile, what it may do, and how it comes to its send.
-/
namespace Go.Sim
open Go.Conc (G scase rcase)
variable {P : Program} {Shd : Nat → Prop} {R : BR}

/-- The others leave alone what is mine and what I read. -/
structure RelyC (O Rd : Nat → Prop) (W W₁ : World) : Prop where
  size : W.heap.size ≤ W₁.heap.size
  keep : ∀ b, O b ∨ Rd b → W₁.heap[b]? = W.heap[b]?
theorem RelyC.refl (O Rd : Nat → Prop) (W : World) : RelyC O Rd W W := ⟨Nat.le_refl _, fun _ _ => rfl⟩
theorem RelyC.trans {O Rd : Nat → Prop} {W W₁ W₂ : World} (h : RelyC O Rd W W₁) (k : RelyC O Rd W₁ W₂) : RelyC O Rd W W₂ := ⟨Nat.le_trans h.size k.size, fun b hb => (k.keep b hb).trans (h.keep b hb)⟩

/-- What is mine behind a step: what was, and what the step made. -/
def grow (O : Nat → Prop) (W₁ W' : World) (b : Nat) : Prop := O b ∨ (W₁.heap.size ≤ b ∧ b < W'.heap.size)

/-- A plain touch of a block that is mine, or a read of one that I may read. -/
def EvC (O Rd : Nat → Prop) (e : Event) : Prop := e.loc = .mark .noRoom ∨ (e.sync = false ∧ ∃ b, ((∃ A : Addr, e.loc = .cell A ∧ A.block = b) ∨ e.loc = .obj b) ∧ (O b ∨ (Rd b ∧ e.write = false)))

structure GuarC (O Rd : Nat → Prop) (W₁ W' : World) (es : Array Event) : Prop where
  size : W₁.heap.size ≤ W'.heap.size
  keep : ∀ b, b < W₁.heap.size → ¬ O b → W'.heap[b]? = W₁.heap[b]?
  tape : W'.tape = W₁.tape
  os : W'.os = W₁.os
  output : W'.output = W₁.output
  ev : ∀ e ∈ es, EvC (grow O W₁ W') Rd e

/-- It stands at its send, with a value that holds what is asked, whatever the others do; behind it 'Then'. -/
def AtSend (P : Program) (c : Nat) (Post : Value → World → Prop) (Then : Goroutine → Prop) (O : Nat → Prop) (g : Goroutine) (W : World) : Prop :=
  ∃ g₂ V z, stepG P false g W = .comm g₂ #[scase c V z] true .send W #[] ∧ (∀ W', (∀ b, O b → W'.heap[b]? = W.heap[b]?) → Post V W') ∧ Then (Go.Conc.served g₂ undef)

/-- A CHILD ON ITS WAY TO ITS SEND. -/
inductive Ch (P : Program) (c : Nat) (Rd : Nat → Prop) (Post : Value → World → Prop) (Then : Goroutine → Prop) : (Nat → Prop) → Goroutine → World → Prop
  | go {O : Nat → Prop} {g : Goroutine} {W : World} : g.status = .running → (∀ W₁, RelyC O Rd W W₁ → ∃ g' W' es, stepG P false g W₁ = .go g' W' es ∧ GuarC O Rd W₁ W' es) →
      (∀ W₁ g' W' es, RelyC O Rd W W₁ → stepG P false g W₁ = .go g' W' es → Ch P c Rd Post Then (grow O W₁ W') g' W') → Ch P c Rd Post Then O g W
  | send {O : Nat → Prop} {g : Goroutine} {W : World} : g.status = .running → (∀ W₁, RelyC O Rd W W₁ → AtSend P c Post Then O g W₁) → Ch P c Rd Post Then O g W

theorem Ch.running {c : Nat} {Rd : Nat → Prop} {Post : Value → World → Prop} {Then : Goroutine → Prop} {O : Nat → Prop} {g : Goroutine} {W : World} (h : Ch P c Rd Post Then O g W) : g.status = .running := by cases h <;> assumption
theorem Ch.rely {c : Nat} {Rd : Nat → Prop} {Post : Value → World → Prop} {Then : Goroutine → Prop} {O : Nat → Prop} {g : Goroutine} {W W₁ : World} (h : Ch P c Rd Post Then O g W) (hr : RelyC O Rd W W₁) : Ch P c Rd Post Then O g W₁ := by
  cases h with
  | go h1 h2 h3 => exact .go h1 (fun W₂ k => h2 W₂ (hr.trans k)) fun W₂ g' W' es k e => h3 W₂ g' W' es (hr.trans k) e
  | send h1 h2 => exact .send h1 fun W₂ k => h2 W₂ (hr.trans k)

/-- One step that is the same whatever the others did. -/
theorem Ch.one {c : Nat} {Rd : Nat → Prop} {Post : Value → World → Prop} {Then : Goroutine → Prop} {O : Nat → Prop} {g : Goroutine} {W : World} (h1 : g.status = .running)
    (h : ∀ W₁, RelyC O Rd W W₁ → ∃ g' W' es, stepG P false g W₁ = .go g' W' es ∧ GuarC O Rd W₁ W' es ∧ Ch P c Rd Post Then (grow O W₁ W') g' W') : Ch P c Rd Post Then O g W := by
  refine .go h1 (fun W₁ k => ?_) fun W₁ g' W' es k e => ?_
  · obtain ⟨g', W', es, e, hg, _⟩ := h W₁ k
    exact ⟨g', W', es, e, hg⟩
  · obtain ⟨g2, W2, es2, e2, _, hc⟩ := h W₁ k
    rw [e] at e2
    cases e2
    exact hc

theorem run_bad {Fin : Frame → World → Prop} {fr : Frame} {cs : List Frame} {w : World} (h : Run P Fin fr cs w) : ¬ Bad (P := P) fr cs := by
  induction h with
  | fin hf _ =>
    intro hb
    obtain ⟨ch, hm⟩ := hb.mode
    have := hf.1
    rw [hm] at this; cases this
  | @step fr cs w hn hex hst ih =>
    intro hb
    obtain ⟨ch, hm⟩ := hb.mode
    obtain ⟨f, hf⟩ := hb.func
    have hc : fr.catches P = false := by unfold Frame.catches; simp [hf]
    cases cs with
    | cons c cs =>
      have hs : (stepG P true (G fr (c :: cs ++ [c0 P])) (w.tp w.tape)).bare = .go (G (c.raise ch) (cs ++ [c0 P])) (w.tp w.tape) := by simp [stepG, G, hm, unwind, hb.defers, hc]
      have hcc := hb.callers c (List.mem_cons_self ..)
      exact ih w.tape _ _ _ hs ⟨raise_mode _ _, by rw [raise_defers]; exact hcc.1, by rw [raise_fn]; exact hcc.2, fun x hx => hb.callers x (List.mem_cons_of_mem _ hx)⟩
    | nil =>
      obtain ⟨fr', cs', w', e⟩ := hex w.tape
      have hs : (stepG P true (G fr ([] ++ [c0 P])) (w.tp w.tape)).bare = .go (G ((c0 P).raise ch) []) (w.tp w.tape) := by simp [stepG, G, hm, unwind, hb.defers, hc]
      rw [hs] at e
      simp only [GStep.go.injEq, G, Goroutine.mk.injEq] at e
      have := e.1.2.1
      simp at this

theorem WR.rely {O Rd : Nat → Prop} {w W W₁ : World} (h : WR P Shd R w W) (hO : ∀ b B, R b B → (Shd b ∧ Rd B) ∨ (¬ Shd b ∧ O B)) (hr : RelyC O Rd W W₁) : WR P Shd R w W₁ := by
  refine ⟨fun b B hb => ?_, h.inj, h.shd, h.low, h.glob.1, Nat.le_trans h.glob.2 hr.size⟩
  obtain ⟨o, O', h1, h2, h3⟩ := h.dom b B hb
  refine ⟨o, O', h1, ?_, h3⟩
  rw [hr.keep B ((hO b B hb).elim (fun x => .inr x.2) fun x => .inl x.2), h2]

/-- A CALL IN COMPANY, BY ITS LONE RUN. -/
theorem ch_run (hS : ∀ b, ¬ Shd b) (hZ : ZeroOK P) (hB : BodiesOK P) {c : Nat} {Rd : Nat → Prop} {Post : Value → World → Prop} {Then : Goroutine → Prop} {Fin : Frame → World → Prop} {K : List Frame} {fr : Frame} {cs : List Frame} {w : World} (h : Run P Fin fr cs w) :
    ∀ {R : BR} {O : Nat → Prop} {Fr : Frame} {Cs : List Frame} {W : World}, FR P R fr Fr → FRs P R cs Cs → WR P Shd R w W → (∀ b B, R b B → (Shd b ∧ Rd B) ∨ (¬ Shd b ∧ O B)) → (∀ b, Rd b → b < W.heap.size ∧ ¬ O b) →
      (∀ {R' : BR} {O' : Nat → Prop} {fr' Fr' : Frame} {w' W' : World}, FR P R' fr' Fr' → fr'.mode = .returning → Fin fr' w' → WR P Shd R' w' W' → (∀ b B, R' b B → (Shd b ∧ Rd B) ∨ (¬ Shd b ∧ O' B)) → (∀ b, O b → O' b) → RelyC (fun _ => False) Rd W W' → (∀ b, Rd b → ¬ O' b) →
        Ch P c Rd Post Then O' (G Fr' K) W') → Ch P c Rd Post Then O (G Fr (Cs ++ K)) W := by
  induction h with
  | @fin fr cs w hf hF =>
    intro R O Fr Cs W h1 h2 h3 h4 h5 hk
    obtain ⟨hm, rfl⟩ := hf
    cases Cs with
    | nil => exact hk h1 hm hF h3 h4 (fun _ h => h) (RelyC.refl _ _ _) fun b hb => (h5 b hb).2
    | cons _ _ => exact h2.elim
  | @step fr cs w hn hex hst ih =>
    intro R O Fr Cs W h1 h2 h3 h4 h5 hk
    refine Ch.one rfl fun W₁ hr => ?_
    have hw1 := h3.rely h4 hr
    have hs := step_sim hS hZ hB (c0 := c0 P) (K := K) (w := w.tp (mt W₁ w)) h1 h2 (hw1.tp (mt W₁ w) W₁.tape) (fun j q => by show mt W₁ w (w.drawn + j) q = _; simp [mt, World.tp]) (fun hm hc => hn ⟨hm, hc⟩) true false
    rcases hs with hs | hf
    · obtain ⟨fr', cs', w', e, R', Fr', Cs', W', Es, E, f1, f2, f3, x, ev, _⟩ := hs
      have hO' : ∀ b B, R' b B → (Shd b ∧ Rd B) ∨ (¬ Shd b ∧ grow O W₁ W' B) := by
        intro b B hb
        rcases x.new b B hb with hb' | ⟨y1, y2⟩
        · rcases h4 b B hb' with h | h
          · exact .inl h
          · exact .inr ⟨h.1, .inl h.2⟩
        · refine .inr ⟨fun hS => ?_, .inr ⟨y2, (f3.old hb).2⟩⟩
          have := h3.shd b hS
          have y1' : w.heap.size ≤ b := y1
          omega
      refine ⟨_, W', Es, E, ?_, ?_⟩
      · refine ⟨x.size, fun b hb hno => x.keep b hb fun b' hb' => ?_, x.tape, x.os, x.output, fun e he => ?_⟩
        · rcases h4 b' b hb' with h | h
          · exact h.1
          · exact absurd h.2 hno
        · rcases ev e he with h | ⟨h0, b, B, hb, ht, hwr⟩
          · exact .inl h
          · refine .inr ⟨h0, B, ht, ?_⟩
            rcases hO' b B hb with h | h
            · refine .inr ⟨h.2, ?_⟩
              cases hx : e.write with
              | false => rfl
              | true => exact absurd h.1 (hwr hx)
            · exact .inl h.2
      · have h5' : ∀ b, Rd b → b < W'.heap.size ∧ ¬ grow O W₁ W' b := by
          intro b hb
          have := h5 b hb
          have s1 := hr.size
          have s2 : W₁.heap.size ≤ W'.heap.size := x.size
          refine ⟨by omega, fun hg => hg.elim this.2 fun y => ?_⟩
          omega
        refine ih (mt W₁ w) fr' cs' w' e f1 f2 f3 hO' h5' ?_
        intro R2 O2 fr2 Fr2 w2 W2 g1 g2 g3 g4 g5 g6 g7 g8
        refine hk g1 g2 g3 g4 g5 (fun b hb => g6 b (.inl hb)) ⟨Nat.le_trans hr.size (Nat.le_trans x.size g7.size), fun b hb => ?_⟩ g8
        have hb' : Rd b := hb.elim False.elim id
        rw [g7.keep b hb, x.keep b ?_ ?_, ← hr.keep b (.inr hb')]
        · rfl
        · have := (h5 b hb').1
          exact Nat.lt_of_lt_of_le this hr.size
        · intro b' hb2
          rcases h4 b' b hb2 with h | h
          · exact h.1
          · exact absurd h.2 (h5 b hb').2
    · exfalso
      rcases hf with ⟨fr1, w1, hs, hp, hd, hfn⟩ | ⟨o, w1, hs⟩
      · exact run_bad (hst (mt W₁ w) fr1 cs w1 hs) ⟨hp, hd, hfn, h2.bad⟩
      · obtain ⟨fr', cs', w', e⟩ := hex (mt W₁ w)
        rw [hs] at e
        cases e
end Go.Sim
