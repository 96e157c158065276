/-
  The program's own functions are such as the simulation bears: shown by closed tests.
-/
import Derived.Test.YtlndinigbppafaaChF
import Derived.KernelRfl
namespace Go.Sim
variable {P : Program}

def bareB (T : Nat) : Nat → Value → Bool
  | 0, _ => false
  | n + 1, v => match v with
    | .bool _ | .int _ _ | .string _ | .pointer none | .slice none _ _ | .map none | .chan none | .nilFunc | .nilIface => true
    | .iface t v => decide (t < T) && bareB T n v
    | .agg cs | .tuple cs => cs.all (bareB T n)
    | _ => false
theorem bareB_ok : ∀ (n : Nat) {v : Value}, bareB P.types.size n v = true → ∀ R, VR P R v v
  | 0, _, h, _ => by cases h
  | n + 1, v, h, R => by
    have arr : ∀ {cs : Array Value}, cs.all (bareB P.types.size n) = true → ∀ (i : Nat) v V, cs[i]? = some v → cs[i]? = some V → VR P R v V := by
      intro cs hcs i v V h1 h2
      rw [h1] at h2; cases h2
      rw [Array.all_eq_true_iff_forall_mem] at hcs
      exact bareB_ok n (hcs v (Array.mem_of_getElem? h1)) R
    cases v with
    | bool b => exact .bool b
    | int k m => exact .int k m
    | string s => exact .string s
    | pointer a => cases a with
      | none => exact .nilPtr
      | some _ => simp [bareB] at h
    | slice a l c => cases a with
      | none => exact .nilSlice l c
      | some _ => simp [bareB] at h
    | map a => cases a with
      | none => exact .nilMap
      | some _ => simp [bareB] at h
    | chan a => cases a with
      | none => exact .nilChan
      | some _ => simp [bareB] at h
    | nilFunc => exact .nilFunc
    | nilIface => exact .nilIface
    | iface t v =>
      simp only [bareB, Bool.and_eq_true, decide_eq_true_eq] at h
      exact .iface t h.1 (bareB_ok n h.2 R)
    | agg cs => exact .agg rfl (arr (by simpa only [bareB] using h))
    | tuple cs => exact .tuple rfl (arr (by simpa only [bareB] using h))
    | float _ _ => simp [bareB] at h
    | complex _ _ _ => simp [bareB] at h
    | func _ _ _ => simp [bareB] at h

def zeroB (P : Program) : Bool := P.types.all fun i => match i.zero with | none => true | some z => bareB P.types.size 30 z
theorem zeroB_ok (hi : ∀ t i, t < P.types.size → P.info? t = some i → P.types[t]? = some i) (h : zeroB P = true) : ZeroOK P := by
  intro t i z hl h1 h2 R
  unfold zeroB at h
  rw [Array.all_eq_true_iff_forall_mem] at h
  have := h i (Array.mem_of_getElem? (hi t i hl h1))
  rw [h2] at this
  exact bareB_ok 30 this R

def bodyB (P : Program) (f : FuncId) : Bool := match P.funcs[f]? with
  | some fn => fn.body.isSome && names.contains fn.name
  | none => false
theorem bodyB_ok {f : FuncId} (h : bodyB P f = true) : BodyOK P f := by
  unfold bodyB at h
  split at h
  · rename_i fn hf
    simp only [Bool.and_eq_true, List.contains_iff_mem] at h
    exact ⟨fn, hf, h.1, h.2⟩
  · cases h
def methB (P : Program) (name : String) : Bool := P.types.all fun i => match i.methods.find? (·.name == name) with
  | none => true
  | some m => m.path.isEmpty && (match m.func with | some (f, _) => bodyB P f | none => false)
theorem methB_ok (hi : ∀ t i, t < P.types.size → P.info? t = some i → P.types[t]? = some i) {name : String} (h : methB P name = true) : MethOK P name := by
  intro t i m hl h1 h2
  unfold methB at h
  rw [Array.all_eq_true_iff_forall_mem] at h
  have := h i (Array.mem_of_getElem? (hi t i hl h1))
  simp only [h2, Bool.and_eq_true] at this
  refine ⟨by simpa using this.1, ?_⟩
  cases hf : m.func with
  | none => rw [hf] at this; cases this.2
  | some p =>
    obtain ⟨f, pr⟩ := p
    rw [hf] at this
    exact ⟨f, pr, rfl, bodyB_ok this.2⟩
def fnB (P : Program) : Fn → Bool
  | .func f => bodyB P f
  | .method name => methB P name
  | _ => false
theorem fnB_ok (hi : ∀ t i, t < P.types.size → P.info? t = some i → P.types[t]? = some i) {f : Fn} (h : fnB P f = true) : FnOK P f := by
  cases f with
  | func f => exact bodyB_ok h
  | method n => exact methB_ok hi h
  | _ => cases h
def opdB (P : Program) : Operand → Bool
  | .tmp _ => true
  | .const v => bareB P.types.size 30 v
  | .global _ => false
  | .func f => bodyB P f
theorem opdB_ok {x : Operand} (h : opdB P x = true) : OperandOK P x := by
  cases x with
  | tmp _ => trivial
  | const v => exact bareB_ok 30 h
  | global _ => cases h
  | func f => exact bodyB_ok h
def fieldB (P : Program) (s : TypeId) (i : Nat) : Bool := match P.underlying s with
  | some (.struct fs) => match fs[i]? with
    | some f => match P.info? f.type with
      | some x => x.size != 0
      | none => true
    | none => true
  | _ => true
theorem fieldB_ok {s : TypeId} {i : Nat} (h : fieldB P s i = true) : FieldOK P s i := by
  intro fs f x h1 h2 h3
  unfold fieldB at h
  simp only [h1, h2, h3] at h
  simpa using h
def elemB (P : Program) (t : TypeId) : Bool := match P.underlying t with | some (.slice e) => decide (e < P.types.size) | _ => true
theorem elemB_ok {t : TypeId} (h : elemB P t = true) : ∀ e, P.underlying t = some (.slice e) → e < P.types.size := by
  intro e he
  unfold elemB at h
  rw [he] at h
  simpa using h
def structB (P : Program) (t : TypeId) : Bool := match P.underlying t with | some (.struct _) => true | _ => false
def sliceB (P : Program) (t : TypeId) : Bool := match P.underlying t with | some (.slice _) => true | _ => false
def intB (P : Program) (t : TypeId) : Bool := match P.underlying t with | some (.int _) => true | _ => false
def stringB (P : Program) (t : TypeId) : Bool := match P.underlying t with | some .string => true | _ => false
def bytesB (P : Program) (t : TypeId) : Bool := match P.underlying t with | some (.slice e) => (match P.underlying e with | some (.int .u8) => true | _ => false) | _ => false
theorem structB_ok {t : TypeId} (h : structB P t = true) : ∃ fs, P.underlying t = some (.struct fs) := by unfold structB at h; split at h; exact ⟨_, by assumption⟩; cases h
theorem sliceB_ok {t : TypeId} (h : sliceB P t = true) : ∃ e, P.underlying t = some (.slice e) := by unfold sliceB at h; split at h; exact ⟨_, by assumption⟩; cases h
theorem intB_ok {t : TypeId} (h : intB P t = true) : ∃ k, P.underlying t = some (.int k) := by unfold intB at h; split at h; exact ⟨_, by assumption⟩; cases h
theorem stringB_ok {t : TypeId} (h : stringB P t = true) : P.underlying t = some .string := by unfold stringB at h; split at h; assumption; cases h
theorem bytesB_ok {t : TypeId} (h : bytesB P t = true) : ∃ e, P.underlying t = some (.slice e) ∧ P.underlying e = some (.int .u8) := by
  unfold bytesB at h
  split at h
  · rename_i e he
    split at h
    · exact ⟨e, he, by assumption⟩
    · cases h
  · cases h
def plainB (P : Program) (t : TypeId) : Bool := match P.underlying t with
  | some (.int _) => (match P.info? t with | some i => (match i.desc with | .named n _ => n != "sync.copyChecker" | _ => true) | none => true)
  | some .string => true
  | some (.pointer e) => (match P.info? e with | some i => i.size != 0 | none => true)
  | _ => false
theorem plainB_ok {t : TypeId} (h : plainB P t = true) : Plain P t := by
  unfold plainB at h
  split at h
  · rename_i k hk
    refine .inl ⟨k, hk, fun i u hi hd => ?_⟩
    rw [hi] at h
    simp only [hd] at h
    simp at h
  · rename_i hk; exact .inr (.inl hk)
  · rename_i e he
    refine .inr (.inr ⟨e, he, fun i hi => ?_⟩)
    rw [hi] at h
    simpa using h
  · cases h
theorem addB_ok {t : TypeId} (h : (intB P t || stringB P t) = true) : ∃ d0, P.underlying t = some d0 ∧ ((∃ k, d0 = .int k) ∨ d0 = .string) := by
  rcases Bool.or_eq_true_iff.1 h with h | h
  · obtain ⟨k, hk⟩ := intB_ok h
    exact ⟨_, hk, .inl ⟨k, rfl⟩⟩
  · exact ⟨_, stringB_ok h, .inr rfl⟩
def opB (P : Program) : Op → Bool
  | .move x | .assign x => opdB P x
  | .pick c a b => opdB P c && opdB P a && opdB P b
  | .alloc t => decide (t < P.types.size)
  | .box _ x => opdB P x
  | .build t parts => decide (t < P.types.size) && structB P t && parts.all fun p => opdB P p.2
  | .buildSlice t _ parts => elemB P t && parts.all fun p => opdB P p.2
  | .load _ a => opdB P a
  | .store _ a x => opdB P a && opdB P x
  | .nilCheck x => opdB P x
  | .binOp op t x y _ => opdB P x && opdB P y && (match op with
    | .lss | .leq | .gtr | .shl | .shr | .geq | .mul | .quo | .or | .rem => true
    | .add | .sub => intB P t || stringB P t
    | .eql | .neq => plainB P t
    | _ => false)
  | .unOp op _ x => (match op with | .not | .neg => true | _ => false) && opdB P x
  | .convert src dst x => opdB P x && ((intB P src && intB P dst) || (stringB P src && bytesB P dst) || (stringB P dst && bytesB P src) || (decide (src = dst) && bytesB P dst))
  | .makeInterface t x => decide (t < P.types.size) && opdB P x
  | .makeFunc f a b => fnB P f && a.all (opdB P) && b.all (opdB P)
  | .slice t x lo hi mx => (sliceB P t || stringB P t) && opdB P x && lo.all (opdB P) && hi.all (opdB P) && mx.all (opdB P)
  | .fieldAddr s x f => fieldB P s f && opdB P x
  | .field _ x _ => opdB P x
  | .indexAddr _ x i => opdB P x && opdB P i
  | .index t x i => stringB P t && opdB P x && opdB P i
  | .makeSlice t l c => sliceB P t && elemB P t && opdB P l && opdB P c
  | .extract x _ => opdB P x
  | .panic _ => true
  | .call c => c.args.all (opdB P) && (match c.callee with
    | .builtin .len => (match c.argTypes with | ⟨[t]⟩ => stringB P t || sliceB P t | _ => false)
    | .builtin .cap => (match c.argTypes with | ⟨[t]⟩ => sliceB P t | _ => false)
    | .builtin .append => (match c.argTypes with | ⟨[t, _]⟩ => sliceB P t && elemB P t | _ => false)
    | .builtin .copy => (match c.argTypes with | ⟨[t, _]⟩ => sliceB P t | _ => false)
    | .builtin .unsafeString => (match c.argTypes, c.args with | ⟨[_, _]⟩, ⟨[_, _]⟩ => true | _, _ => false)
    | .builtin _ => false
    | .value f => opdB P f
    | .invoke r name => opdB P r && methB P name)
  | _ => false
theorem all_opd {l : Array Operand} (h : l.all (opdB P) = true) : ∀ x ∈ l, OperandOK P x := fun x hx => opdB_ok ((Array.all_eq_true_iff_forall_mem.1 h) x hx)
theorem opB_ok (hi : ∀ t i, t < P.types.size → P.info? t = some i → P.types[t]? = some i) {o : Op} (h : opB P o = true) : OpOK P o := by
  cases o with
  | move x => exact opdB_ok h
  | assign x => exact opdB_ok h
  | pick c a b => simp only [opB, Bool.and_eq_true] at h; exact ⟨opdB_ok h.1.1, opdB_ok h.1.2, opdB_ok h.2⟩
  | alloc t => simp only [opB, decide_eq_true_eq] at h; exact h
  | box t x => exact opdB_ok h
  | build t parts =>
    simp only [opB, Bool.and_eq_true, Array.all_eq_true_iff_forall_mem] at h
    exact ⟨by simpa using h.1.1, structB_ok h.1.2, fun p hp => opdB_ok (h.2 p hp)⟩
  | buildSlice t n parts =>
    simp only [opB, Bool.and_eq_true, Array.all_eq_true_iff_forall_mem] at h
    exact ⟨elemB_ok h.1, fun p hp => opdB_ok (h.2 p hp)⟩
  | load t a => exact opdB_ok h
  | store t a x => simp only [opB, Bool.and_eq_true] at h; exact ⟨opdB_ok h.1, opdB_ok h.2⟩
  | nilCheck x => exact opdB_ok h
  | binOp op t x y ty =>
    simp only [opB, Bool.and_eq_true] at h
    refine ⟨opdB_ok h.1.1, opdB_ok h.1.2, ?_⟩
    have h2 := h.2
    cases op <;> first
      | (cases h2; done)
      | exact .inl (.inl rfl)
      | exact .inl (.inr (.inl rfl))
      | exact .inl (.inr (.inr rfl))
      | exact .inr (.inl ⟨.inl rfl, addB_ok h2⟩)
      | exact .inr (.inl ⟨.inr rfl, addB_ok h2⟩)
      | exact .inr (.inr (.inl (.inl rfl)))
      | exact .inr (.inr (.inl (.inr rfl)))
      | exact .inr (.inr (.inr (.inr (.inl rfl))))
      | exact .inr (.inr (.inr (.inr (.inr (.inl (.inl rfl))))))
      | exact .inr (.inr (.inr (.inr (.inr (.inl (.inr (.inl rfl)))))))
      | exact .inr (.inr (.inr (.inr (.inr (.inl (.inr (.inr rfl)))))))
      | exact .inr (.inr (.inr (.inr (.inr (.inr (.inl rfl))))))
      | exact .inr (.inr (.inr (.inr (.inr (.inr (.inr ⟨.inl rfl, plainB_ok h2⟩))))))
      | exact .inr (.inr (.inr (.inr (.inr (.inr (.inr ⟨.inr rfl, plainB_ok h2⟩))))))
  | unOp op t x =>
    simp only [opB, Bool.and_eq_true] at h
    cases op <;> first | (have := h.1; cases this; done) | exact ⟨.inl rfl, opdB_ok h.2⟩ | exact ⟨.inr rfl, opdB_ok h.2⟩
  | convert a b x =>
    simp only [opB, Bool.and_eq_true, Bool.or_eq_true] at h
    refine ⟨opdB_ok h.1, ?_⟩
    rcases h.2 with ((h2 | h2) | h2) | h2
    · obtain ⟨k, hk⟩ := intB_ok h2.1
      obtain ⟨k', hk'⟩ := intB_ok h2.2
      exact .inl ⟨k, k', hk, hk'⟩
    · exact .inr (.inl ⟨stringB_ok h2.1, bytesB_ok h2.2⟩)
    · exact .inr (.inr (.inl ⟨stringB_ok h2.1, bytesB_ok h2.2⟩))
    · exact .inr (.inr (.inr ⟨by simpa using h2.1, bytesB_ok h2.2⟩))
  | makeInterface t x => simp only [opB, Bool.and_eq_true, decide_eq_true_eq] at h; exact ⟨h.1, opdB_ok h.2⟩
  | makeFunc f a b => simp only [opB, Bool.and_eq_true] at h; exact ⟨fnB_ok hi h.1.1, all_opd h.1.2, all_opd h.2⟩
  | slice t x lo hi' mx =>
    simp only [opB, Bool.and_eq_true, Bool.or_eq_true] at h
    have oo : ∀ {o : Option Operand}, o.all (opdB P) = true → ∀ y ∈ o, OperandOK P y := by
      intro o ho y hy
      cases hy
      exact opdB_ok (by simpa using ho)
    exact ⟨h.1.1.1.1.imp sliceB_ok stringB_ok, opdB_ok h.1.1.1.2, oo h.1.1.2, oo h.1.2, oo h.2⟩
  | fieldAddr s x f => simp only [opB, Bool.and_eq_true] at h; exact ⟨fieldB_ok h.1, opdB_ok h.2⟩
  | field t x f => exact opdB_ok h
  | indexAddr t x i => simp only [opB, Bool.and_eq_true] at h; exact ⟨opdB_ok h.1, opdB_ok h.2⟩
  | index t x i => simp only [opB, Bool.and_eq_true] at h; exact ⟨stringB_ok h.1.1, opdB_ok h.1.2, opdB_ok h.2⟩
  | makeSlice t l c =>
    simp only [opB, Bool.and_eq_true] at h
    obtain ⟨e, he⟩ := sliceB_ok h.1.1.1
    exact ⟨⟨e, he, elemB_ok h.1.1.2 e he⟩, opdB_ok h.1.2, opdB_ok h.2⟩
  | extract x i => exact opdB_ok h
  | panic x => trivial
  | call c =>
    simp only [opB, Bool.and_eq_true] at h
    refine ⟨all_opd h.1, ?_⟩
    have h2 := h.2
    cases hc : c.callee with
    | value f => rw [hc] at h2; exact opdB_ok h2
    | invoke r name => rw [hc] at h2; simp only [Bool.and_eq_true] at h2; exact ⟨opdB_ok h2.1, methB_ok hi h2.2⟩
    | builtin b =>
      rw [hc] at h2
      cases b <;> first | (cases h2; done) | skip
      · dsimp only at h2
        split at h2
        · rename_i t t2 ha
          rw [Bool.and_eq_true] at h2
          obtain ⟨e, he⟩ := sliceB_ok h2.1
          exact ⟨t, t2, e, ha, he, elemB_ok h2.2 e he⟩
        · cases h2
      · dsimp only at h2
        split at h2
        · rename_i t ha
          obtain ⟨e, he⟩ := sliceB_ok h2
          exact ⟨t, e, ha, he⟩
        · cases h2
      · dsimp only at h2
        split at h2
        · rename_i t t2 ha
          obtain ⟨e, he⟩ := sliceB_ok h2
          exact ⟨t, t2, e, ha, he⟩
        · cases h2
      · dsimp only at h2
        split at h2
        · rename_i t ha
          rw [Bool.or_eq_true] at h2
          exact ⟨t, ha, h2.imp stringB_ok sliceB_ok⟩
        · cases h2
      · dsimp only at h2
        split at h2
        · rename_i t t2 x y ha hb
          exact ⟨t, t2, x, y, ha, hb⟩
        · cases h2
  | _ => cases h
def codeB (P : Program) : Code → Bool
  | .region _ ops _ => ops.all fun o => opB P o.op
  | .seq a b => codeB P a && codeB P b
  | .cond c a b => opdB P c && codeB P a && codeB P b
  | .block _ c | .loop c | .scope c => codeB P c
  | .exit _ | .ret | .skip | .label _ => true
  | _ => false
theorem codeB_ok (hi : ∀ t i, t < P.types.size → P.info? t = some i → P.types[t]? = some i) : ∀ {c : Code}, codeB P c = true → CodeOK P c
  | .region _ ops _, h => fun o ho => opB_ok hi ((Array.all_eq_true_iff_forall_mem.1 h) o ho)
  | .seq a b, h => by simp only [codeB, Bool.and_eq_true] at h; exact ⟨codeB_ok hi h.1, codeB_ok hi h.2⟩
  | .cond c a b, h => by simp only [codeB, Bool.and_eq_true] at h; exact ⟨opdB_ok h.1.1, codeB_ok hi h.1.2, codeB_ok hi h.2⟩
  | .block _ c, h => codeB_ok (c := c) hi h
  | .loop c, h => codeB_ok (c := c) hi h
  | .scope c, h => codeB_ok (c := c) hi h
  | .exit _, _ => trivial
  | .ret, _ => trivial
  | .skip, _ => trivial
  | .label _, _ => trivial
  | .goto _, h => by cases h
  | .refuse _, h => by cases h
  | .rangeFunc _ _ _ _, h => by cases h
def bodiesB (P : Program) : Bool := P.funcs.all fun fn => !(names.contains fn.name) || (match fn.body with
  | some c => codeB P c
  | none => true)
theorem bodiesB_ok (hi : ∀ t i, t < P.types.size → P.info? t = some i → P.types[t]? = some i) (h : bodiesB P = true) : BodiesOK P := by
  intro f fn c h1 h2 h3
  unfold bodiesB at h
  rw [Array.all_eq_true_iff_forall_mem] at h
  have := h fn (Array.mem_of_getElem? h1)
  rw [show names.contains fn.name = true from List.contains_iff_mem.2 h2, h3] at this
  simp only [Bool.not_true, Bool.false_or] at this
  exact codeB_ok hi this
end Go.Sim

namespace Go.Proofs.Ytlndinigbppafaa
open Go.Sim
theorem infos (t : TypeId) (i : TypeInfo) (hl : t < Try.prog.types.size) (h : Try.prog.info? t = some i) : Try.prog.types[t]? = some i := by
  unfold Tables.info? at h
  rw [if_pos hl] at h
  exact h
theorem zeroOK : ZeroOK Try.prog := zeroB_ok infos (by kernel_rfl)
theorem bodiesOK : BodiesOK Try.prog := bodiesB_ok infos (by kernel_rfl)
end Go.Proofs.Ytlndinigbppafaa
