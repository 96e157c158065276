/-
  Texts of ours, joined: CanA, ChK, CanB, CanC, CanD, CanF, ChL, CanG, CanH, SimP, SimQ, CanP.
-/
import Derived.Test.YtlndinigbppafaaJ38
import Derived.Test.YtlndinigbppafaaChF
import Derived.KernelRfl
import Derived.Conc.Own5
import Derived.Conc.Pipeline3
import Derived.Listen
import Derived.Test.YtlndinigbppafaaSimN
/-
  Goroutine 0 on its way beside others that only leave: whatever the tape, the machine goes as it goes.
-/
namespace Go.Proofs.Ytlndinigbppafaa
open Go.Sim Go.Conc Go.Fi

/-- The same but for the tape and its place. -/
structure Eqv (w w₁ : World) : Prop where
  heap : w₁.heap = w.heap
  os : w₁.os = w.os
  output : w₁.output = w.output
theorem Eqv.refl (w : World) : Eqv w w := ⟨rfl, rfl, rfl⟩
theorem Eqv.trans {a b c : World} (h : Eqv a b) (k : Eqv b c) : Eqv a c := ⟨k.heap.trans h.heap, k.os.trans h.os, k.output.trans h.output⟩
theorem Eqv.symm {a b : World} (h : Eqv a b) : Eqv b a := ⟨h.heap.symm, h.os.symm, h.output.symm⟩
theorem Eqv.td {w w₁ : World} (h : Eqv w w₁) : w₁ = w.td w₁.tape w₁.drawn := by
  obtain ⟨h1, h2, h3⟩ := h
  cases w₁
  simp only at h1 h2 h3
  subst h1; subst h2; subst h3
  rfl
theorem eqv_td (w : World) (τ : Nat → Question → Nat) (d : Nat) : Eqv w (w.td τ d) := ⟨rfl, rfl, rfl⟩

/-- All but goroutine 0 only leave; goroutine 0 knows all; what is touched is there. -/
structure Cm (qs : List Nat) (gs : Array Goroutine) (w : World) (t : Trace) : Prop where
  size : gs.size = qs.length + 1
  old : ∀ (k q : Nat), qs[k]? = some q → ∃ g, gs[k + 1]? = some g ∧ QuitsIn Try.prog q g
  tr : TrI t fun _ => none
  low : ∀ i a b, touchAt t i = some a → blockOf a.loc = some b → b < w.heap.size

theorem quits_rf {q : Nat} {g : Goroutine} (h : QuitsIn Try.prog q g) : g.status = .running ∨ g.status = .finished := by
  cases q with
  | zero => exact .inr h
  | succ q => exact h.elim .inr fun y => .inl y.1

theorem tri_none_own {t u : Trace} (h : TrI t fun _ => none) (hu : ∀ op ∈ u, op.g = 0) (hw : Wordless u) : TrI (t ++ u) fun _ => none := by
  refine ⟨h.wl.append hw, fun said => noRace_append (h.clean said) hu fun i a ha op hop b hopb hc => h.known i a ha hc.2.1, fun i a ha hm => .inl ?_, (fun γ x i a b hk => (by cases hk)), (fun γ x i a b hk => (by cases hk)), (fun γ x i a hk => (by cases hk)), rfl, (fun γ γ' x x' b hk => (by cases hk)), (fun γ x b hk => (by cases hk))⟩
  rcases touchAt_cases ha with ⟨hi, ha'⟩ | ⟨_, op, ho, hi, _⟩
  · exact (h.known i a ha' hm).app u
  · have := knows_own hi
    rw [hu _ ho] at this
    exact this

theorem evF_block {n : Nat} {e : Event} {a : Touch} (h : EvF n e) (ht : (MemAct.ofEvent e).touch? = some a) {b : Nat} (hb : blockOf a.loc = some b) : b < n := by
  obtain ⟨loc, wr, sy⟩ := e
  rcases h with h | ⟨b', h1, h2⟩
  · simp only at h
    subst h
    simp [MemAct.ofEvent, MemAct.touch?] at ht
  · simp only at h1
    cases loc with
    | cell A =>
      simp [MemAct.ofEvent, MemAct.touch?] at ht
      subst ht
      simp only [blk, Option.some.injEq] at h1
      simp only [blockOf, Option.some.injEq] at hb
      omega
    | obj r =>
      simp only [blk, Option.some.injEq] at h1
      have : a.loc = .obj r := by
        cases wr <;> cases sy <;> simp [MemAct.ofEvent, MemAct.touch?] at ht <;> first | (rw [← ht]) | skip
      rw [this] at hb
      simp only [blockOf, Option.some.injEq] at hb
      omega
    | output => cases h1
    | goroutines => cases h1
    | mark m => cases h1
theorem evF_mark {n : Nat} {e : Event} {m : Mark} (h : EvF n e) (ht : MemAct.ofEvent e = .mark m) : Neutral m := by
  obtain ⟨loc, wr, sy⟩ := e
  rcases h with h | ⟨b', h1, h2⟩
  · simp only at h
    subst h
    simp [MemAct.ofEvent] at ht
    exact ht.symm
  · simp only at h1
    cases loc with
    | cell A => simp [MemAct.ofEvent] at ht
    | obj r => cases wr <;> cases sy <;> simp [MemAct.ofEvent] at ht
    | output => cases h1
    | goroutines => cases h1
    | mark m => cases h1

/-- The machine comes to such a state. -/
def Ev (Gl : Array Goroutine → World → Option (Nat × Nat) → Trace → Prop) (gs : Array Goroutine) (w : World) (sl : Option (Nat × Nat)) (t : Trace) : Prop :=
  ∃ n gs' w' sl' t', runNT Try.prog n (crowd gs w sl) t = (.next (crowd gs' w' sl'), t') ∧ Gl gs' w' sl' t'
theorem Ev.step {Gl : Array Goroutine → World → Option (Nat × Nat) → Trace → Prop} {gs gs' : Array Goroutine} {w w' : World} {sl sl' sl2 : Option (Nat × Nat)} {t u : Trace} {d i : Nat} (h1 : stepT Try.prog (crowd gs w sl) = runT Try.prog (crowd gs (w.at d) sl') i)
    (h2 : runT Try.prog (crowd gs (w.at d) sl') i = (.next (crowd gs' w' sl2), u)) (h : Ev Gl gs' w' sl2 (t ++ u)) : Ev Gl gs w sl t := by
  obtain ⟨n, r⟩ := h
  refine ⟨n + 1, ?_⟩
  simp only [runNT, h1, h2]
  exact r

section
variable {Gl : Array Goroutine → World → Option (Nat × Nat) → Trace → Prop} {n : Nat}

variable (n Gl) in
/-- Goroutine 0 can go on from here, beside n others that leave. -/
def Can (g : Goroutine) (w : World) : Prop := g.status = .running ∧ ∀ qs gs w₁ sl t a, qs.length = n → Cm qs gs w₁ t → Eqv w w₁ → gs[0]? = some a → Like a g → Ev Gl gs w₁ sl t

theorem Can.eqv {g : Goroutine} {w w₁ : World} (h : Can Gl n g w) (he : Eqv w w₁) : Can Gl n g w₁ := ⟨h.1, fun qs gs w₂ sl t a hq hC h2 => h.2 qs gs w₂ sl t a hq hC (he.trans h2)⟩

/-- AN OWN STEP. -/
theorem Can.step {g : Goroutine} {w : World} (hg : g.status = .running)
    (h : ∀ w₁, Eqv w w₁ → ∃ g' w' es, stepG Try.prog true g w₁ = .go g' w' es ∧ (∀ e ∈ es, EvF w'.heap.size e) ∧ w₁.heap.size ≤ w'.heap.size ∧ Can Gl n g' w') : Can Gl n g w := by
  refine ⟨hg, fun qs => ?_⟩
  have hacc : Acc (LL Nat.lt) qs := acc_list fun a _ => Nat.lt_wfRel.wf.apply a
  induction hacc with
  | intro qs _ ih =>
    intro gs w₁ sl t a hqn hC hE ha hl
    have rf : ∀ {k : Nat} {b : Goroutine}, gs[k + 1]? = some b → ∃ q, qs[k]? = some q ∧ QuitsIn Try.prog q b := by
      intro k b hb
      have hk : k < qs.length := by
        have := (Array.getElem?_eq_some_iff.1 hb).1
        rw [hC.size] at this; omega
      obtain ⟨g2, e1, e2⟩ := hC.old k _ (List.getElem?_eq_getElem hk)
      rw [hb] at e1; cases e1
      exact ⟨_, List.getElem?_eq_getElem hk, e2⟩
    have haw : ∀ b ∈ gs, Go.Conc.awake b := by
      intro b hb
      obtain ⟨i, hi, rfl⟩ := Array.mem_iff_getElem.1 hb
      cases i with
      | zero =>
        have : gs[0] = a := by simpa [Array.getElem?_eq_getElem hi] using ha
        rw [this]; exact awake_of (.inl hl.run)
      | succ j =>
        obtain ⟨q, _, hq⟩ := rf (Array.getElem?_eq_getElem hi)
        exact awake_of ((quits_rf hq).elim .inl fun y => .inr (.inr y))
    obtain ⟨i, b, d, sl', hb, hbr, hst⟩ := crowd_pick (P := Try.prog) (w := w₁) (sl := sl) haw ⟨0, a, ha, hl.run⟩
    have hi0 : 0 < gs.size := (Array.getElem?_eq_some_iff.1 ha).1
    cases i with
    | zero =>
      rw [ha] at hb; cases hb
      obtain ⟨g', w', es, e1, e2, e3, e4⟩ := h (w₁.at d) ⟨hE.heap, hE.os, hE.output⟩
      refine Ev.step hst (runT_crowd_go ha (by rw [show ((0 : Nat) == 0) = true from rfl, hl.step]; exact e1)) ?_
      refine e4.2 qs _ w' sl' _ g' hqn ⟨by simp [hC.size], fun k q hk => ?_, ?_, fun j c bl hc hbl => ?_⟩ (Eqv.refl _) (by rw [Array.getElem?_setIfInBounds_self_of_lt (by simpa using hi0)]) (Like.refl e4.1)
      · obtain ⟨g2, q1, q2⟩ := hC.old k q hk
        refine ⟨g2, ?_, q2⟩
        rw [Array.getElem?_setIfInBounds_ne (by omega), Array.getElem?_map, q1]
        simp [woken_rf' (quits_rf q2)]
      · refine tri_none_own hC.tr g_ofEvents fun op ho m hm => ?_
        obtain ⟨e, he, rfl⟩ := Go.Conc.mem_ofEvents ho
        exact evF_mark (e2 e he) hm
      · rcases touchAt_cases hc with ⟨_, hc'⟩ | ⟨_, op, ho, _, hta⟩
        · exact Nat.lt_of_lt_of_le (hC.low j c bl hc' hbl) e3
        · obtain ⟨e, he, rfl⟩ := Go.Conc.mem_ofEvents ho
          exact evF_block (e2 e he) hta hbl
    | succ k =>
      obtain ⟨q, hq, hQ⟩ := rf hb
      cases q with
      | zero =>
        have : b.status = .finished := hQ
        rw [hbr] at this; cases this
      | succ q =>
        rcases hQ with hQ | ⟨_, g', hs, hQ'⟩
        · rw [hbr] at hQ; cases hQ
        have hk : k < qs.length := (List.getElem?_eq_some_iff.1 hq).1
        have hki : k + 1 < gs.size := (Array.getElem?_eq_some_iff.1 hb).1
        refine Ev.step hst (runT_crowd_go hb (by simpa using hs (w₁.at d))) ?_
        have hu : MemOp.ofEvents (k + 1) b.frame.fn b.frame.place #[] = #[] := rfl
        rw [hu, Array.append_empty]
        refine ih (qs.set k q) (LL.set hq (Nat.lt_succ_self q)) _ (w₁.at d) sl' t a (by rw [List.length_set]; exact hqn) ⟨by simp [hC.size], fun l q2 hl2 => ?_, hC.tr, hC.low⟩ ⟨hE.heap, hE.os, hE.output⟩ ?_ hl
        · rw [List.getElem?_set] at hl2
          split at hl2
          · rename_i e
            subst e
            first
              | (cases hl2; exact ⟨g', by rw [Array.getElem?_setIfInBounds_self_of_lt (by simpa using hki)], hQ'⟩)
              | (rw [if_pos hk] at hl2; cases hl2; exact ⟨g', by rw [Array.getElem?_setIfInBounds_self_of_lt (by simpa using hki)], hQ'⟩)
          · rename_i e
            obtain ⟨g2, q1, q3⟩ := hC.old l q2 hl2
            refine ⟨g2, ?_, q3⟩
            rw [Array.getElem?_setIfInBounds_ne (by omega), Array.getElem?_map, q1]
            simp [woken_rf' (quits_rf q3)]
        · rw [Array.getElem?_setIfInBounds_ne (by omega), Array.getElem?_map, ha]
          simp [woken_rf' (.inl hl.run)]
end
end Go.Proofs.Ytlndinigbppafaa

/-
  The program's own functions are such as the simulation bears: shown by closed tests.
-/
namespace Go.Sim
variable {P : Program}

def bareB (T : Nat) : Nat → Value → Bool
  | 0, _ => false
  | n + 1, v => match v with
    | .bool _ | .int _ _ | .string _ | .pointer none | .slice none _ _ | .map none | .chan none | .nilFunc | .nilIface => true
    | .iface t v => decide (t < T) && bareB T n v
    | .agg cs | .tuple cs => cs.all (bareB T n)
    | _ => false
theorem bareB_ok : ∀ (n : Nat) {v : Value}, bareB P.types.size n v = true → ∀ R, VR P R v v
  | 0, _, h, _ => by cases h
  | n + 1, v, h, R => by
    have arr : ∀ {cs : Array Value}, cs.all (bareB P.types.size n) = true → ∀ (i : Nat) v V, cs[i]? = some v → cs[i]? = some V → VR P R v V := by
      intro cs hcs i v V h1 h2
      rw [h1] at h2; cases h2
      rw [Array.all_eq_true_iff_forall_mem] at hcs
      exact bareB_ok n (hcs v (Array.mem_of_getElem? h1)) R
    cases v with
    | bool b => exact .bool b
    | int k m => exact .int k m
    | string s => exact .string s
    | pointer a => cases a with
      | none => exact .nilPtr
      | some _ => simp [bareB] at h
    | slice a l c => cases a with
      | none => exact .nilSlice l c
      | some _ => simp [bareB] at h
    | map a => cases a with
      | none => exact .nilMap
      | some _ => simp [bareB] at h
    | chan a => cases a with
      | none => exact .nilChan
      | some _ => simp [bareB] at h
    | nilFunc => exact .nilFunc
    | nilIface => exact .nilIface
    | iface t v =>
      simp only [bareB, Bool.and_eq_true, decide_eq_true_eq] at h
      exact .iface t h.1 (bareB_ok n h.2 R)
    | agg cs => exact .agg rfl (arr (by simpa only [bareB] using h))
    | tuple cs => exact .tuple rfl (arr (by simpa only [bareB] using h))
    | float _ _ => simp [bareB] at h
    | complex _ _ _ => simp [bareB] at h
    | func _ _ _ => simp [bareB] at h

def zeroB (P : Program) : Bool := P.types.all fun i => match i.zero with | none => true | some z => bareB P.types.size 30 z
theorem zeroB_ok (hi : ∀ t i, t < P.types.size → P.info? t = some i → P.types[t]? = some i) (h : zeroB P = true) : ZeroOK P := by
  intro t i z hl h1 h2 R
  unfold zeroB at h
  rw [Array.all_eq_true_iff_forall_mem] at h
  have := h i (Array.mem_of_getElem? (hi t i hl h1))
  rw [h2] at this
  exact bareB_ok 30 this R

def bodyB (P : Program) (f : FuncId) : Bool := match P.funcs[f]? with
  | some fn => fn.body.isSome && names.contains fn.name
  | none => false
theorem bodyB_ok {f : FuncId} (h : bodyB P f = true) : BodyOK P f := by
  unfold bodyB at h
  split at h
  · rename_i fn hf
    simp only [Bool.and_eq_true, List.contains_iff_mem] at h
    exact ⟨fn, hf, h.1, h.2⟩
  · cases h
def methB (P : Program) (name : String) : Bool := P.types.all fun i => match i.methods.find? (·.name == name) with
  | none => true
  | some m => m.path.isEmpty && (match m.func with | some (f, _) => bodyB P f | none => false)
theorem methB_ok (hi : ∀ t i, t < P.types.size → P.info? t = some i → P.types[t]? = some i) {name : String} (h : methB P name = true) : MethOK P name := by
  intro t i m hl h1 h2
  unfold methB at h
  rw [Array.all_eq_true_iff_forall_mem] at h
  have := h i (Array.mem_of_getElem? (hi t i hl h1))
  simp only [h2, Bool.and_eq_true] at this
  refine ⟨by simpa using this.1, ?_⟩
  cases hf : m.func with
  | none => rw [hf] at this; cases this.2
  | some p =>
    obtain ⟨f, pr⟩ := p
    rw [hf] at this
    exact ⟨f, pr, rfl, bodyB_ok this.2⟩
def fnB (P : Program) : Fn → Bool
  | .func f => bodyB P f
  | .method name => methB P name
  | _ => false
theorem fnB_ok (hi : ∀ t i, t < P.types.size → P.info? t = some i → P.types[t]? = some i) {f : Fn} (h : fnB P f = true) : FnOK P f := by
  cases f with
  | func f => exact bodyB_ok h
  | method n => exact methB_ok hi h
  | _ => cases h
def opdB (P : Program) : Operand → Bool
  | .tmp _ => true
  | .const v => bareB P.types.size 30 v
  | .global _ => false
  | .func f => bodyB P f
theorem opdB_ok {x : Operand} (h : opdB P x = true) : OperandOK P x := by
  cases x with
  | tmp _ => trivial
  | const v => exact bareB_ok 30 h
  | global _ => cases h
  | func f => exact bodyB_ok h
def fieldB (P : Program) (s : TypeId) (i : Nat) : Bool := match P.underlying s with
  | some (.struct fs) => match fs[i]? with
    | some f => match P.info? f.type with
      | some x => x.size != 0
      | none => true
    | none => true
  | _ => true
theorem fieldB_ok {s : TypeId} {i : Nat} (h : fieldB P s i = true) : FieldOK P s i := by
  intro fs f x h1 h2 h3
  unfold fieldB at h
  simp only [h1, h2, h3] at h
  simpa using h
def elemB (P : Program) (t : TypeId) : Bool := match P.underlying t with | some (.slice e) => decide (e < P.types.size) | _ => true
theorem elemB_ok {t : TypeId} (h : elemB P t = true) : ∀ e, P.underlying t = some (.slice e) → e < P.types.size := by
  intro e he
  unfold elemB at h
  rw [he] at h
  simpa using h
def structB (P : Program) (t : TypeId) : Bool := match P.underlying t with | some (.struct _) => true | _ => false
def sliceB (P : Program) (t : TypeId) : Bool := match P.underlying t with | some (.slice _) => true | _ => false
def intB (P : Program) (t : TypeId) : Bool := match P.underlying t with | some (.int _) => true | _ => false
def stringB (P : Program) (t : TypeId) : Bool := match P.underlying t with | some .string => true | _ => false
def bytesB (P : Program) (t : TypeId) : Bool := match P.underlying t with | some (.slice e) => (match P.underlying e with | some (.int .u8) => true | _ => false) | _ => false
theorem structB_ok {t : TypeId} (h : structB P t = true) : ∃ fs, P.underlying t = some (.struct fs) := by unfold structB at h; split at h; exact ⟨_, by assumption⟩; cases h
theorem sliceB_ok {t : TypeId} (h : sliceB P t = true) : ∃ e, P.underlying t = some (.slice e) := by unfold sliceB at h; split at h; exact ⟨_, by assumption⟩; cases h
theorem intB_ok {t : TypeId} (h : intB P t = true) : ∃ k, P.underlying t = some (.int k) := by unfold intB at h; split at h; exact ⟨_, by assumption⟩; cases h
theorem stringB_ok {t : TypeId} (h : stringB P t = true) : P.underlying t = some .string := by unfold stringB at h; split at h; assumption; cases h
theorem bytesB_ok {t : TypeId} (h : bytesB P t = true) : ∃ e, P.underlying t = some (.slice e) ∧ P.underlying e = some (.int .u8) := by
  unfold bytesB at h
  split at h
  · rename_i e he
    split at h
    · exact ⟨e, he, by assumption⟩
    · cases h
  · cases h
def plainB (P : Program) (t : TypeId) : Bool := match P.underlying t with
  | some (.int _) => (match P.info? t with | some i => (match i.desc with | .named n _ => n != "sync.copyChecker" | _ => true) | none => true)
  | some .string => true
  | some (.pointer e) => (match P.info? e with | some i => i.size != 0 | none => true)
  | _ => false
theorem plainB_ok {t : TypeId} (h : plainB P t = true) : Plain P t := by
  unfold plainB at h
  split at h
  · rename_i k hk
    refine .inl ⟨k, hk, fun i u hi hd => ?_⟩
    rw [hi] at h
    simp only [hd] at h
    simp at h
  · rename_i hk; exact .inr (.inl hk)
  · rename_i e he
    refine .inr (.inr ⟨e, he, fun i hi => ?_⟩)
    rw [hi] at h
    simpa using h
  · cases h
theorem addB_ok {t : TypeId} (h : (intB P t || stringB P t) = true) : ∃ d0, P.underlying t = some d0 ∧ ((∃ k, d0 = .int k) ∨ d0 = .string) := by
  rcases Bool.or_eq_true_iff.1 h with h | h
  · obtain ⟨k, hk⟩ := intB_ok h
    exact ⟨_, hk, .inl ⟨k, rfl⟩⟩
  · exact ⟨_, stringB_ok h, .inr rfl⟩
def opB (P : Program) : Op → Bool
  | .move x | .assign x => opdB P x
  | .pick c a b => opdB P c && opdB P a && opdB P b
  | .alloc t => decide (t < P.types.size)
  | .box _ x => opdB P x
  | .build t parts => decide (t < P.types.size) && structB P t && parts.all fun p => opdB P p.2
  | .buildSlice t _ parts => elemB P t && parts.all fun p => opdB P p.2
  | .load _ a => opdB P a
  | .store _ a x => opdB P a && opdB P x
  | .nilCheck x => opdB P x
  | .binOp op t x y _ => opdB P x && opdB P y && (match op with
    | .lss | .leq | .gtr | .shl | .shr | .geq | .mul | .quo | .or | .rem => true
    | .add | .sub => intB P t || stringB P t
    | .eql | .neq => plainB P t
    | _ => false)
  | .unOp op _ x => (match op with | .not | .neg => true | _ => false) && opdB P x
  | .convert src dst x => opdB P x && ((intB P src && intB P dst) || (stringB P src && bytesB P dst) || (stringB P dst && bytesB P src) || (decide (src = dst) && bytesB P dst))
  | .makeInterface t x => decide (t < P.types.size) && opdB P x
  | .makeFunc f a b => fnB P f && a.all (opdB P) && b.all (opdB P)
  | .slice t x lo hi mx => (sliceB P t || stringB P t) && opdB P x && lo.all (opdB P) && hi.all (opdB P) && mx.all (opdB P)
  | .fieldAddr s x f => fieldB P s f && opdB P x
  | .field _ x _ => opdB P x
  | .indexAddr _ x i => opdB P x && opdB P i
  | .index t x i => stringB P t && opdB P x && opdB P i
  | .makeSlice t l c => sliceB P t && elemB P t && opdB P l && opdB P c
  | .extract x _ => opdB P x
  | .panic _ => true
  | .call c => c.args.all (opdB P) && (match c.callee with
    | .builtin .len => (match c.argTypes with | ⟨[t]⟩ => stringB P t || sliceB P t | _ => false)
    | .builtin .cap => (match c.argTypes with | ⟨[t]⟩ => sliceB P t | _ => false)
    | .builtin .append => (match c.argTypes with | ⟨[t, _]⟩ => sliceB P t && elemB P t | _ => false)
    | .builtin .copy => (match c.argTypes with | ⟨[t, _]⟩ => sliceB P t | _ => false)
    | .builtin .unsafeString => (match c.argTypes, c.args with | ⟨[_, _]⟩, ⟨[_, _]⟩ => true | _, _ => false)
    | .builtin _ => false
    | .value f => opdB P f
    | .invoke r name => opdB P r && methB P name)
  | _ => false
theorem all_opd {l : Array Operand} (h : l.all (opdB P) = true) : ∀ x ∈ l, OperandOK P x := fun x hx => opdB_ok ((Array.all_eq_true_iff_forall_mem.1 h) x hx)
theorem opB_ok (hi : ∀ t i, t < P.types.size → P.info? t = some i → P.types[t]? = some i) {o : Op} (h : opB P o = true) : OpOK P o := by
  cases o with
  | move x => exact opdB_ok h
  | assign x => exact opdB_ok h
  | pick c a b => simp only [opB, Bool.and_eq_true] at h; exact ⟨opdB_ok h.1.1, opdB_ok h.1.2, opdB_ok h.2⟩
  | alloc t => simp only [opB, decide_eq_true_eq] at h; exact h
  | box t x => exact opdB_ok h
  | build t parts =>
    simp only [opB, Bool.and_eq_true, Array.all_eq_true_iff_forall_mem] at h
    exact ⟨by simpa using h.1.1, structB_ok h.1.2, fun p hp => opdB_ok (h.2 p hp)⟩
  | buildSlice t n parts =>
    simp only [opB, Bool.and_eq_true, Array.all_eq_true_iff_forall_mem] at h
    exact ⟨elemB_ok h.1, fun p hp => opdB_ok (h.2 p hp)⟩
  | load t a => exact opdB_ok h
  | store t a x => simp only [opB, Bool.and_eq_true] at h; exact ⟨opdB_ok h.1, opdB_ok h.2⟩
  | nilCheck x => exact opdB_ok h
  | binOp op t x y ty =>
    simp only [opB, Bool.and_eq_true] at h
    refine ⟨opdB_ok h.1.1, opdB_ok h.1.2, ?_⟩
    have h2 := h.2
    cases op <;> first
      | (cases h2; done)
      | exact .inl (.inl rfl)
      | exact .inl (.inr (.inl rfl))
      | exact .inl (.inr (.inr rfl))
      | exact .inr (.inl ⟨.inl rfl, addB_ok h2⟩)
      | exact .inr (.inl ⟨.inr rfl, addB_ok h2⟩)
      | exact .inr (.inr (.inl (.inl rfl)))
      | exact .inr (.inr (.inl (.inr rfl)))
      | exact .inr (.inr (.inr (.inr (.inl rfl))))
      | exact .inr (.inr (.inr (.inr (.inr (.inl (.inl rfl))))))
      | exact .inr (.inr (.inr (.inr (.inr (.inl (.inr (.inl rfl)))))))
      | exact .inr (.inr (.inr (.inr (.inr (.inl (.inr (.inr rfl)))))))
      | exact .inr (.inr (.inr (.inr (.inr (.inr (.inl rfl))))))
      | exact .inr (.inr (.inr (.inr (.inr (.inr (.inr ⟨.inl rfl, plainB_ok h2⟩))))))
      | exact .inr (.inr (.inr (.inr (.inr (.inr (.inr ⟨.inr rfl, plainB_ok h2⟩))))))
  | unOp op t x =>
    simp only [opB, Bool.and_eq_true] at h
    cases op <;> first | (have := h.1; cases this; done) | exact ⟨.inl rfl, opdB_ok h.2⟩ | exact ⟨.inr rfl, opdB_ok h.2⟩
  | convert a b x =>
    simp only [opB, Bool.and_eq_true, Bool.or_eq_true] at h
    refine ⟨opdB_ok h.1, ?_⟩
    rcases h.2 with ((h2 | h2) | h2) | h2
    · obtain ⟨k, hk⟩ := intB_ok h2.1
      obtain ⟨k', hk'⟩ := intB_ok h2.2
      exact .inl ⟨k, k', hk, hk'⟩
    · exact .inr (.inl ⟨stringB_ok h2.1, bytesB_ok h2.2⟩)
    · exact .inr (.inr (.inl ⟨stringB_ok h2.1, bytesB_ok h2.2⟩))
    · exact .inr (.inr (.inr ⟨by simpa using h2.1, bytesB_ok h2.2⟩))
  | makeInterface t x => simp only [opB, Bool.and_eq_true, decide_eq_true_eq] at h; exact ⟨h.1, opdB_ok h.2⟩
  | makeFunc f a b => simp only [opB, Bool.and_eq_true] at h; exact ⟨fnB_ok hi h.1.1, all_opd h.1.2, all_opd h.2⟩
  | slice t x lo hi' mx =>
    simp only [opB, Bool.and_eq_true, Bool.or_eq_true] at h
    have oo : ∀ {o : Option Operand}, o.all (opdB P) = true → ∀ y ∈ o, OperandOK P y := by
      intro o ho y hy
      cases hy
      exact opdB_ok (by simpa using ho)
    exact ⟨h.1.1.1.1.imp sliceB_ok stringB_ok, opdB_ok h.1.1.1.2, oo h.1.1.2, oo h.1.2, oo h.2⟩
  | fieldAddr s x f => simp only [opB, Bool.and_eq_true] at h; exact ⟨fieldB_ok h.1, opdB_ok h.2⟩
  | field t x f => exact opdB_ok h
  | indexAddr t x i => simp only [opB, Bool.and_eq_true] at h; exact ⟨opdB_ok h.1, opdB_ok h.2⟩
  | index t x i => simp only [opB, Bool.and_eq_true] at h; exact ⟨stringB_ok h.1.1, opdB_ok h.1.2, opdB_ok h.2⟩
  | makeSlice t l c =>
    simp only [opB, Bool.and_eq_true] at h
    obtain ⟨e, he⟩ := sliceB_ok h.1.1.1
    exact ⟨⟨e, he, elemB_ok h.1.1.2 e he⟩, opdB_ok h.1.2, opdB_ok h.2⟩
  | extract x i => exact opdB_ok h
  | panic x => trivial
  | call c =>
    simp only [opB, Bool.and_eq_true] at h
    refine ⟨all_opd h.1, ?_⟩
    have h2 := h.2
    cases hc : c.callee with
    | value f => rw [hc] at h2; exact opdB_ok h2
    | invoke r name => rw [hc] at h2; simp only [Bool.and_eq_true] at h2; exact ⟨opdB_ok h2.1, methB_ok hi h2.2⟩
    | builtin b =>
      rw [hc] at h2
      cases b <;> first | (cases h2; done) | skip
      · dsimp only at h2
        split at h2
        · rename_i t t2 ha
          rw [Bool.and_eq_true] at h2
          obtain ⟨e, he⟩ := sliceB_ok h2.1
          exact ⟨t, t2, e, ha, he, elemB_ok h2.2 e he⟩
        · cases h2
      · dsimp only at h2
        split at h2
        · rename_i t ha
          obtain ⟨e, he⟩ := sliceB_ok h2
          exact ⟨t, e, ha, he⟩
        · cases h2
      · dsimp only at h2
        split at h2
        · rename_i t t2 ha
          obtain ⟨e, he⟩ := sliceB_ok h2
          exact ⟨t, t2, e, ha, he⟩
        · cases h2
      · dsimp only at h2
        split at h2
        · rename_i t ha
          rw [Bool.or_eq_true] at h2
          exact ⟨t, ha, h2.imp stringB_ok sliceB_ok⟩
        · cases h2
      · dsimp only at h2
        split at h2
        · rename_i t t2 x y ha hb
          exact ⟨t, t2, x, y, ha, hb⟩
        · cases h2
  | _ => cases h
def codeB (P : Program) : Code → Bool
  | .region _ ops _ => ops.all fun o => opB P o.op
  | .seq a b => codeB P a && codeB P b
  | .cond c a b => opdB P c && codeB P a && codeB P b
  | .block _ c | .loop c | .scope c => codeB P c
  | .exit _ | .ret | .skip | .label _ => true
  | _ => false
theorem codeB_ok (hi : ∀ t i, t < P.types.size → P.info? t = some i → P.types[t]? = some i) : ∀ {c : Code}, codeB P c = true → CodeOK P c
  | .region _ ops _, h => fun o ho => opB_ok hi ((Array.all_eq_true_iff_forall_mem.1 h) o ho)
  | .seq a b, h => by simp only [codeB, Bool.and_eq_true] at h; exact ⟨codeB_ok hi h.1, codeB_ok hi h.2⟩
  | .cond c a b, h => by simp only [codeB, Bool.and_eq_true] at h; exact ⟨opdB_ok h.1.1, codeB_ok hi h.1.2, codeB_ok hi h.2⟩
  | .block _ c, h => codeB_ok (c := c) hi h
  | .loop c, h => codeB_ok (c := c) hi h
  | .scope c, h => codeB_ok (c := c) hi h
  | .exit _, _ => trivial
  | .ret, _ => trivial
  | .skip, _ => trivial
  | .label _, _ => trivial
  | .goto _, h => by cases h
  | .refuse _, h => by cases h
  | .rangeFunc _ _ _ _, h => by cases h
def bodiesB (P : Program) : Bool := P.funcs.all fun fn => !(names.contains fn.name) || (match fn.body with
  | some c => codeB P c
  | none => true)
theorem bodiesB_ok (hi : ∀ t i, t < P.types.size → P.info? t = some i → P.types[t]? = some i) (h : bodiesB P = true) : BodiesOK P := by
  intro f fn c h1 h2 h3
  unfold bodiesB at h
  rw [Array.all_eq_true_iff_forall_mem] at h
  have := h fn (Array.mem_of_getElem? h1)
  rw [show names.contains fn.name = true from List.contains_iff_mem.2 h2, h3] at this
  simp only [Bool.not_true, Bool.false_or] at this
  exact codeB_ok hi this
end Go.Sim

namespace Go.Proofs.Ytlndinigbppafaa
open Go.Sim
theorem infos (t : TypeId) (i : TypeInfo) (hl : t < Try.prog.types.size) (h : Try.prog.info? t = some i) : Try.prog.types[t]? = some i := by
  unfold Tables.info? at h
  rw [if_pos hl] at h
  exact h
theorem zeroOK : ZeroOK Try.prog := zeroB_ok infos (by kernel_rfl)
theorem bodiesOK : BodiesOK Try.prog := bodiesB_ok infos (by kernel_rfl)
end Go.Proofs.Ytlndinigbppafaa

/-
  Goroutine 0 beside others that only leave: a call by its lone contract; moves of control; plain operations.
-/
namespace Go.Proofs.Ytlndinigbppafaa
open Go.Sim Go.Conc Go.Fi

section
variable {Gl : Array Goroutine → World → Option (Nat × Nat) → Trace → Prop} {n : Nat}

theorem noShd (b : Nat) : ¬ NoShd b := fun h => h

/-- A CALL BY ITS LONE RUN. -/
theorem Can.run {Fin : Frame → World → Prop} {K : List Frame} {fr : Frame} {cs : List Frame} {w : World} (h : Run Try.prog Fin fr cs w) :
    ∀ {R : BR} {Fr : Frame} {Cs : List Frame} {W : World}, FR Try.prog R fr Fr → FRs Try.prog R cs Cs → WR Try.prog NoShd R w W →
      (∀ {R' : BR} {fr' Fr' : Frame} {w' W' : World}, (∀ b B, R b B → R' b B) → FR Try.prog R' fr' Fr' → fr'.mode = .returning → Fin fr' w' → WR Try.prog NoShd R' w' W' → Can Gl n (G fr' K) w') → Can Gl n (G fr (cs ++ K)) w := by
  induction h with
  | @fin fr cs w hf hF =>
    intro R Fr Cs W h1 h2 h3 hk
    obtain ⟨hm, rfl⟩ := hf
    exact hk (fun _ _ h => h) h1 hm hF h3
  | @step fr cs w hn hex hst ih =>
    intro R Fr Cs W h1 h2 h3 hk
    refine Can.step rfl fun w₁ hE => ?_
    have hw1 : WR Try.prog NoShd R (w.tp (Sim.mt w₁ w)) (W.tp (Sim.mt (w.tp (Sim.mt w₁ w)) W)) := h3.tp _ _
    have htt : ∀ j q, (w.tp (Sim.mt w₁ w)).tape ((w.tp (Sim.mt w₁ w)).drawn + j) q = (W.tp (Sim.mt (w.tp (Sim.mt w₁ w)) W)).tape ((W.tp (Sim.mt (w.tp (Sim.mt w₁ w)) W)).drawn + j) q := fun j q => by show _ = Sim.mt (w.tp (Sim.mt w₁ w)) W (W.drawn + j) q; simp [Sim.mt, World.tp]
    have hnn : fr.mode = .returning → cs ≠ [] := fun hm hc => hn ⟨hm, hc⟩
    rcases step_sim noShd zeroOK bodiesOK (c0 := c0 Try.prog) (K := []) h1 h2 hw1 htt hnn true true with hs | hf
    · obtain ⟨fr', cs', w', e, R', Fr', Cs', W', Es, _, f1, f2, f3, x, _, _⟩ := hs
      have hco := step_co noShd zeroOK h1 h2 hw1 htt hnn e fun ch hc => by rcases f1.modes with q | q <;> rw [q] at hc <;> cases hc
      obtain ⟨es, g1, g2⟩ := hco.go K true w₁.tape w₁.drawn fun j q _ => by
        show w₁.tape (w₁.drawn + j) q = Sim.mt w₁ w (w.drawn + j) q
        simp [Sim.mt]
      have hww : (w.tp (Sim.mt w₁ w)).td w₁.tape w₁.drawn = w₁ := by rw [hE.td]; rfl
      rw [hww] at g1
      refine ⟨_, _, es, g1, g2, ?_, ?_⟩
      · have := hco.size
        show w₁.heap.size ≤ w'.heap.size
        rw [hE.heap]
        exact this
      · exact (ih (Sim.mt w₁ w) fr' cs' w' e f1 f2 f3 fun s1 q1 q2 q3 q4 => hk (fun b B hb => s1 _ _ (x.sub _ _ hb)) q1 q2 q3 q4).eqv (eqv_td _ _ _)
    · exfalso
      rcases hf with ⟨fr1, w1, hs, hp, hd, hfn⟩ | ⟨o, w1, hs⟩
      · exact run_bad (hst (Sim.mt w₁ w) fr1 cs w1 hs) ⟨hp, hd, hfn, h2.bad⟩
      · obtain ⟨fr', cs', w', e⟩ := hex (Sim.mt w₁ w)
        rw [hs] at e
        cases e

variable {b : Frame} {a a' : Act} {k : List Item} {cs : List Frame} {ops : Array Oper} {i : Nat} {rest : List Nat} {o : Oper} {g g' : Goroutine} {w : World}

theorem Can.pure (hg : g.status = .running) (h : ∀ w, stepG Try.prog true g w = .go g' w #[]) (hK : Can Gl n g' w) : Can Gl n g w :=
  Can.step hg fun w₁ hE => ⟨g', w₁, #[], h w₁, fun e he => by simp at he, Nat.le_refl _, hK.eqv hE⟩

/-- A CALL BY ITS LONE CONTRACT. -/
theorem Can.call {f : FuncId} {fn : Func} {c : Code} {args : Array Operand} {ats : Array TypeId} {R : BR} {A : Array Value} {W : World} {Q : Value → World → Prop} (hk : b.kind ≠ .early) (ho : ops[i]? = some o) (hwt : Region.wanted o (yielded ops a.tmps) = true) (hop : o.op = .call { callee := .value (.func f), args, argTypes := ats })
    (hf : Try.prog.funcs[f]? = some fn) (hname : fn.name ∈ names) (hb : fn.body = some c) (hres : ∀ r ∈ fn.results, ∃ t, r = .tmp t)
    (hA : VRs Try.prog R (args.map a.eval) A) (hw : WR Try.prog NoShd R w W) (hQ : ∀ v w τ, Q v w → Q v (w.tp τ))
    (hc : ∀ τ, Calls Try.prog f (args.map a.eval) (w.tp τ) fun e w' => match e with | .returned v => Q v w' | _ => False)
    (hK : ∀ {R' : BR} {v V : Value} {w' W' : World}, (∀ b B, R b B → R' b B) → VR Try.prog R' v V → WR Try.prog NoShd R' w' W' → Q v w' → Can Gl n (G (b.at (a.put o.dst v) (.inRegion ops rest :: k)) cs) w') :
    Can Gl n (G (b.at a (.inRegion ops (i :: rest) :: k)) cs) w := by
  have hbo : BodyOK Try.prog f := ⟨fn, hf, by rw [hb]; rfl, hname⟩
  have hn : (fn.name == "runtime.NumGoroutine") = false := by
    have : fn.name ≠ "runtime.NumGoroutine" := fun x => by rw [x] at hname; revert hname; decide
    simpa using this
  have hb' : fn.body.isNone = false := by rw [hb]; rfl
  have hF : FR Try.prog R (Frame.enter Try.prog f (args.map a.eval) .normal) (Frame.enter Try.prog f A .normal) := FR.enter bodiesOK hbo hA
  have hrun := run_of_calls noShd zeroOK bodiesOK (Shd := NoShd) (Q := Q) ⟨_, _, [], W, hF, trivial, hw⟩ hQ hf hres hc
  refine Can.pure (g' := G (Frame.enter Try.prog f (args.map a.eval) .normal) (b.at a (.inRegion ops (i :: rest) :: k) :: cs)) rfl (fun w => ?_) ?_
  · rw [stepG_enter ho hwt hk (run_call_body hop hf hn hb')]
    unfold listed
    rw [events_call_body hop hf hn hb', seen_none]
  · refine Can.run (cs := []) (K := b.at a (.inRegion ops (i :: rest) :: k) :: cs) hrun (Cs := []) hF trivial hw ?_
    intro R' fr' Fr' w' W' s1 f1 hm hfin hw'
    obtain ⟨v, fn2, e1, hr2, e2, hq⟩ := hfin
    obtain ⟨v2, V, hv, e3, _⟩ := results_run hr2 f1.tmps
    rw [e2] at e3
    cases e3
    refine Can.pure (g' := G (b.at (a.put o.dst v) (.inRegion ops rest :: k)) cs) rfl (fun w => ?_) (hK s1 hv hw' hq)
    have hfin : (b.at a (.inRegion ops (i :: rest) :: k)).finish v = b.at (a.put o.dst v) (.inRegion ops rest :: k) := by rw [Frame.finish_at, ho]; rfl
    rw [← hfin]
    simp [stepG, G, hm, unwind, f1.defers, e1, e2, doReturn, f1.kind, seen, GStep.after]
end
end Go.Proofs.Ytlndinigbppafaa

/-
  proofs, called by goroutine 0 alone: it comes to its return, and its children only leave.
-/
namespace Go.Proofs.Ytlndinigbppafaa
open Go.Sim Go.Conc Go.Fi

section
variable {Gl : Array Goroutine → World → Option (Nat × Nat) → Trace → Prop} {n : Nat}

theorem Ev.after : ∀ (m : Nat) {gs gs' : Array Goroutine} {w w' : World} {sl sl' : Option (Nat × Nat)} {t t' : Trace}, runNT Try.prog m (crowd gs w sl) t = (.next (crowd gs' w' sl'), t') → Ev Gl gs' w' sl' t' → Ev Gl gs w sl t := by
  intro m gs gs' w w' sl sl' t t' h ⟨k, gs2, w2, sl2, t2, r, hG⟩
  refine ⟨m + k, gs2, w2, sl2, t2, ?_, hG⟩
  have add : ∀ (m : Nat) (M M' : Machine) (t t' : Trace), runNT Try.prog m M t = (.next M', t') → runNT Try.prog (m + k) M t = runNT Try.prog k M' t' := by
    intro m
    induction m with
    | zero => intro M M' t t' e; simp only [runNT, Prod.mk.injEq, Stepped.next.injEq] at e; obtain ⟨rfl, rfl⟩ := e; rw [Nat.zero_add]
    | succ m ih =>
      intro M M' t t' e
      rw [show m + 1 + k = (m + k) + 1 by omega]
      simp only [runNT] at e ⊢
      cases hs : stepT Try.prog M with
      | mk s u =>
        rw [hs] at e
        cases s with
        | next M2 => exact ih M2 M' _ t' e
        | ended o w => simp at e
  rw [add m _ _ _ _ h, r]

/-- What is known when proofs returns. -/
structure Back (Post : Nat → Value → World → Prop) (N : Nat) (w w' : World) (ga : Nat) (vs : List Value) : Prop where
  size : w.heap.size ≤ w'.heap.size
  keep : ∀ b, b < w.heap.size → w'.heap[b]? = w.heap[b]?
  os : w'.os = w.os
  output : w'.output = w.output
  len : vs.length = N
  new : w.heap.size ≤ ga
  row : w'.heap[ga]? = some (.cells vs.toArray 24)
  post : ∀ (k : Nat) (V : Value), vs[k]? = some V → Post k V w'

theorem Can.proofs {N : Nat} {ver : Value} {Post : Nat → Value → World → Prop} {cs : List Frame} {w : World} (hver : ver.cells = #[ver]) (hN : N < 2 ^ 40) (hgl : Try.prog.globals.size ≤ w.heap.size)
    (hV : ∀ k V w, Post k V w → Sl V) (hM : ∀ k bc bv bi bn c, k < N → MemberC bc bv bi bn c ver k N (Post k))
    (hK : ∀ (w' : World) (ga : Nat) (vs : List Value) (a : Act), Back Post N w w' ga vs → a.defers = [] → a.tmps.getD 4 undef = .slice (some ⟨ga, 0, none⟩) N N → Can Gl N (G { (base 46).at a [.code .ret] with mode := .returning } cs) w') :
    Can Gl 0 (G ((base 46).at ⟨#[ver, .int .i64 N, undef, undef, undef, undef, undef, undef, undef, undef, undef, undef, undef, undef, undef, undef, undef, undef, undef, undef, undef, undef, undef, undef, undef, undef, undef, undef, undef, undef, undef, undef, undef, undef, undef, undef, undef, undef, undef, undef, undef, undef, undef, undef], []⟩ [.code c46]) cs) w := by
  refine ⟨rfl, fun qs gs w₁ sl t a hq hC hE ha hl => ?_⟩
  have hPS := proofs_at (cs := cs) hver hN w₁ trivial
  have hgs : gs.size = 1 := by rw [hC.size, hq]
  have hkm : kidMap s0.cur [] = fun _ => none := by
    funext d
    unfold kidMap
    split <;> simp
  have hI : Inv w₁.heap.size w₁ Post s0 (fun _ => False) [] gs w₁ t := by
    refine ⟨hgs, fun k x hk => by simp at hk, rfl, Nat.le_refl _, (fun q => (by cases q)), rfl, fun k l x y b hk => by simp at hk, fun b hb => hb.elim, ?_, hC.low, fun i a b _ _ q => q, fun b _ => rfl, Nat.le_refl _, by rw [hE.heap]; exact hgl, rfl, rfl, rfl⟩
    rw [hkm]
    exact hC.tr
  obtain ⟨m, gs', w', sl', t', s', PB', kids', a', g', r1, r2, r3, r4, r5, r6, r7⟩ := machine hV hM hPS [] gs w₁ t a sl hI (RelyC.refl _ _ _) ha hl
  obtain ⟨f1, f2, ga, aa, rfl, f3, f4, f5, f6⟩ := r7
  have hlen : kids'.length = N := by
    have := congrArg List.length r2.link
    simp at this
    omega
  have hcur : s'.cur = kids'.length := by rw [r3, f2, hlen]
  have stage : ∀ (k : Nat) (x : Kid), kids'[k]? = some x → ∃ q, x.st = .leave q ∧ QuitsIn Try.prog q x.g ∧ ∃ V, s'.vs[k]? = some V ∧ Post k V w' := by
    intro k x hk
    have hkl : k < s'.cur := by rw [hcur]; exact (List.getElem?_eq_some_iff.1 hk).1
    have hS := (r2.kid k x hk).2.st
    unfold KidS at hS
    cases hx : x.st with
    | work => rw [hx] at hS; exact absurd (.inl hkl) hS.1
    | aft j => rw [hx] at hS; exact absurd hkl hS.2.1
    | leave q =>
      rw [hx] at hS
      obtain ⟨q1, ⟨V, tm, q2, q3⟩, _⟩ := hS
      exact ⟨q, rfl, q1, V, (q3.1 (.inl hkl)).2, q2 w' fun _ _ => rfl⟩
  have hbase : ∀ b, b < w.heap.size → w'.heap[b]? = w.heap[b]? := fun b hb => by rw [r2.base b (by rw [hE.heap]; exact hb), hE.heap]
  have hback : Back Post N w w' ga s'.vs := by
    refine ⟨by have := r2.b0; rw [hE.heap] at this; exact this, hbase, r2.os.trans hE.os, r2.output.trans hE.output, f1, by have := (r2.pb ga f5).1; rw [hE.heap] at this; exact this, f6, fun k V hk => ?_⟩
    have hkl : k < kids'.length := by
      have := (List.getElem?_eq_some_iff.1 hk).1
      omega
    obtain ⟨_, _, _, V', e1, e2⟩ := stage k _ (List.getElem?_eq_getElem hkl)
    rw [hk] at e1; cases e1
    exact e2
  refine Ev.after m r1 ((hK w' ga s'.vs aa hback f3 f4).2 (kids'.map fun x => match x.st with | .leave q => q | _ => 0) gs' w' sl' t' a' (by simp [hlen]) ⟨by simp [r2.size], fun k q hk => ?_, ?_, r2.low⟩ (Eqv.refl _) r5 r6)
  · rw [List.getElem?_map] at hk
    obtain ⟨x, hx, hq⟩ := Option.map_eq_some_iff.1 hk
    obtain ⟨q', e1, e2, _⟩ := stage k x hx
    rw [e1] at hq
    simp only at hq
    subst hq
    exact ⟨x.g, (r2.kid k x hx).1, e2⟩
  · have : kidMap s'.cur kids' = fun _ => none := by
      funext d
      unfold kidMap
      split
      · rfl
      · rename_i hd
        rw [List.getElem?_eq_none (by omega)]
        rfl
    have hT := r2.tr
    rw [this] at hT
    exact hT
end
end Go.Proofs.Ytlndinigbppafaa

/-
  Goroutine 0 beside others that only leave: moves of control, plain operations.
-/
namespace Go.Proofs.Ytlndinigbppafaa
open Go.Sim Go.Conc Go.Fi

/-- The value of a plain operation, which looks at no memory: more of them. -/
def pw2 (ρ : Operand → Value) (op : Op) : Option Value := match op with
  | .unOp .not _ x => match ρ x with
    | .bool b => some (.bool !b)
    | _ => none
  | .pick c a b => match ρ c with
    | .bool t => some (if t then ρ a else ρ b)
    | _ => none
  | .binOp .neq _ x y _ => match ρ x, ρ y with
    | .int k a, .int k' b => if k = k' then some (.bool (a != b)) else none
    | .string a, .string b => some (.bool !(a.toList == b.toList))
    | _, _ => none
  | .binOp .eql _ x y _ => match ρ x, ρ y with
    | .int k a, .int k' b => if k = k' then some (.bool (a == b)) else none
    | .string a, .string b => some (.bool (a.toList == b.toList))
    | _, _ => none
  | op => pv ρ op

theorem pw2_run {ρ : Operand → Value} {o : Oper} {v : Value} (h : pw2 ρ o.op = some v) (w : World) : (execOp ρ o).run Try.prog w = .ok (.value v) w ∧ (execOp ρ o).events Try.prog w #[] = #[] := by
  have old : pv ρ o.op = some v → (execOp ρ o).run Try.prog w = .ok (.value v) w ∧ (execOp ρ o).events Try.prog w #[] = #[] := fun q => pv_run q w
  unfold execOp at old ⊢
  generalize o.op = op at h old ⊢
  cases op with
  | unOp u t x =>
    cases u with
    | not =>
      simp only [pw2] at h
      dsimp only
      split at h
      · rename_i b hb
        cases h
        rw [hb]
        simp [Op.unary]
      · cases h
    | _ => exact old h
  | pick c a b =>
    simp only [pw2] at h
    dsimp only
    split at h
    · rename_i t ht
      cases h
      rw [ht]
      simp [asBool]
    · cases h
  | binOp bop t x y ty =>
    cases bop with
    | neq =>
      simp only [pw2] at h
      dsimp only
      split at h
      · rename_i k a k' b hx hy
        split at h
        · rename_i hk
          cases h
          subst hk
          rw [hx, hy]
          simp [eqGuard, binOp, Op.intCmp]
        · cases h
      · rename_i a b hx hy
        cases h
        rw [hx, hy]
        simp [eqGuard, binOp, Op.stringOp]
      · cases h
    | eql =>
      simp only [pw2] at h
      dsimp only
      split at h
      · rename_i k a k' b hx hy
        split at h
        · rename_i hk
          cases h
          subst hk
          rw [hx, hy]
          simp [eqGuard, binOp, Op.intCmp]
        · cases h
      · rename_i a b hx hy
        cases h
        rw [hx, hy]
        simp [eqGuard, binOp, Op.stringOp]
      · cases h
    | _ => exact old h
  | _ => exact old h

/-- Plain operations, one behind the other, each where it is wanted. -/
def pops (ops : Array Oper) : List Nat → Act → Option Act
  | [], a => some a
  | i :: rest, a => match ops[i]? with
    | some o => if Region.wanted o (yielded ops a.tmps) = true then (match pw2 a.eval o.op with
        | some v => pops ops rest (a.put o.dst v)
        | none => none) else pops ops rest (a.put o.dst undef)
    | none => none

section
variable {Gl : Array Goroutine → World → Option (Nat × Nat) → Trace → Prop} {n : Nat}
variable {b : Frame} {a a' : Act} {k : List Item} {cs : List Frame} {ops : Array Oper} {i : Nat} {rest : List Nat} {o : Oper} {g g' : Goroutine} {w : World}

theorem Can.val {v : Value} (hk : b.kind ≠ .early) (ho : ops[i]? = some o) (hwt : Region.wanted o (yielded ops a.tmps) = true) (h : ∀ w, (execOp a.eval o).run Try.prog w = .ok (.value v) w ∧ (execOp a.eval o).events Try.prog w #[] = #[])
    (hK : Can Gl n (G (b.at (a.put o.dst v) (.inRegion ops rest :: k)) cs) w) : Can Gl n (G (b.at a (.inRegion ops (i :: rest) :: k)) cs) w := by
  refine Can.pure rfl (fun w => ?_) hK
  rw [stepG_value ho hwt hk (h w).1]
  unfold listed
  rw [(h w).2, seen_none]
theorem Can.pures {l : List Nat} (hk : b.kind ≠ .early) (h : pops ops l a = some a') (hK : Can Gl n (G (b.at a' (.inRegion ops rest :: k)) cs) w) : Can Gl n (G (b.at a (.inRegion ops (l ++ rest) :: k)) cs) w := by
  induction l generalizing a with
  | nil => cases h; exact hK
  | cons i l ih =>
    unfold pops at h
    split at h
    · rename_i o ho
      split at h
      · rename_i hwt
        split at h
        · rename_i v hv
          exact Can.val hk ho hwt (pw2_run hv) (ih h)
        · cases h
      · rename_i hwt
        exact Can.pure rfl (fun w => stepG_unwanted ho (by simpa using hwt)) (ih h)
    · cases h
theorem Can.region {id : Nat} (hk : b.kind ≠ .early) (h : pops ops (List.range ops.size) a = some a') (hK : Can Gl n (G (b.at a' k) cs) w) : Can Gl n (G (b.at a (.code (.region id ops false) :: k)) cs) w := by
  refine Can.pure rfl (fun w => stepG_region) ?_
  have := Can.pures (rest := []) (k := k) (cs := cs) hk h (Can.pure rfl (fun w => stepG_region_end) hK)
  rwa [List.append_nil] at this
theorem Can.into {id : Nat} (hK : Can Gl n (G (b.at a (.inRegion ops (List.range ops.size) :: k)) cs) w) : Can Gl n (G (b.at a (.code (.region id ops false) :: k)) cs) w := Can.pure rfl (fun _ => stepG_region) hK
theorem Can.out (hK : Can Gl n (G (b.at a k) cs) w) : Can Gl n (G (b.at a (.inRegion ops [] :: k)) cs) w := Can.pure rfl (fun _ => stepG_region_end) hK
theorem Can.seq {x y : Code} (hK : Can Gl n (G (b.at a (.code x :: .code y :: k)) cs) w) : Can Gl n (G (b.at a (.code (.seq x y) :: k)) cs) w := Can.pure rfl (fun _ => stepG_seq) hK
theorem Can.skip (hK : Can Gl n (G (b.at a k) cs) w) : Can Gl n (G (b.at a (.code .skip :: k)) cs) w := Can.pure rfl (fun _ => stepG_skip) hK
theorem Can.cond {c : Operand} {x y : Code} {t : Bool} (h : a.eval c = .bool t) (hK : Can Gl n (G (b.at a (.code (if t then x else y) :: k)) cs) w) : Can Gl n (G (b.at a (.code (.cond c x y) :: k)) cs) w := Can.pure rfl (fun _ => stepG_cond h) hK
theorem Can.ret (hK : Can Gl n (G { b.at a (.code .ret :: k) with mode := .returning } cs) w) : Can Gl n (G (b.at a (.code .ret :: k)) cs) w := Can.pure rfl (fun _ => stepG_ret') hK
theorem Can.enter {f : FuncId} {fn : Func} {c : Code} {args : Array Operand} {ats : Array TypeId} (hk : b.kind ≠ .early) (ho : ops[i]? = some o) (hwt : Region.wanted o (yielded ops a.tmps) = true) (hop : o.op = .call { callee := .value (.func f), args, argTypes := ats })
    (hf : Try.prog.funcs[f]? = some fn) (hname : (fn.name == "runtime.NumGoroutine") = false) (hb : fn.body = some c)
    (hK : Can Gl n (G ((base f).at { tmps := args.map a.eval ++ Array.replicate (fn.ntmps - (args.map a.eval).size) undef, defers := [] } [.code c]) (b.at a (.inRegion ops (i :: rest) :: k) :: cs)) w) :
    Can Gl n (G (b.at a (.inRegion ops (i :: rest) :: k)) cs) w := by
  have hb' : fn.body.isNone = false := by rw [hb]; rfl
  refine Can.pure rfl (fun w => ?_) hK
  rw [stepG_enter ho hwt hk (run_call_body hop hf hname hb'), enter_at _ hf hb]
  unfold listed
  rw [events_call_body hop hf hname hb', seen_none]
theorem Can.leave1 {fn : Func} {t : Tmp} {todo : List Item} {b₀ : Frame} {a₀ : Act} (hn : b.kind = .normal) (hd : a.defers = []) (hf : Try.prog.funcs[b.fn]? = some fn) (hr : fn.results = #[.tmp t])
    (hK : Can Gl n (G (b₀.at (a₀.put ((ops[i]?).bind (·.dst)) (a.tmps.getD t undef)) (.inRegion ops rest :: k)) cs) w) :
    Can Gl n (G { b.at a todo with mode := .returning } (b₀.at a₀ (.inRegion ops (i :: rest) :: k) :: cs)) w := by
  refine Can.pure rfl (fun w => ?_) hK
  rw [stepG_leave hn hd hf (results_tmp hr _ Try.prog w) (events_results_tmp hr _ _), Frame.finish_at]
theorem Can.leave2 {fn : Func} {t u : Tmp} {todo : List Item} {b₀ : Frame} {a₀ : Act} (hn : b.kind = .normal) (hd : a.defers = []) (hf : Try.prog.funcs[b.fn]? = some fn) (hr : fn.results = #[.tmp t, .tmp u])
    (hK : Can Gl n (G (b₀.at (a₀.put ((ops[i]?).bind (·.dst)) (.tuple #[a.tmps.getD t undef, a.tmps.getD u undef])) (.inRegion ops rest :: k)) cs) w) :
    Can Gl n (G { b.at a todo with mode := .returning } (b₀.at a₀ (.inRegion ops (i :: rest) :: k) :: cs)) w := by
  refine Can.pure rfl (fun w => ?_) hK
  rw [stepG_leave hn hd hf (results_tmp2 hr _ Try.prog w) (events_results_tmp2 hr _ _), Frame.finish_at]
end
end Go.Proofs.Ytlndinigbppafaa

/-
  Goroutine 0 beside others that only leave: an operation that reads; the end of the run.
-/
namespace Go.Proofs.Ytlndinigbppafaa
open Go.Sim Go.Conc Go.Fi

section
variable {Gl : Array Goroutine → World → Option (Nat × Nat) → Trace → Prop} {n : Nat}
variable {b : Frame} {a a' : Act} {k : List Item} {cs : List Frame} {ops : Array Oper} {i : Nat} {rest : List Nat} {o : Oper} {g g' : Goroutine} {w w' : World}

/-- A fine operation that asks the tape nothing. -/
theorem Can.fop {v : Value} (hk : b.kind ≠ .early) (ho : ops[i]? = some o) (hwt : Region.wanted o (yielded ops a.tmps) = true) (hF : Fine Try.prog (execOp a.eval o)) (hr : (execOp a.eval o).run Try.prog w = .ok (.value v) w') (hd : w'.drawn = w.drawn)
    (hK : Can Gl n (G (b.at (a.put o.dst v) (.inRegion ops rest :: k)) cs) w') : Can Gl n (G (b.at a (.inRegion ops (i :: rest) :: k)) cs) w := by
  refine Can.step rfl fun w₁ hE => ?_
  obtain ⟨_, _, _, _, h5⟩ := hF.shift hr
  have h6 := h5 w₁.tape w₁.drawn fun j q hj => by rw [hd] at hj; omega
  rw [← hE.td, hd, Nat.sub_self, Nat.add_zero] at h6
  obtain ⟨s1, s2⟩ := hF.events h6
  exact ⟨_, _, _, stepG_value ho hwt hk h6, fun e he => s2 e (mem_seen he), s1, hK.eqv (eqv_td _ _ _)⟩

/-- THE RUN's END, from here. -/
def Done (Post : Value → World → Prop) (gs : Array Goroutine) (w : World) (sl : Option (Nat × Nat)) (t : Trace) : Prop :=
  ∃ N last o w' t', runNT Try.prog (N + 1) (crowd gs w sl) t = (.ended o w', t') ∧ runN Try.prog N (crowd gs w sl) = .next last ∧ step Try.prog last = .ended o w' ∧ Good Try.prog Post last o w' t'

theorem Done.step {Post : Value → World → Prop} {gs gs' : Array Goroutine} {w w' : World} {sl sl' sl2 : Option (Nat × Nat)} {t u : Trace} {d i : Nat} (h1 : stepT Try.prog (crowd gs w sl) = runT Try.prog (crowd gs (w.at d) sl') i)
    (h2 : runT Try.prog (crowd gs (w.at d) sl') i = (.next (crowd gs' w' sl2), u)) (h : Done Post gs' w' sl2 (t ++ u)) : Done Post gs w sl t := by
  obtain ⟨N, last, o, w2, t2, r1, r2, r3⟩ := h
  have hs : Go.step Try.prog (crowd gs w sl) = .next (crowd gs' w' sl2) := by
    rw [← stepT_fst, h1, h2]
  refine ⟨N + 1, last, o, w2, t2, ?_, ?_, r3⟩
  · rw [runNT]
    simp only [h1, h2]
    exact r1
  · rw [runN, hs]
    exact r2

theorem good_cm {qs : List Nat} {gs : Array Goroutine} {t : Trace} {sl : Option (Nat × Nat)} {Post : Value → World → Prop} {v : Value} (hC : Cm qs gs w t) (hP : Post v w') : Good Try.prog Post (crowd gs w sl) (.done v) w' t := by
  refine ⟨v, rfl, hP, hC.tr.clean, fun i g hg hne hc => ?_, ⟨fun g hg => ?_, rfl⟩, fun i g hg hne => ?_⟩
  · obtain ⟨x, hx, hm, _⟩ := hc
    obtain ⟨q, z, h1, h2, h3⟩ := hC.tr.known i x hx hm
    refine ⟨q, by unfold Trace.g?; rw [h1]; exact congrArg some h2, ?_⟩
    rcases h3 with rfl | h3
    · exfalso
      unfold Trace.g? at hg
      rw [h1] at hg
      simp only [Option.map_some, Option.some.injEq] at hg
      exact hne (hg ▸ h2)
    · exact h3
  · obtain ⟨j, hj⟩ := List.getElem?_of_mem hg
    rw [List.getElem?_drop] at hj
    have hj' : gs[j + 1]? = some g := by
      have : (crowd gs w sl).gs = gs := rfl
      rw [this] at hj
      rw [← Array.getElem?_toList, Nat.add_comm]
      exact hj
    have hk : j < qs.length := by
      have := (Array.getElem?_eq_some_iff.1 hj').1
      rw [hC.size] at this; omega
    obtain ⟨g2, e1, e2⟩ := hC.old j _ (List.getElem?_eq_getElem hk)
    rw [hj'] at e1; cases e1
    exact ⟨_, e2.leaves⟩
  · cases i with
    | zero => exact absurd rfl hne
    | succ j =>
      have hj' : gs[j + 1]? = some g := hg
      have hk : j < qs.length := by
        have := (Array.getElem?_eq_some_iff.1 hj').1
        rw [hC.size] at this; omega
      obtain ⟨g2, e1, e2⟩ := hC.old j _ (List.getElem?_eq_getElem hk)
      rw [hj'] at e1; cases e1
      refine ⟨qs[j], ?_⟩
      rw [hC.tr.wl.deaf]
      exact e2.hears _ 0

theorem runT_crowd_ended {gs : Array Goroutine} {sl : Option (Nat × Nat)} {o : Outcome} {es : Array Event} (hi : gs[i]? = some g) (h : stepG Try.prog (i == 0) g w = .ended o w' es) :
    runT Try.prog (crowd gs w sl) i = (.ended o w', MemOp.ofEvents i g.frame.fn g.frame.place es) := by
  obtain ⟨hlt, rfl⟩ := Array.getElem?_eq_some_iff.1 hi
  have hsw := swapAt_of_lt hlt { (default : Goroutine) with status := .finished }
  show runT Try.prog { world := w, gs := gs, rest := { timers := #[], alone := none, slice := sl } } i = _
  unfold runT
  simp only [hsw, h, GStep.es]

/-- Goroutine 0 stands at its last step. -/
theorem Can.done {Post : Value → World → Prop} {v : Value} (hg : g.status = .running) (h : ∀ w₁, Eqv w w₁ → stepG Try.prog true g w₁ = .ended (.done v) w₁ #[] ∧ Post v w₁) : Can (Done Post) n g w := by
  have key : ∀ qs, Acc (LL Nat.lt) qs → ∀ gs w₁ sl t a, Cm qs gs w₁ t → Eqv w w₁ → gs[0]? = some a → Like a g → Done Post gs w₁ sl t := by
    intro qs hacc
    induction hacc with
    | intro qs _ ih =>
      intro gs w₁ sl t a hC hE ha hl
      have rf : ∀ {k : Nat} {b : Goroutine}, gs[k + 1]? = some b → ∃ q, qs[k]? = some q ∧ QuitsIn Try.prog q b := by
        intro k b hb
        have hk : k < qs.length := by
          have := (Array.getElem?_eq_some_iff.1 hb).1
          rw [hC.size] at this; omega
        obtain ⟨g2, e1, e2⟩ := hC.old k _ (List.getElem?_eq_getElem hk)
        rw [hb] at e1; cases e1
        exact ⟨_, List.getElem?_eq_getElem hk, e2⟩
      have haw : ∀ b ∈ gs, Go.Conc.awake b := by
        intro b hb
        obtain ⟨i, hi, rfl⟩ := Array.mem_iff_getElem.1 hb
        cases i with
        | zero =>
          have : gs[0] = a := by simpa [Array.getElem?_eq_getElem hi] using ha
          rw [this]; exact awake_of (.inl hl.run)
        | succ j =>
          obtain ⟨q, _, hq⟩ := rf (Array.getElem?_eq_getElem hi)
          exact awake_of ((quits_rf hq).elim .inl fun y => .inr (.inr y))
      obtain ⟨i, b, d, sl', hb, hbr, hst⟩ := crowd_pick (P := Try.prog) (w := w₁) (sl := sl) haw ⟨0, a, ha, hl.run⟩
      cases i with
      | zero =>
        rw [ha] at hb; cases hb
        obtain ⟨e1, e2⟩ := h (w₁.at d) ⟨hE.heap, hE.os, hE.output⟩
        have hr := runT_crowd_ended (sl := sl') ha (by rw [show ((0 : Nat) == 0) = true from rfl, hl.step]; exact e1)
        have hu : MemOp.ofEvents 0 a.frame.fn a.frame.place #[] = #[] := rfl
        rw [hu] at hr
        refine ⟨0, crowd gs w₁ sl, .done v, w₁.at d, t, ?_, rfl, ?_, good_cm hC e2⟩
        · simp only [runNT, hst, hr, Array.append_empty]
        · rw [← stepT_fst (b := true), hst, hr]
      | succ k =>
        obtain ⟨q, hq, hQ⟩ := rf hb
        cases q with
        | zero =>
          have : b.status = .finished := hQ
          rw [hbr] at this; cases this
        | succ q =>
          rcases hQ with hQ | ⟨_, g', hs, hQ'⟩
          · rw [hbr] at hQ; cases hQ
          have hk : k < qs.length := (List.getElem?_eq_some_iff.1 hq).1
          have hki : k + 1 < gs.size := (Array.getElem?_eq_some_iff.1 hb).1
          refine Done.step hst (runT_crowd_go hb (by simpa using hs (w₁.at d))) ?_
          have hu : MemOp.ofEvents (k + 1) b.frame.fn b.frame.place #[] = #[] := rfl
          rw [hu, Array.append_empty]
          refine ih (qs.set k q) (LL.set hq (Nat.lt_succ_self q)) _ (w₁.at d) sl' t a ⟨by simp [hC.size], fun l q2 hl2 => ?_, hC.tr, hC.low⟩ ⟨hE.heap, hE.os, hE.output⟩ ?_ hl
          · rw [List.getElem?_set] at hl2
            split at hl2
            · rename_i e
              subst e
              first
                | (cases hl2; exact ⟨g', by rw [Array.getElem?_setIfInBounds_self_of_lt (by simpa using hki)], hQ'⟩)
                | (rw [if_pos hk] at hl2; cases hl2; exact ⟨g', by rw [Array.getElem?_setIfInBounds_self_of_lt (by simpa using hki)], hQ'⟩)
            · rename_i e
              obtain ⟨g2, q1, q3⟩ := hC.old l q2 hl2
              refine ⟨g2, ?_, q3⟩
              rw [Array.getElem?_setIfInBounds_ne (by omega), Array.getElem?_map, q1]
              simp [woken_rf' (quits_rf q3)]
          · rw [Array.getElem?_setIfInBounds_ne (by omega), Array.getElem?_map, ha]
            simp [woken_rf' (.inl hl.run)]
  refine ⟨hg, fun qs gs w₁ sl t a _ hC hE ha hl => ⟨0, gs, w₁, sl, t, rfl, key qs (acc_list fun a _ => Nat.lt_wfRel.wf.apply a) gs w₁ sl t a hC hE ha hl⟩⟩

/-- What comes to a state from which the run ends, ends. -/
theorem Done.after {Post : Value → World → Prop} : ∀ (m : Nat) {M M' : Machine} {t t' : Trace}, runNT Try.prog m M t = (.next M', t') →
    (∃ N last o w' t2, runNT Try.prog (N + 1) M' t' = (.ended o w', t2) ∧ runN Try.prog N M' = .next last ∧ Go.step Try.prog last = .ended o w' ∧ Good Try.prog Post last o w' t2) →
    ∃ N last o w' t2, runNT Try.prog (N + 1) M t = (.ended o w', t2) ∧ runN Try.prog N M = .next last ∧ Go.step Try.prog last = .ended o w' ∧ Good Try.prog Post last o w' t2
  | 0, M, M', t, t', h, hD => by
    simp only [runNT, Prod.mk.injEq, Stepped.next.injEq] at h
    obtain ⟨rfl, rfl⟩ := h
    exact hD
  | m + 1, M, M', t, t', h, hD => by
    simp only [runNT] at h
    cases hs : stepT Try.prog M with
    | mk s u =>
      rw [hs] at h
      cases s with
      | next M2 =>
        obtain ⟨N, last, o, w', t2, r1, r2, r3⟩ := Done.after m h hD
        refine ⟨N + 1, last, o, w', t2, ?_, ?_, r3⟩
        · rw [runNT]
          simp only [hs]
          exact r1
        · have : Go.step Try.prog M = .next M2 := by rw [← stepT_fst (b := true), hs]
          rw [runN, this]
          exact r2
      | ended o w => simp at h

theorem can_runs {Post : Value → World → Prop} {g : Goroutine} {w : World} (h : Can (Done Post) 0 g w) (hg : Like g g) :
    ∃ N last o w' t', runNT Try.prog (N + 1) (solo g w) #[] = (.ended o w', t') ∧ runN Try.prog N (solo g w) = .next last ∧ Go.step Try.prog last = .ended o w' ∧ Good Try.prog Post last o w' t' := by
  have hT : TrI (#[] : Trace) fun _ => none := by
    refine ⟨fun op ho => by simp at ho, fun said hr => ?_, fun i a ha => ?_, (fun γ x i a b hk => (by cases hk)), (fun γ x i a b hk => (by cases hk)), (fun γ x i a hk => (by cases hk)), rfl, (fun γ γ' x x' b hk => (by cases hk)), (fun γ x b hk => (by cases hk))⟩
    · obtain ⟨i, j, _, ⟨a, b, h1, _⟩, _⟩ := hr
      simp [Trace.act?] at h1
    · simp [touchAt, Trace.act?] at ha
  obtain ⟨n, gs', w', sl', t', r, hD⟩ := h.2 [] #[g] w none #[] g rfl ⟨rfl, fun k q hk => by simp at hk, hT, fun i a b ha => by simp [touchAt, Trace.act?] at ha⟩ (Eqv.refl w) rfl hg
  rw [← solo_eq_crowd] at r
  exact Done.after n r hD
end
end Go.Proofs.Ytlndinigbppafaa

/-
  What a piece in company leaves behind stands for itself: plain data.
-/
namespace Go.Proofs.Ytlndinigbppafaa
open Go.Sim Go.Conc

/-- These blocks stand for themselves. -/
def idOn (D : Nat → Prop) : BR := fun b B => b = B ∧ D b
def domR (R : BR) (b : Nat) : Prop := ∃ B, R b B
theorem idOn_mono {D D' : Nat → Prop} (h : ∀ b, D b → D' b) : ∀ b B, idOn D b B → idOn D' b B := fun _ _ q => ⟨q.1, h _ q.2⟩
def ranR (R : BR) (B : Nat) : Prop := ∃ b, R b B
/-- A value that leads to such blocks alone. -/
def Vs (D : Nat → Prop) (v : Value) : Prop := VR Try.prog (idOn D) v v
/-- Blocks that hold plain data, which leads to such blocks alone. -/
def Pl (D : Nat → Prop) (w : World) : Prop := ∀ b, D b → Try.prog.globals.size ≤ b ∧ ∃ o, w.heap[b]? = some o ∧ OR Try.prog NoShd (idOn D) b o o

theorem ar_ran {R : BR} {a A : Addr} (h : AR R a A) : AR (idOn (ranR R)) A A := ⟨⟨rfl, _, h.1⟩, rfl, h.2.2.2, h.2.2.2⟩
theorem vr_ran {R : BR} {v V : Value} (h : VR Try.prog R v V) : VR Try.prog (idOn (ranR R)) V V := by
  have G : ∀ {x X : Array Value}, x.size = X.size → (∀ (i : Nat) v V, x[i]? = some v → X[i]? = some V → VR Try.prog (idOn (ranR R)) V V) → ∀ (i : Nat) v V, X[i]? = some v → X[i]? = some V → VR Try.prog (idOn (ranR R)) v V := by
    intro x X h1 h2 i v V e1 e2
    rw [e1] at e2; cases e2
    have hi := (Array.getElem?_eq_some_iff.1 e1).1
    exact h2 i _ v (Array.getElem?_eq_getElem (h1 ▸ hi)) e1
  induction h with
  | bool b => exact .bool b
  | int k n => exact .int k n
  | string s => exact .string s
  | nilPtr => exact .nilPtr
  | ptr ha => exact .ptr (ar_ran ha)
  | nilSlice l c => exact .nilSlice l c
  | slice l c ha => exact .slice l c (ar_ran ha)
  | nilMap => exact .nilMap
  | nilChan => exact .nilChan
  | func f hf h1 _ h2 _ i1 i2 => exact .func f hf rfl (G h1 i1) rfl (G h2 i2)
  | nilFunc => exact .nilFunc
  | iface t ht _ ih => exact .iface t ht ih
  | nilIface => exact .nilIface
  | agg h1 _ ih => exact .agg rfl (G h1 ih)
  | tuple h1 _ ih => exact .tuple rfl (G h1 ih)
theorem vrs_ran {R : BR} {x X : Array Value} (h : VRs Try.prog R x X) : VRs Try.prog (idOn (ranR R)) X X := by
  refine ⟨rfl, fun i v V e1 e2 => ?_⟩
  rw [e1] at e2; cases e2
  have hi := (Array.getElem?_eq_some_iff.1 e1).1
  exact vr_ran (h.2 i _ v (Array.getElem?_eq_getElem (h.1 ▸ hi)) e1)
theorem or_ran {R : BR} {b B : Nat} {o O : Obj} (h : OR Try.prog NoShd R b o O) : OR Try.prog NoShd (idOn (ranR R)) B O O := by
  cases h with
  | cells t h4 h5 h6 => exact .cells t (vrs_ran h4) (fun _ => rfl) fun q => q.elim
  | number l h4 h5 => exact .number l (ar_ran h4) fun q => q
theorem pl_ran {R : BR} {w W W' : World} (h : WR Try.prog NoShd R w W) (hk : ∀ b B, R b B → W'.heap[B]? = W.heap[B]?) : Pl (ranR R) W' := by
  intro B hB
  obtain ⟨b, hb⟩ := hB
  obtain ⟨o, O, _, e2, h3⟩ := h.dom b B hb
  exact ⟨(h.low b B hb).2, O, by rw [hk b B hb]; exact e2, or_ran h3⟩
end Go.Proofs.Ytlndinigbppafaa

/-
  The simulation of a world by itself: which blocks hold plain data.
-/
namespace Go.Proofs.Ytlndinigbppafaa
open Go.Sim Go.Conc Go.Fi

theorem ar_self {R : BR} {a A : Addr} (h : AR R a A) : AR (idOn (domR R)) a a := ⟨⟨rfl, _, h.1⟩, rfl, h.2.2.1, h.2.2.1⟩
theorem vr_self {R : BR} {v V : Value} (h : VR Try.prog R v V) : VR Try.prog (idOn (domR R)) v v := by
  induction h with
  | bool b => exact .bool b
  | int k n => exact .int k n
  | string s => exact .string s
  | nilPtr => exact .nilPtr
  | ptr ha => exact .ptr (ar_self ha)
  | nilSlice l c => exact .nilSlice l c
  | slice l c ha => exact .slice l c (ar_self ha)
  | nilMap => exact .nilMap
  | nilChan => exact .nilChan
  | func f hf h1 _ h2 _ i1 i2 =>
    rename_i x X y Y _ _
    refine .func f hf rfl (fun i v V e1 e2 => ?_) rfl fun i v V e1 e2 => ?_
    · rw [e1] at e2; cases e2
      have hi := (Array.getElem?_eq_some_iff.1 e1).1
      exact i1 i v _ e1 (Array.getElem?_eq_getElem (h1 ▸ hi))
    · rw [e1] at e2; cases e2
      have hi := (Array.getElem?_eq_some_iff.1 e1).1
      exact i2 i v _ e1 (Array.getElem?_eq_getElem (h2 ▸ hi))
  | nilFunc => exact .nilFunc
  | iface t ht _ ih => exact .iface t ht ih
  | nilIface => exact .nilIface
  | agg h1 _ ih =>
    refine .agg rfl fun i v V e1 e2 => ?_
    rw [e1] at e2; cases e2
    have hi := (Array.getElem?_eq_some_iff.1 e1).1
    exact ih i v _ e1 (Array.getElem?_eq_getElem (h1 ▸ hi))
  | tuple h1 _ ih =>
    refine .tuple rfl fun i v V e1 e2 => ?_
    rw [e1] at e2; cases e2
    have hi := (Array.getElem?_eq_some_iff.1 e1).1
    exact ih i v _ e1 (Array.getElem?_eq_getElem (h1 ▸ hi))
theorem vrs_self {R : BR} {x X : Array Value} (h : VRs Try.prog R x X) : VRs Try.prog (idOn (domR R)) x x := by
  refine ⟨rfl, fun i v V e1 e2 => ?_⟩
  rw [e1] at e2; cases e2
  obtain ⟨V, _, hv⟩ := h.get e1
  exact vr_self hv
theorem wr_self {R : BR} {w W : World} (h : WR Try.prog NoShd R w W) : WR Try.prog NoShd (idOn (domR R)) w w := by
  refine ⟨fun b B hR => ?_, fun b b' B B' q1 q2 => ?_, fun b hb => hb.elim, fun b B hR => ?_, h.glob.1, h.glob.1⟩
  · obtain ⟨rfl, B', hB⟩ := hR
    obtain ⟨o, O, h1, _, h3⟩ := h.dom b B' hB
    refine ⟨o, o, h1, h1, ?_⟩
    cases h3 with
    | cells t h4 h5 h6 => exact .cells t (vrs_self h4) (fun _ => rfl) fun q => q.elim
    | number l h4 h5 => exact .number l (ar_self h4) h5
  · rw [q1.1, q2.1]
  · obtain ⟨rfl, B', hB⟩ := hR
    exact ⟨(h.low b B' hB).1, (h.low b B' hB).1⟩

/-- These blocks hold plain data, and nothing but such blocks is to be had from them. -/
def Sf (D : Nat → Prop) (w : World) : Prop := WR Try.prog NoShd (idOn D) w w
theorem Vs.mono {D D' : Nat → Prop} {v : Value} (h : Vs D v) (hD : ∀ b, D b → D' b) : Vs D' v := VR.mono (idOn_mono hD) h
theorem Vs.int (D : Nat → Prop) (k : IntKind) (n : Int) : Vs D (.int k n) := VR.int k n
theorem Vs.bool (D : Nat → Prop) (b : Bool) : Vs D (.bool b) := VR.bool b
theorem Vs.tuple {D : Nat → Prop} {x : Array Value} (h : Vs D (.tuple x)) {i : Nat} {v : Value} (hi : x[i]? = some v) : Vs D v := by
  unfold Vs at h
  cases h with
  | tuple h1 h2 => exact h2 i v v hi hi
theorem vrs_of {D : Nat → Prop} {l : List Value} (h : ∀ v ∈ l, Vs D v) : VRs Try.prog (idOn D) l.toArray l.toArray := by
  refine ⟨rfl, fun i v V e1 e2 => ?_⟩
  rw [e1] at e2; cases e2
  exact h v (by simpa using Array.mem_of_getElem? e1)

/-- Blocks added: each a row of plain values that lead to such blocks alone. -/
theorem Sf.add {D D' : Nat → Prop} {w : World} (h : Sf D w) (hsub : ∀ b, D b → D' b) (hnew : ∀ b, D' b → D b ∨ (Try.prog.globals.size ≤ b ∧ ∃ c t fz, w.heap[b]? = some (.cells c t fz) ∧ ∀ v ∈ c, Vs D' v)) : Sf D' w := by
  refine ⟨fun b B hR => ?_, fun b b' B B' q1 q2 => by rw [q1.1, q2.1], fun b hb => hb.elim, fun b B hR => ?_, h.glob⟩
  · obtain ⟨rfl, hb⟩ := hR
    rcases hnew b hb with hb | ⟨_, c, t, fz, e, hc⟩
    · obtain ⟨o, O, h1, h2, h3⟩ := h.dom b b ⟨rfl, hb⟩
      exact ⟨o, O, h1, h2, h3.mono (idOn_mono hsub)⟩
    · refine ⟨_, _, e, e, .cells t ⟨rfl, fun i v V e1 e2 => ?_⟩ (fun _ => rfl) fun q => q.elim⟩
      rw [e1] at e2; cases e2
      exact hc v (Array.mem_of_getElem? e1)
  · obtain ⟨rfl, hb⟩ := hR
    rcases hnew b hb with hb | ⟨hg, _⟩
    · exact h.low b b ⟨rfl, hb⟩
    · exact ⟨hg, hg⟩
theorem Sf.keep {D : Nat → Prop} {w w' : World} (h : Sf D w) (hs : w.heap.size ≤ w'.heap.size) (hk : ∀ b, b < w.heap.size → w'.heap[b]? = w.heap[b]?) : Sf D w' := by
  refine ⟨fun b B hR => ?_, fun b b' B B' q1 q2 => by rw [q1.1, q2.1], fun b hb => hb.elim, h.low, Nat.le_trans h.glob.1 hs, Nat.le_trans h.glob.1 hs⟩
  obtain ⟨o, O, h1, h2, h3⟩ := h.dom b B hR
  have e1 := hk b (Array.getElem?_eq_some_iff.1 h1).1
  have e2 := hk B (Array.getElem?_eq_some_iff.1 h2).1
  exact ⟨o, O, e1.trans h1, e2.trans h2, h3⟩

/-- All that is plain is added. -/
theorem Sf.plain {D : Nat → Prop} {w : World} (h : Sf D w) : Sf (fun b => D b ∨ ∃ E, Pl E w ∧ E b) w := by
  refine ⟨fun b B hR => ?_, fun b b' B B' q1 q2 => by rw [q1.1, q2.1], fun b hb => hb.elim, fun b B hR => ?_, h.glob⟩
  · obtain ⟨rfl, hb⟩ := hR
    rcases hb with hb | ⟨E, hE, hb⟩
    · obtain ⟨o, O, h1, h2, h3⟩ := h.dom b b ⟨rfl, hb⟩
      exact ⟨o, O, h1, h2, h3.mono (idOn_mono fun _ q => .inl q)⟩
    · obtain ⟨_, o, h1, h2⟩ := hE b hb
      exact ⟨o, o, h1, h1, h2.mono (idOn_mono fun _ q => .inr ⟨E, hE, q⟩)⟩
  · obtain ⟨rfl, hb⟩ := hR
    rcases hb with hb | ⟨E, hE, hb⟩
    · exact h.low b b ⟨rfl, hb⟩
    · exact ⟨(hE b hb).1, (hE b hb).1⟩

section
variable {Gl : Array Goroutine → World → Option (Nat × Nat) → Trace → Prop} {n : Nat}
variable {b : Frame} {a a' : Act} {k : List Item} {cs : List Frame} {ops : Array Oper} {i : Nat} {rest : List Nat} {o : Oper} {w : World}

/-- A CALL BY ITS LONE CONTRACT, in a world that stands for itself. -/
theorem Can.callS {f : FuncId} {fn : Func} {c : Code} {args : Array Operand} {ats : Array TypeId} {D : Nat → Prop} {vs : List Value} {Q : Value → World → Prop} (hk : b.kind ≠ .early) (ho : ops[i]? = some o) (hwt : Region.wanted o (yielded ops a.tmps) = true) (hop : o.op = .call { callee := .value (.func f), args, argTypes := ats })
    (hf : Try.prog.funcs[f]? = some fn) (hname : fn.name ∈ names) (hb : fn.body = some c) (hres : ∀ r ∈ fn.results, ∃ t, r = .tmp t) (hargs : args.map a.eval = vs.toArray)
    (hA : ∀ v ∈ vs, Vs D v) (hw : Sf D w) (hQ : ∀ v w τ, Q v w → Q v (w.tp τ))
    (hc : ∀ τ, Calls Try.prog f vs.toArray (w.tp τ) fun e w' => match e with | .returned v => Q v w' | _ => False)
    (hK : ∀ {D' : Nat → Prop} {v : Value} {w' : World}, (∀ b, D b → D' b) → Vs D' v → Sf D' w' → Q v w' → Can Gl n (G (b.at (a.put o.dst v) (.inRegion ops rest :: k)) cs) w') :
    Can Gl n (G (b.at a (.inRegion ops (i :: rest) :: k)) cs) w := by
  refine Can.call (R := idOn D) (A := vs.toArray) (W := w) hk ho hwt hop hf hname hb hres (by rw [hargs]; exact vrs_of hA) hw hQ (fun τ => by rw [hargs]; exact hc τ) ?_
  intro R' v V w' W' s1 hv hw' hq
  exact hK (D' := domR R') (fun b hb => ⟨b, s1 b b ⟨rfl, hb⟩⟩) (vr_self hv) (wr_self hw') hq
end
end Go.Proofs.Ytlndinigbppafaa

/-
  The rest of a frame, by the lone walk: to the run's end.
-/
namespace Go.Proofs.Ytlndinigbppafaa
open Go.Sim Go.Conc Go.Fi

theorem results_pure {fn : Func} (hres : ∀ r ∈ fn.results, ∃ t, r = .tmp t) (t : Array Value) : ∃ v, results fn t = pure v := by
  have K : ∀ (l : List ResultVar), (∀ r ∈ l, ∃ t, r = .tmp t) → ∃ vs : List Value, l.mapM (rdv t) = pure vs := by
    intro l
    induction l with
    | nil => exact fun _ => ⟨[], rfl⟩
    | cons r l ih =>
      intro hl
      obtain ⟨x, rfl⟩ := hl r (List.mem_cons_self ..)
      obtain ⟨vs, h2⟩ := ih fun r hr => hl r (List.mem_cons_of_mem _ hr)
      exact ⟨t.getD x Go.undef :: vs, by rw [List.mapM_cons, h2]; rfl⟩
  obtain ⟨vs, h2⟩ := K fn.results.toList (fun r hr' => hres r (by simpa using hr'))
  exact ⟨_, by rw [results_eq, Array.mapM_eq_mapM_toList, h2]; rfl⟩

theorem stepG_done {P : Program} {fr : Frame} {fn : Func} {v : Value} (hm : fr.mode = .returning) (hd : fr.defers = []) (hk : fr.kind = .normal) (hf : P.funcs[fr.fn]? = some fn) (hr : results fn fr.tmps = pure v) (hi : P.inits.idxOf? fr.fn = none) (w : World) : stepG P true (G fr []) w = .ended (.done v) w #[] := by
  simp [stepG, G, unwind, doReturn, hm, hd, hk, hf, hr, hi, seen, GStep.after]

section
variable {n : Nat} {Post : Value → World → Prop}

/-- THE REST OF THE LAST FRAME. -/
theorem Can.rest {f : FuncId} {fn : Func} {c : Code} {a : Act} {w : World} {D : Nat → Prop} (hf : Try.prog.funcs[f]? = some fn) (hc : CodeOK Try.prog c) (htm : ∀ v ∈ a.tmps, Vs D v) (hd : a.defers = []) (hw : Sf D w) (hres : ∀ r ∈ fn.results, ∃ t, r = .tmp t) (hin : Try.prog.inits.idxOf? f = none)
    (hP : ∀ v w w₁, Post v w → Eqv w w₁ → Post v w₁)
    (hwp : ∀ τ, c.wp Try.prog (bodyPost Try.prog fn fun e w' => match e with | .returned v => Post v w' | _ => False) a (w.tp τ)) : Can (Done Post) n (G ((base f).at a [.code c]) []) w := by
  have htm' : VRs Try.prog (idOn D) a.tmps a.tmps := by
    refine ⟨rfl, fun i v V e1 e2 => ?_⟩
    rw [e1] at e2; cases e2
    exact htm v (Array.mem_of_getElem? e1)
  have hF : FR Try.prog (idOn D) ((base f).at a [.code c]) ((base f).at a [.code c]) :=
    { fn := rfl, tmps := htm', todo := rfl, items := fun it hit => by
        have : it = .code c := by simpa [Frame.at] using hit
        subst this
        exact hc, defers := hd, defers' := hd, mode := rfl, modes := .inl rfl, kind := rfl, kind' := rfl, round := rfl, round' := rfl, func := ⟨fn, hf⟩ }
  have hRel : Rel Try.prog NoShd ((base f).at a [.code c]) [] w := ⟨_, _, [], w, hF, trivial, hw⟩
  have hrun : Run Try.prog (fun fr w => fr.fn = f ∧ FinQ Try.prog Post fr w) ((base f).at a [.code c]) [] w := by
    refine run_of_good noShd zeroOK bodiesOK (fun fr w τ h => ?_) hRel fun τ => ?_
    · obtain ⟨h0, v, fn, h1, hr, h2, h3⟩ := h
      exact ⟨h0, v, fn, h1, hr, h2, hP v w _ h3 ⟨rfl, rfl, rfl⟩⟩
    · obtain ⟨e, a', w', hq, harr⟩ := hwp τ (base f) [] [c0 Try.prog]
      have fin : ∀ {todo : List Item} {v : Value}, Steps Try.prog (lone ((base f).at a [.code c]) [c0 Try.prog] (w.tp τ)) (lone { (base f).at a' todo with mode := .returning } [c0 Try.prog] w') → (results fn a'.tmps).run Try.prog w' = .ok v w' → Post v w' →
          ∃ n, EndsG Try.prog (fun fr w => fr.fn = f ∧ FinQ Try.prog Post fr w) n ((base f).at a [.code c]) [] (w.tp τ) := by
        intro todo v hs hr hp
        obtain ⟨m, hm⟩ := hs
        obtain ⟨v', hv'⟩ := results_pure hres a'.tmps
        rw [hv'] at hr
        cases hr
        exact ⟨m, endsG_of_run noShd zeroOK bodiesOK (fr' := { (base f).at a' todo with mode := .returning }) (w' := w') rfl ⟨rfl, _, fn, hf, hres, hv', hp⟩ m (hRel.tp τ) hm⟩
      cases e with
      | normal =>
        obtain ⟨_, v, hr, hp⟩ := hq
        exact fin (Steps.trans harr (.one step_end)) hr hp
      | ret =>
        obtain ⟨_, v, hr, hp⟩ := hq
        obtain ⟨todo, hs⟩ := harr
        exact fin hs hr hp
      | panic ch => exact hq.2.elim
      | outgrown => exact hq.elim
      | exit _ => exact hq.elim
      | goto _ => exact hq.elim
  refine Can.run (cs := []) (K := []) hrun (Cs := []) hF trivial hw ?_
  intro R' fr' Fr' w' W' _ f1 hm hfin _
  obtain ⟨h0, v, fn2, e1, hr2, e2, hq⟩ := hfin
  refine Can.done (v := v) rfl fun w₁ hE => ⟨?_, hP v w' w₁ hq hE⟩
  exact stepG_done hm f1.defers f1.kind e1 e2 (by rw [h0]; exact hin) w₁
end
end Go.Proofs.Ytlndinigbppafaa

/-
  A lone run up to a stop, told step by step; a frame with more to do behind what it does.
-/
namespace Go.Sim
open Go.Conc (G)
variable {P : Program} {Shd : Nat → Prop} {R : BR}

theorem bad_run' : ∀ (n : Nat) {fr fr' : Frame} {cs : List Frame} {w w' : World}, Bad (P := P) fr cs → runN P n (lone fr (cs ++ [c0 P]) w) = .next (lone fr' [c0 P] w') → ∃ ch, fr'.mode = .panicking ch
  | 0, fr, fr', cs, w, w', hb, e => by
    simp only [runN, Stepped.next.injEq] at e
    obtain ⟨rfl, _, _⟩ := lone_inj e
    exact hb.mode
  | n + 1, fr, fr', cs, w, w', hb, e => by
    obtain ⟨ch, hm⟩ := hb.mode
    obtain ⟨f, hf⟩ := hb.func
    have hc : fr.catches P = false := by unfold Frame.catches; simp [hf]
    cases cs with
    | cons c cs =>
      have hs : step P (lone fr (c :: cs ++ [c0 P]) w) = .next (lone (c.raise ch) (cs ++ [c0 P]) w) := step_lone_go (by simp [stepG, hm, unwind, hb.defers, hc])
      rw [runN, hs] at e
      have hcc := hb.callers c (List.mem_cons_self ..)
      exact bad_run' n ⟨raise_mode _ _, by rw [raise_defers]; exact hcc.1, by rw [raise_fn]; exact hcc.2, fun x hx => hb.callers x (List.mem_cons_of_mem _ hx)⟩ e
    | nil =>
      have hs : step P (lone fr ([] ++ [c0 P]) w) = .next (lone ((c0 P).raise ch) [] w) := step_lone_go (by simp [stepG, hm, unwind, hb.defers, hc])
      rw [runN, hs] at e
      cases n with
      | zero =>
        simp only [runN, Stepped.next.injEq] at e
        obtain ⟨_, h, _⟩ := lone_inj e
        cases h
      | succ n =>
        have hx : ((c0 P).raise ch).catches P = true := by
          have := catches0 (P := P)
          unfold Frame.raise c0 at *
          exact this
        have hs2 : ∃ o w2, step P (lone ((c0 P).raise ch) [] w) = .ended o w2 := by
          obtain ⟨ch', h1⟩ := raise_mode (c0 P) ch
          have h2 : ((c0 P).raise ch).defers = [] := by rw [raise_defers]; rfl
          exact ⟨_, w, step_lone_ended (by simp [stepG, h1, unwind, h2, hx]; rfl)⟩
        obtain ⟨o, w2, hs2⟩ := hs2
        simp only [runN, hs2] at e
        cases e

/-- The run comes to a stop, told step by step. -/
def EndsS (P : Program) (St : Frame → List Frame → World → Prop) : Nat → Frame → List Frame → World → Prop
  | 0, fr, cs, w => St fr cs w
  | n + 1, fr, cs, w => St fr cs w ∨ (¬ IsFin fr cs ∧ ∃ fr' cs' w', (stepG P true (G fr (cs ++ [c0 P])) w).bare = .go (G fr' (cs' ++ [c0 P])) w' ∧ EndsS P St n fr' cs' w')

theorem endsS_bad {St : Frame → List Frame → World → Prop} (hSt : ∀ fr cs w ch, St fr cs w → fr.mode ≠ .panicking ch) : ∀ (n : Nat) {fr : Frame} {cs : List Frame} {w : World}, Bad (P := P) fr cs → ¬ EndsS P St n fr cs w
  | 0, fr, cs, w, hb, h => by
    obtain ⟨ch, hm⟩ := hb.mode
    exact hSt _ _ _ _ h hm
  | n + 1, fr, cs, w, hb, h => by
    obtain ⟨ch, hm⟩ := hb.mode
    obtain ⟨f, hf⟩ := hb.func
    have hc : fr.catches P = false := by unfold Frame.catches; simp [hf]
    rcases h with h | ⟨_, fr', cs', w', e, h⟩
    · exact hSt _ _ _ _ h hm
    cases cs with
    | cons c cs =>
      have hs : (stepG P true (G fr (c :: cs ++ [c0 P])) w).bare = .go (G (c.raise ch) (cs ++ [c0 P])) w := by simp [stepG, G, hm, unwind, hb.defers, hc]
      rw [hs] at e
      obtain ⟨rfl, rfl, rfl⟩ := G_inj e
      have hcc := hb.callers c (List.mem_cons_self ..)
      exact endsS_bad hSt n ⟨raise_mode _ _, by rw [raise_defers]; exact hcc.1, by rw [raise_fn]; exact hcc.2, fun x hx => hb.callers x (List.mem_cons_of_mem _ hx)⟩ h
    | nil =>
      have hs : (stepG P true (G fr ([] ++ [c0 P])) w).bare = .go (G ((c0 P).raise ch) []) w := by simp [stepG, G, hm, unwind, hb.defers, hc]
      rw [hs] at e
      simp only [GStep.go.injEq, G, Goroutine.mk.injEq] at e
      have := e.1.2.1
      simp at this

/-- Whatever the tape answers, step by step: the run comes to the stop. -/
inductive RunS (P : Program) (St : Frame → List Frame → World → Prop) : Frame → List Frame → World → Prop
  | fin {fr : Frame} {cs : List Frame} {w : World} : St fr cs w → RunS P St fr cs w
  | step {fr : Frame} {cs : List Frame} {w : World} : ¬ St fr cs w → ¬ IsFin fr cs →
      (∀ τ, ∃ fr' cs' w', (stepG P true (G fr (cs ++ [c0 P])) (w.tp τ)).bare = .go (G fr' (cs' ++ [c0 P])) w') →
      (∀ τ fr' cs' w', (stepG P true (G fr (cs ++ [c0 P])) (w.tp τ)).bare = .go (G fr' (cs' ++ [c0 P])) w' → RunS P St fr' cs' w') → RunS P St fr cs w

theorem runS_bad {St : Frame → List Frame → World → Prop} (hSt : ∀ fr cs w ch, St fr cs w → fr.mode ≠ .panicking ch) {fr : Frame} {cs : List Frame} {w : World} (h : RunS P St fr cs w) : ¬ Bad (P := P) fr cs := by
  induction h with
  | fin hf =>
    intro hb
    obtain ⟨ch, hm⟩ := hb.mode
    exact hSt _ _ _ _ hf hm
  | @step fr cs w _ hn hex hst ih =>
    intro hb
    obtain ⟨ch, hm⟩ := hb.mode
    obtain ⟨f, hf⟩ := hb.func
    have hc : fr.catches P = false := by unfold Frame.catches; simp [hf]
    cases cs with
    | cons c cs =>
      have hs : (stepG P true (G fr (c :: cs ++ [c0 P])) (w.tp w.tape)).bare = .go (G (c.raise ch) (cs ++ [c0 P])) (w.tp w.tape) := by simp [stepG, G, hm, unwind, hb.defers, hc]
      have hcc := hb.callers c (List.mem_cons_self ..)
      exact ih w.tape _ _ _ hs ⟨raise_mode _ _, by rw [raise_defers]; exact hcc.1, by rw [raise_fn]; exact hcc.2, fun x hx => hb.callers x (List.mem_cons_of_mem _ hx)⟩
    | nil =>
      obtain ⟨fr', cs', w', e⟩ := hex w.tape
      have hs : (stepG P true (G fr ([] ++ [c0 P])) (w.tp w.tape)).bare = .go (G ((c0 P).raise ch) []) (w.tp w.tape) := by simp [stepG, G, hm, unwind, hb.defers, hc]
      rw [hs] at e
      simp only [GStep.go.injEq, G, Goroutine.mk.injEq] at e
      have := e.1.2.1
      simp at this

section

theorem endsS_step (hS : ∀ b, ¬ Shd b) (hZ : ZeroOK P) (hB : BodiesOK P) {St : Frame → List Frame → World → Prop} (hSt : ∀ fr cs w ch, St fr cs w → fr.mode ≠ .panicking ch) {n : Nat} {fr : Frame} {cs : List Frame} {w : World} (hr : Rel P Shd fr cs w) (hn : ¬ St fr cs w) (h : EndsS P St n fr cs w) :
    ∃ m fr' cs' w', n = m + 1 ∧ ¬ IsFin fr cs ∧ (stepG P true (G fr (cs ++ [c0 P])) w).bare = .go (G fr' (cs' ++ [c0 P])) w' ∧ EndsS P St m fr' cs' w' ∧ Rel P Shd fr' cs' w' ∧ w'.tape = w.tape ∧ w.drawn ≤ w'.drawn ∧
      ∀ τ, (∀ j q, w.drawn ≤ j → j < w'.drawn → τ j q = w.tape j q) → (stepG P true (G fr (cs ++ [c0 P])) (w.tp τ)).bare = .go (G fr' (cs' ++ [c0 P])) (w'.tp τ) := by
  cases n with
  | zero => exact absurd h hn
  | succ n =>
    rcases h with h | ⟨hf, fr', cs', w', e, h⟩
    · exact absurd h hn
    rcases rel_step hS hZ hB hr hf with ⟨fr1, cs1, w1, e1, r1, x1, x2, tp⟩ | hfl
    · rw [e1] at e
      obtain ⟨rfl, rfl, rfl⟩ := G_inj e
      exact ⟨n, _, _, _, rfl, hf, e1, h, r1, x1, x2, tp⟩
    · exfalso
      obtain ⟨R, Fr, Cs, W, h1, h2, _⟩ := hr
      rcases hfl with ⟨fr1, w1, hs, hp, hd, hfn⟩ | ⟨o, w1, hs⟩
      · rw [hs] at e
        obtain ⟨rfl, rfl, rfl⟩ := G_inj e
        exact endsS_bad hSt n ⟨hp, hd, hfn, h2.bad⟩ h
      · rw [hs] at e; cases e

theorem endsS_tape (hS : ∀ b, ¬ Shd b) (hZ : ZeroOK P) (hB : BodiesOK P) {St : Frame → List Frame → World → Prop} (hSt : ∀ fr cs w ch, St fr cs w → fr.mode ≠ .panicking ch) (hF : ∀ fr cs w τ, St fr cs w → St fr cs (w.tp τ)) : ∀ (n : Nat) {fr : Frame} {cs : List Frame} {w : World}, Rel P Shd fr cs w → EndsS P St n fr cs w →
    ∀ τ, (∀ j q, w.drawn ≤ j → τ j q = w.tape j q) → EndsS P St n fr cs (w.tp τ)
  | 0, fr, cs, w, _, h, τ, _ => hF _ _ _ _ h
  | n + 1, fr, cs, w, hr, h, τ, hτ => by
    by_cases hn : St fr cs w
    · exact .inl (hF _ _ _ _ hn)
    · obtain ⟨m, fr', cs', w', em, hf, e, h', r', x1, x2, tp⟩ := endsS_step hS hZ hB hSt hr hn h
      cases em
      refine .inr ⟨hf, fr', cs', _, tp τ fun j q h1 _ => hτ j q h1, endsS_tape hS hZ hB hSt hF n r' h' τ fun j q h1 => ?_⟩
      rw [x1]; exact hτ j q (Nat.le_trans x2 h1)

theorem goodS_step (hS : ∀ b, ¬ Shd b) (hZ : ZeroOK P) (hB : BodiesOK P) {St : Frame → List Frame → World → Prop} (hSt : ∀ fr cs w ch, St fr cs w → fr.mode ≠ .panicking ch) (hF : ∀ fr cs w τ, St fr cs w → St fr cs (w.tp τ)) {fr : Frame} {cs : List Frame} {w : World} (hr : Rel P Shd fr cs w) (hn : ¬ St fr cs w) (h : ∀ τ, ∃ n, EndsS P St n fr cs (w.tp τ)) (τ : Nat → Question → Nat) :
    ∃ fr' cs' w', ¬ IsFin fr cs ∧ (stepG P true (G fr (cs ++ [c0 P])) (w.tp τ)).bare = .go (G fr' (cs' ++ [c0 P])) w' ∧ (∀ τ, ∃ n, EndsS P St n fr' cs' (w'.tp τ)) ∧ Rel P Shd fr' cs' w' ∧ w'.tape = τ ∧ w.drawn ≤ w'.drawn ∧
      ∀ τ2, (∀ j q, w.drawn ≤ j → j < w'.drawn → τ2 j q = τ j q) → (stepG P true (G fr (cs ++ [c0 P])) (w.tp τ2)).bare = .go (G fr' (cs' ++ [c0 P])) (w'.tp τ2) := by
  have hn' : ∀ τ, ¬ St fr cs (w.tp τ) := fun τ q => hn (by have := hF _ _ _ w.tape q; exact this)
  obtain ⟨n, hE⟩ := h τ
  obtain ⟨m, fr', cs', w', em, hf, e, h', r', x1, x2, tp⟩ := endsS_step hS hZ hB hSt (hr.tp τ) (hn' τ) hE
  refine ⟨fr', cs', w', hf, e, fun τ3 => ?_, r', x1, x2, fun τ2 h2 => tp τ2 h2⟩
  obtain ⟨n2, hE2⟩ := h (fun j q => if j < w'.drawn then τ j q else τ3 j q)
  obtain ⟨m2, fr2, cs2, w2, em2, _, e2, h2, r2, y1, y2, tp2⟩ := endsS_step hS hZ hB hSt (hr.tp _) (hn' _) hE2
  have e3 := tp (fun j q => if j < w'.drawn then τ j q else τ3 j q) (fun j q h1 h2 => by rw [if_pos h2]; rfl)
  have : (w.tp τ).tp (fun j q => if j < w'.drawn then τ j q else τ3 j q) = w.tp (fun j q => if j < w'.drawn then τ j q else τ3 j q) := rfl
  rw [this, e2] at e3
  obtain ⟨rfl, rfl, rfl⟩ := G_inj e3
  refine ⟨m2, ?_⟩
  have := endsS_tape hS hZ hB hSt hF m2 r2 h2 τ3 fun j q h1 => ?_
  · exact this
  · have h1' : w'.drawn ≤ j := h1
    show τ3 j q = if j < w'.drawn then τ j q else τ3 j q
    rw [if_neg (by omega)]

theorem runS_of_good (hS : ∀ b, ¬ Shd b) (hZ : ZeroOK P) (hB : BodiesOK P) {St : Frame → List Frame → World → Prop} (hSt : ∀ fr cs w ch, St fr cs w → fr.mode ≠ .panicking ch) (hF : ∀ fr cs w τ, St fr cs w → St fr cs (w.tp τ)) {fr : Frame} {cs : List Frame} {w : World} (hr : Rel P Shd fr cs w) (h : ∀ τ, ∃ n, EndsS P St n fr cs (w.tp τ)) : RunS P St fr cs w := by
  apply Classical.byContradiction
  intro hnot
  let S := { σ : Frame × List Frame × World // Rel P Shd σ.1 σ.2.1 σ.2.2 ∧ (∀ τ, ∃ n, EndsS P St n σ.1 σ.2.1 (σ.2.2.tp τ)) ∧ ¬ RunS P St σ.1 σ.2.1 σ.2.2 }
  have nofin : ∀ σ : S, ¬ St σ.1.1 σ.1.2.1 σ.1.2.2 := fun σ hf => σ.2.2.2 (.fin hf)
  have nx : ∀ σ : S, ∃ (τ : Nat → Question → Nat) (σ' : S), σ.1.2.2.drawn ≤ σ'.1.2.2.drawn ∧
      ∀ τ2, (∀ j q, σ.1.2.2.drawn ≤ j → j < σ'.1.2.2.drawn → τ2 j q = τ j q) → (stepG P true (G σ.1.1 (σ.1.2.1 ++ [c0 P])) (σ.1.2.2.tp τ2)).bare = .go (G σ'.1.1 (σ'.1.2.1 ++ [c0 P])) (σ'.1.2.2.tp τ2) := by
    intro σ
    have hn := nofin σ
    have : ∃ τ, ∀ fr' cs' w', (stepG P true (G σ.1.1 (σ.1.2.1 ++ [c0 P])) (σ.1.2.2.tp τ)).bare = .go (G fr' (cs' ++ [c0 P])) w' → ¬ RunS P St fr' cs' w' := by
      apply Classical.byContradiction
      intro hc
      have hfin : ¬ IsFin σ.1.1 σ.1.2.1 := by
        obtain ⟨_, _, _, hf, _⟩ := goodS_step hS hZ hB hSt hF σ.2.1 hn σ.2.2.1 σ.1.2.2.tape
        exact hf
      refine σ.2.2.2 (.step hn hfin (fun τ => ?_) fun τ fr' cs' w' e => ?_)
      · obtain ⟨fr', cs', w', _, e, _⟩ := goodS_step hS hZ hB hSt hF σ.2.1 hn σ.2.2.1 τ
        exact ⟨fr', cs', w', e⟩
      · apply Classical.byContradiction
        intro hc2
        refine hc ⟨τ, fun fr2 cs2 w2 e2 => ?_⟩
        rw [e] at e2
        obtain ⟨rfl, rfl, rfl⟩ := G_inj e2
        exact hc2
    obtain ⟨τ, hτ⟩ := this
    obtain ⟨fr', cs', w', _, e, hg, hr', _, hd, tp⟩ := goodS_step hS hZ hB hSt hF σ.2.1 hn σ.2.2.1 τ
    exact ⟨τ, ⟨(fr', cs', w'), hr', hg, hτ _ _ _ e⟩, hd, tp⟩
  let s0 : S := ⟨(fr, cs, w), hr, h, hnot⟩
  let seq : Nat → S := fun n => Nat.rec s0 (fun _ σ => (nx σ).choose_spec.choose) n
  let ts : Nat → (Nat → Question → Nat) := fun i => (nx (seq i)).choose
  have hseq : ∀ i, (seq i).1.2.2.drawn ≤ (seq (i + 1)).1.2.2.drawn ∧
      ∀ τ2, (∀ j q, (seq i).1.2.2.drawn ≤ j → j < (seq (i + 1)).1.2.2.drawn → τ2 j q = ts i j q) →
        (stepG P true (G (seq i).1.1 ((seq i).1.2.1 ++ [c0 P])) ((seq i).1.2.2.tp τ2)).bare = .go (G (seq (i + 1)).1.1 ((seq (i + 1)).1.2.1 ++ [c0 P])) ((seq (i + 1)).1.2.2.tp τ2) :=
    fun i => (nx (seq i)).choose_spec.choose_spec
  have mono : ∀ i k, (seq i).1.2.2.drawn ≤ (seq (i + k)).1.2.2.drawn := by
    intro i k
    induction k with
    | zero => exact Nat.le_refl _
    | succ k ih => exact Nat.le_trans ih (hseq (i + k)).1
  let D : Nat → Nat := fun i => (seq i).1.2.2.drawn
  let star : Nat → Question → Nat := fun j q => open Classical in if h : ∃ i, D i ≤ j ∧ j < D (i + 1) then ts h.choose j q else 0
  have hstar : ∀ i j q, D i ≤ j → j < D (i + 1) → star j q = ts i j q := by
    intro i j q h1 h2
    have hex : ∃ i, D i ≤ j ∧ j < D (i + 1) := ⟨i, h1, h2⟩
    have hc := hex.choose_spec
    have heq : hex.choose = i := by
      rcases Nat.lt_trichotomy hex.choose i with hlt | heq | hgt
      · have := mono (hex.choose + 1) (i - (hex.choose + 1))
        rw [show hex.choose + 1 + (i - (hex.choose + 1)) = i by omega] at this
        have h3 : D (hex.choose + 1) ≤ D i := this
        omega
      · exact heq
      · have := mono (i + 1) (hex.choose - (i + 1))
        rw [show i + 1 + (hex.choose - (i + 1)) = hex.choose by omega] at this
        have h3 : D (i + 1) ≤ D hex.choose := this
        omega
    have e1 : star j q = ts hex.choose j q := dif_pos hex
    rw [e1, heq]
  have stepS : ∀ i, (stepG P true (G (seq i).1.1 ((seq i).1.2.1 ++ [c0 P])) ((seq i).1.2.2.tp star)).bare = .go (G (seq (i + 1)).1.1 ((seq (i + 1)).1.2.1 ++ [c0 P])) ((seq (i + 1)).1.2.2.tp star) :=
    fun i => (hseq i).2 star fun j q h1 h2 => hstar i j q h1 h2
  have nofin' : ∀ i, ¬ St (seq i).1.1 (seq i).1.2.1 ((seq i).1.2.2.tp star) := fun i q => nofin (seq i) (by have := hF _ _ _ (seq i).1.2.2.tape q; exact this)
  have no : ∀ n i, ¬ EndsS P St n (seq i).1.1 (seq i).1.2.1 ((seq i).1.2.2.tp star) := by
    intro n
    induction n with
    | zero => intro i hE; exact nofin' _ hE
    | succ n ih =>
      intro i hE
      rcases hE with hE | ⟨_, fr', cs', w', e, hE⟩
      · exact nofin' _ hE
      · rw [stepS i] at e
        obtain ⟨rfl, rfl, rfl⟩ := G_inj e
        exact ih (i + 1) hE
  obtain ⟨n, hE⟩ := h star
  exact no n 0 hE

theorem endsS_of_run (hS : ∀ b, ¬ Shd b) (hZ : ZeroOK P) (hB : BodiesOK P) {St : Frame → List Frame → World → Prop} (hSt : ∀ fr cs w ch, St fr cs w → fr.mode ≠ .panicking ch) {fr' : Frame} {w' : World} (hF : St fr' [] w') : ∀ (n : Nat) {fr : Frame} {cs : List Frame} {w : World}, Rel P Shd fr cs w →
    runN P n (lone fr (cs ++ [c0 P]) w) = .next (lone fr' [c0 P] w') → EndsS P St n fr cs w
  | 0, fr, cs, w, hr, e => by
    simp only [runN, Stepped.next.injEq] at e
    obtain ⟨rfl, hc, rfl⟩ := lone_inj e
    have : cs = [] := List.eq_nil_of_length_eq_zero (by simpa using congrArg List.length hc)
    subst this
    exact hF
  | n + 1, fr, cs, w, hr, e => by
    have hn : ¬ IsFin fr cs := by
      intro hn
      obtain ⟨h1, rfl⟩ := hn
      obtain ⟨R, Fr, Cs, W, f1, _, _⟩ := hr
      exact fin_over f1 h1 n e
    rcases rel_step hS hZ hB hr hn with ⟨fr1, cs1, w1, e1, r1, _⟩ | hf
    · have hs := step_lone_go (P := P) (fr := fr) (cs := cs ++ [c0 P]) (w := w) (by exact e1)
      rw [runN, hs] at e
      exact .inr ⟨hn, fr1, cs1, w1, e1, endsS_of_run hS hZ hB hSt hF n r1 e⟩
    · exfalso
      obtain ⟨R, Fr, Cs, W, h1, h2, _⟩ := hr
      rcases hf with ⟨fr1, w1, hs, hp, hd, hfn⟩ | ⟨o, w1, hs⟩
      · have := step_lone_go (P := P) (fr := fr) (cs := cs ++ [c0 P]) (w := w) (by exact hs)
        rw [runN, this] at e
        obtain ⟨ch, hm⟩ := bad_run' n ⟨hp, hd, hfn, h2.bad⟩ e
        exact hSt _ _ _ _ hF hm
      · have := step_lone_ended (P := P) (fr := fr) (cs := cs ++ [c0 P]) (w := w) (by exact hs)
        rw [runN, this] at e
        cases e
end
end Go.Sim

/-
  A frame with more to do behind what it does: its steps are the same.
-/
namespace Go.Sim
open Go.Conc (G)
variable {P : Program} {Shd : Nat → Prop} {R : BR}

def _root_.Go.Frame.more (fr : Frame) (k : List Item) : Frame := { fr with todo := fr.todo ++ k }
theorem more_nil (fr : Frame) : fr.more [] = fr := by cases fr; simp [Frame.more]
theorem more_eval (fr : Frame) (k : List Item) : (fr.more k).eval = fr.eval := by funext x; cases x <;> rfl
/-- It waits at a call. -/
def Wt (fr : Frame) : Prop := ∃ ops i rest k, fr.todo = .inRegion ops (i :: rest) :: k
theorem more_finish {fr : Frame} (h : Wt fr) (k : List Item) (v : Value) : (fr.more k).finish v = (fr.finish v).more k := by
  obtain ⟨ops, i, rest, k', e⟩ := h
  simp [Frame.finish, Frame.more, e]
theorem exitTo_more : ∀ {id : Nat} {k k' : List Item} (l : List Item), exitTo id k = some k' → exitTo id (k ++ l) = some (k' ++ l)
  | _, [], _, _, h => by simp [exitTo] at h
  | id, x :: k, k', l, h => by
    cases x with
    | inBlock i =>
      simp only [exitTo, List.cons_append] at h ⊢
      split at h
      · cases h; rename_i q; rw [if_pos q]
      · rename_i q; rw [if_neg q]; exact exitTo_more l h
    | _ => simp only [exitTo, List.cons_append] at h ⊢; exact exitTo_more l h

theorem G_eq {fr fr' : Frame} {cs cs' : List Frame} {w w' : World} {es es' : Array Event} (h : GStep.go (G fr cs) w es = GStep.go (G fr' cs') w' es') : fr = fr' ∧ cs = cs' ∧ w = w' ∧ es = es' := by
  simp only [GStep.go.injEq, G, Goroutine.mk.injEq] at h
  exact ⟨h.1.1, h.1.2.1, h.2.1, h.2.2⟩

/-- An own step of a frame, with more behind. -/
theorem own_more (hS : ∀ b, ¬ Shd b) (hZ : ZeroOK P) {fr Fr fr' : Frame} {cs cs1 cs2 : List Frame} {w W w' : World} {es : Array Event} {main : Bool} (k : List Item) (h : FR P R fr Fr) (hw : WR P Shd R w W) (ht : ∀ j q, w.tape (w.drawn + j) q = W.tape (W.drawn + j) q)
    (hm : fr.mode = .run) (hne : fr.todo ≠ []) (e : stepG P main (G fr cs) w = .go (G fr' cs1) w' es) (hp : ∀ ch, fr'.mode ≠ .panicking ch) :
    (cs1 = cs ∧ stepG P main (G (fr.more k) cs2) w = .go (G (fr'.more k) cs2) w' es) ∨ (cs1 = fr :: cs ∧ Wt fr ∧ stepG P main (G (fr.more k) cs2) w = .go (G fr' (fr.more k :: cs2)) w' es) := by
  have same : ∀ (l l2 : List Item), stepG P main (G fr cs) w = .go (G { fr with todo := l } cs) w → stepG P main (G (fr.more k) cs2) w = .go (G { fr.more k with todo := l2 } cs2) w → l2 = l ++ k →
      (cs1 = cs ∧ stepG P main (G (fr.more k) cs2) w = .go (G (fr'.more k) cs2) w' es) ∨ (cs1 = fr :: cs ∧ Wt fr ∧ stepG P main (G (fr.more k) cs2) w = .go (G fr' (fr.more k :: cs2)) w' es) := by
    intro l l2 e1 e2 e3
    rw [e1] at e
    obtain ⟨rfl, rfl, rfl, rfl⟩ := G_eq e
    exact .inl ⟨rfl, by rw [e2, e3]; rfl⟩
  have hi := h.items
  have hM : (fr.more k).mode = .run := hm
  have hR : (fr.more k).roundOf = none := h.round
  have hK : (fr.more k).kind = .normal := h.kind
  cases hd : fr.todo with
  | nil => exact absurd hd hne
  | cons it l =>
    have hD : (fr.more k).todo = it :: (l ++ k) := by simp [Frame.more, hd]
    rw [hd] at hi
    have h0 := hi it (List.mem_cons_self ..)
    cases it with
    | inBlock i => exact same l (l ++ k) (by simp [stepG, stepG.exec, G, hm, hd]) (by simp [stepG, stepG.exec, G, hM, hD]) rfl
    | inScope c => exact same l (l ++ k) (by simp [stepG, stepG.exec, G, hm, hd]) (by simp [stepG, stepG.exec, G, hM, hD]) rfl
    | inLoop c => exact same (.code c :: .inLoop c :: l) (.code c :: .inLoop c :: (l ++ k)) (by simp [stepG, stepG.exec, G, hm, hd]) (by simp [stepG, stepG.exec, G, hM, hD]) rfl
    | code c =>
      cases c with
      | ret =>
        have e1 : stepG P main (G fr cs) w = .go (G { fr with mode := .returning } cs) w := by simp [stepG, stepG.exec, G, hm, hd, h.round]
        have e2 : stepG P main (G (fr.more k) cs2) w = .go (G { fr.more k with mode := .returning } cs2) w := by simp [stepG, stepG.exec, G, hM, hD, hR]
        rw [e1] at e
        obtain ⟨rfl, rfl, rfl, rfl⟩ := G_eq e
        exact .inl ⟨rfl, by rw [e2]; rfl⟩
      | skip => exact same l (l ++ k) (by simp [stepG, stepG.exec, G, hm, hd]) (by simp [stepG, stepG.exec, G, hM, hD]) rfl
      | label _ => exact same l (l ++ k) (by simp [stepG, stepG.exec, G, hm, hd]) (by simp [stepG, stepG.exec, G, hM, hD]) rfl
      | seq a b => exact same (.code a :: .code b :: l) (.code a :: .code b :: (l ++ k)) (by simp [stepG, stepG.exec, G, hm, hd]) (by simp [stepG, stepG.exec, G, hM, hD]) rfl
      | block i c => exact same (.code c :: .inBlock i :: l) (.code c :: .inBlock i :: (l ++ k)) (by simp [stepG, stepG.exec, G, hm, hd]) (by simp [stepG, stepG.exec, G, hM, hD]) rfl
      | scope c => exact same (.code c :: .inScope c :: l) (.code c :: .inScope c :: (l ++ k)) (by simp [stepG, stepG.exec, G, hm, hd]) (by simp [stepG, stepG.exec, G, hM, hD]) rfl
      | loop c => exact same (.code c :: .inLoop c :: l) (.code c :: .inLoop c :: (l ++ k)) (by simp [stepG, stepG.exec, G, hm, hd]) (by simp [stepG, stepG.exec, G, hM, hD]) rfl
      | exit i =>
        cases he : exitTo i l with
        | some l' => exact same l' (l' ++ k) (by simp [stepG, stepG.exec, G, hm, hd, he]) (by simp [stepG, stepG.exec, G, hM, hD, exitTo_more k he]) rfl
        | none =>
          have : ∃ o w2, stepG P main (G fr cs) w = .ended o w2 := ⟨_, w, by simp [stepG, stepG.exec, G, hm, hd, he, h.round]; rfl⟩
          obtain ⟨o, w2, q⟩ := this
          rw [q] at e; cases e
      | cond c a b =>
        have hv := h.eval c h0.1
        generalize hx : fr.eval c = v at hv
        have hX : (fr.more k).eval c = v := by rw [more_eval]; exact hx
        generalize Fr.eval c = V at hv
        have nope : (∀ t, v ≠ .bool t) → ∃ o w2, stepG P main (G fr cs) w = .ended o w2 := by
          intro hb
          cases v <;> first | exact absurd rfl (hb _) | exact ⟨_, w, by simp [stepG, stepG.exec, G, hm, hd, hx]; rfl⟩
        by_cases hb : ∃ t, v = .bool t
        · obtain ⟨t, rfl⟩ := hb
          exact same (.code (if t then a else b) :: l) (.code (if t then a else b) :: (l ++ k)) (by simp [stepG, stepG.exec, G, hm, hd, hx]) (by simp [stepG, stepG.exec, G, hM, hD, hX]) rfl
        · obtain ⟨o, w2, q⟩ := nope fun t q => hb ⟨t, q⟩
          rw [q] at e; cases e
      | region i ops draw =>
        cases draw with
        | false => exact same (.inRegion ops (List.range ops.size) :: l) (.inRegion ops (List.range ops.size) :: (l ++ k)) (by simp [stepG, stepG.exec, G, hm, hd]) (by simp [stepG, stepG.exec, G, hM, hD]) rfl
        | true =>
          have e1 : stepG P main (G fr cs) w = .go (G { fr with todo := .inRegion ops (Region.schedule (P.follows .mixedOrders) ops (w.tape w.drawn (.order fr.fn i))) :: l } cs) { w with drawn := w.drawn + 1 } := by simp [stepG, stepG.exec, G, hm, hd, choose, Sem.run, Question.forced, Question.cut]
          have e2 : stepG P main (G (fr.more k) cs2) w = .go (G { fr.more k with todo := .inRegion ops (Region.schedule (P.follows .mixedOrders) ops (w.tape w.drawn (.order fr.fn i))) :: (l ++ k) } cs2) { w with drawn := w.drawn + 1 } := by
            have hfn : (fr.more k).fn = fr.fn := rfl
            simp [stepG, stepG.exec, G, hM, hD, hfn, choose, Sem.run, Question.forced, Question.cut]
          rw [e1] at e
          obtain ⟨rfl, rfl, rfl, rfl⟩ := G_eq e
          exact .inl ⟨rfl, by rw [e2]; rfl⟩
      | _ => exact h0.elim
    | inRegion ops todo =>
      cases todo with
      | nil => exact same l (l ++ k) (by simp [stepG, stepG.exec, G, hm, hd]) (by simp [stepG, stepG.exec, G, hM, hD]) rfl
      | cons i rest =>
        have hWt : Wt fr := ⟨ops, i, rest, l, hd⟩
        cases hwt : ((ops[i]?).map (Region.wanted · (yielded ops fr.tmps))).getD false with
        | false =>
          have hwT : ((ops[i]?).map (Region.wanted · (yielded ops (fr.more k).tmps))).getD false = false := hwt
          have e1 : stepG P main (G fr cs) w = .go (G (fr.finish Go.undef) cs) w := by simp [stepG, stepG.exec, G, hm, hd, hwt]
          have e2 : stepG P main (G (fr.more k) cs2) w = .go (G ((fr.more k).finish Go.undef) cs2) w := by simp [stepG, stepG.exec, G, hM, hD, hwT]
          rw [e1] at e
          obtain ⟨rfl, rfl, rfl, rfl⟩ := G_eq e
          exact .inl ⟨rfl, by rw [e2, more_finish hWt]⟩
        | true =>
          have hwT : ((ops[i]?).map (Region.wanted · (yielded ops (fr.more k).tmps))).getD false = true := hwt
          cases ho : ops[i]? with
          | none => rw [ho] at hwt; cases hwt
          | some o =>
            have hop : OpOK P o.op := h0 o (Array.mem_of_getElem? ho)
            have er : fr.oper? = some o := by simp [Frame.oper?, hd, ho]
            have eR : (fr.more k).oper? = some o := by simp [Frame.oper?, hD, ho]
            have hev : (fr.more k).eval = fr.eval := more_eval fr k
            have hfn : (fr.more k).fn = fr.fn := rfl
            have hsm := sim_execOp (Shd := Shd) hS hZ (f := fr.eval) (g := Fr.eval) (fun x hx => h.eval x hx) (fun _ => rfl) (fun _ => rfl) o hop w W hw ht
            have dead : ∀ {o2 : Outcome} {w2 : World} {es2 : Array Event}, stepG P main (G fr cs) w = .ended o2 w2 es2 → (cs1 = cs ∧ stepG P main (G (fr.more k) cs2) w = .go (G (fr'.more k) cs2) w' es) ∨ (cs1 = fr :: cs ∧ Wt fr ∧ stepG P main (G (fr.more k) cs2) w = .go (G fr' (fr.more k :: cs2)) w' es) := by
              intro o2 w2 es2 q
              rw [q] at e
              cases e
            cases hr : (execOp fr.eval o).run P w with
            | halt x w1 =>
              have hx := hsm.1 _ _ hr
              cases x with
              | panic v =>
                have e1 : stepG P main (G fr cs) w = .go (G (fr.raise [{ v, recovered := false }]) cs) w1 (seen P fr.fn ((execOp fr.eval o).events P w #[])) := by simp [stepG, stepG.exec, G, hm, hd, hwt, stepG.oper, er, h.round, stepG.apply, hr, h.kind, GStep.after]
                rw [e1] at e
                obtain ⟨rfl, rfl, rfl, rfl⟩ := G_eq e
                obtain ⟨ch, hc⟩ := raise_mode fr [{ v, recovered := false }]
                exact absurd hc (hp ch)
              | stuck t => exact dead (w2 := w1) (es2 := seen P fr.fn ((execOp fr.eval o).events P w #[])) (by simp [stepG, stepG.exec, G, hm, hd, hwt, stepG.oper, er, h.round, stepG.apply, hr, h.kind, GStep.after]; rfl)
              | unsupported u =>
                cases u with
                | initOrder _ => exact hx.elim
                | _ => exact dead (w2 := w1) (es2 := seen P fr.fn ((execOp fr.eval o).events P w #[])) (by simp [stepG, stepG.exec, G, hm, hd, hwt, stepG.oper, er, h.round, stepG.apply, hr, h.kind, GStep.after]; rfl)
              | _ => exact hx.elim
            | ok a w1 =>
              obtain ⟨R', b, W', -, q, -⟩ := hsm.2 _ _ hr
              cases q with
              | value hv =>
                rename_i v V
                have e1 : stepG P main (G fr cs) w = .go (G (fr.finish v) cs) w1 (seen P fr.fn ((execOp fr.eval o).events P w #[])) := by simp [stepG, stepG.exec, G, hm, hd, hwt, stepG.oper, er, h.round, stepG.apply, hr, h.kind, GStep.after]
                have e2 : stepG P main (G (fr.more k) cs2) w = .go (G ((fr.more k).finish v) cs2) w1 (seen P fr.fn ((execOp fr.eval o).events P w #[])) := by simp [stepG, stepG.exec, G, hM, hD, hwT, stepG.oper, eR, hR, stepG.apply, hev, hfn, hr, hK, GStep.after]
                rw [e1] at e
                obtain ⟨rfl, rfl, rfl, rfl⟩ := G_eq e
                exact .inl ⟨rfl, by rw [e2, more_finish hWt]⟩
              | skip =>
                have e1 : stepG P main (G fr cs) w = .go (G (fr.finish Go.undef) cs) w1 (seen P fr.fn ((execOp fr.eval o).events P w #[])) := by simp [stepG, stepG.exec, G, hm, hd, hwt, stepG.oper, er, h.round, stepG.apply, hr, h.kind, GStep.after]
                have e2 : stepG P main (G (fr.more k) cs2) w = .go (G ((fr.more k).finish Go.undef) cs2) w1 (seen P fr.fn ((execOp fr.eval o).events P w #[])) := by simp [stepG, stepG.exec, G, hM, hD, hwT, stepG.oper, eR, hR, stepG.apply, hev, hfn, hr, hK, GStep.after]
                rw [e1] at e
                obtain ⟨rfl, rfl, rfl, rfl⟩ := G_eq e
                exact .inl ⟨rfl, by rw [e2, more_finish hWt]⟩
              | enter f hf hv =>
                rename_i x X
                have e1 : stepG P main (G fr cs) w = .go (G (Frame.enter P f x .normal) (fr :: cs)) w1 (seen P fr.fn ((execOp fr.eval o).events P w #[])) := by simp [stepG, stepG.exec, G, hm, hd, hwt, stepG.oper, er, h.round, stepG.apply, hr, h.kind, GStep.after]
                have e2 : stepG P main (G (fr.more k) cs2) w = .go (G (Frame.enter P f x .normal) (fr.more k :: cs2)) w1 (seen P fr.fn ((execOp fr.eval o).events P w #[])) := by simp [stepG, stepG.exec, G, hM, hD, hwT, stepG.oper, eR, hR, stepG.apply, hev, hfn, hr, hK, GStep.after]
                rw [e1] at e
                obtain ⟨rfl, rfl, rfl, rfl⟩ := G_eq e
                exact .inr ⟨rfl, hWt, e2⟩
    | _ => exact h0.elim

/-- The last of the frames has more to do. -/
def mF (k : List Item) (fr : Frame) : List Frame → Frame
  | [] => fr.more k
  | _ => fr
def mC (k : List Item) : List Frame → List Frame
  | [] => []
  | c :: cs => mF k c cs :: mC k cs

theorem step_more (hS : ∀ b, ¬ Shd b) (hZ : ZeroOK P) {fr Fr fr' : Frame} {cs Cs cs' K : List Frame} {w W w' : World} {es : Array Event} {main : Bool} (k : List Item) (h : FR P R fr Fr) (hcs : FRs P R cs Cs) (hw : WR P Shd R w W) (ht : ∀ j q, w.tape (w.drawn + j) q = W.tape (W.drawn + j) q)
    (hwt : ∀ c ∈ cs, Wt c) (hst : cs = [] → fr.mode = .run ∧ fr.todo ≠ []) (e : stepG P main (G fr (cs ++ K)) w = .go (G fr' (cs' ++ K)) w' es) (hp : ∀ ch, fr'.mode ≠ .panicking ch) :
    stepG P main (G (mF k fr cs) (mC k cs ++ K)) w = .go (G (mF k fr' cs') (mC k cs' ++ K)) w' es ∧ ∀ c ∈ cs', Wt c := by
  cases cs with
  | nil =>
    obtain ⟨h1, h2⟩ := hst rfl
    rcases own_more hS hZ (cs2 := K) k h hw ht h1 h2 e hp with ⟨e1, e2⟩ | ⟨e1, e2, e3⟩
    · have : cs' = [] := List.append_cancel_right e1
      subst this
      exact ⟨e2, hwt⟩
    · have : cs' = [fr] := List.append_cancel_right (bs := K) e1
      subst this
      exact ⟨e3, fun c hc => by simp at hc; subst hc; exact e2⟩
  | cons c cs =>
    rcases h.modes with hm | hm
    · by_cases hne : fr.todo = []
      · have e1 : ∀ X, stepG P main (G fr X) w = .go (G { fr with mode := .returning } X) w := fun X => by simp [stepG, stepG.exec, G, hm, hne, h.round]
        rw [e1] at e
        obtain ⟨rfl, hc, rfl, rfl⟩ := G_eq e
        have : c :: cs = cs' := List.append_cancel_right hc
        subst this
        exact ⟨e1 _, hwt⟩
      · rcases own_more hS hZ (cs2 := mC k (c :: cs) ++ K) [] h hw ht hm hne e hp with ⟨e1, e2⟩ | ⟨e1, e2, e3⟩
        · have : cs' = c :: cs := List.append_cancel_right e1
          subst this
          rw [more_nil, more_nil] at e2
          exact ⟨e2, hwt⟩
        · have : cs' = fr :: c :: cs := List.append_cancel_right (bs := K) e1
          subst this
          rw [more_nil] at e3
          exact ⟨e3, fun x hx => by
            rcases List.mem_cons.1 hx with rfl | hx
            · exact e2
            · exact hwt x hx⟩
    · obtain ⟨fn, hf⟩ := h.func
      have key : ∀ (c : Frame) (X : List Frame) (v : Value) (w1 : World), (results fn fr.tmps).run P w = .ok v w1 → stepG P main (G fr (c :: X)) w = .go (G (c.finish v) X) w1 (seen P fr.fn ((results fn fr.tmps).events P w #[])) := by
        intro c X v w1 hr
        simp [stepG, G, hm, unwind, h.defers, hf, hr, doReturn, h.kind, GStep.after]
      cases hr : (results fn fr.tmps).run P w with
      | halt x w1 =>
        have : ∃ o w2 es2, stepG P main (G fr (c :: cs ++ K)) w = .ended o w2 es2 := by
          cases x with
          | stuck t => exact ⟨_, w1, _, by simp [stepG, G, hm, unwind, h.defers, hf, hr, GStep.after]; exact ⟨rfl, rfl⟩⟩
          | _ => exact ⟨_, w1, _, by simp [stepG, G, hm, unwind, h.defers, hf, hr, GStep.after]; exact ⟨rfl, rfl⟩⟩
        obtain ⟨o, w2, es2, q⟩ := this
        rw [q] at e; cases e
      | ok v w1 =>
        have e1 := key c (cs ++ K) v w1 hr
        rw [show c :: cs ++ K = c :: (cs ++ K) from rfl, e1] at e
        obtain ⟨rfl, hc, rfl, rfl⟩ := G_eq e
        have : cs = cs' := List.append_cancel_right hc
        subst this
        have hc0 := hwt c (List.mem_cons_self ..)
        refine ⟨?_, fun x hx => hwt x (List.mem_cons_of_mem _ hx)⟩
        have e2 := key (mF k c cs) (mC k cs ++ K) v w1 hr
        show stepG P main (G fr (mF k c cs :: (mC k cs ++ K))) w = _
        rw [e2]
        cases cs with
        | nil => simp only [mF]; rw [more_finish hc0]
        | cons d cs => rfl
end Go.Sim

/-
  A piece of a frame's code, or all that is left of it, by the lone walk: in company.
-/
namespace Go.Proofs.Ytlndinigbppafaa
open Go.Sim Go.Conc Go.Fi

section
variable {Gl : Array Goroutine → World → Option (Nat × Nat) → Trace → Prop} {n : Nat}

/-- A PIECE BY ITS LONE RUN, with more to do behind it. -/
theorem Can.runS {St : Frame → List Frame → World → Prop} (hSt : ∀ fr cs w, St fr cs w → cs = [] ∧ fr.mode = .run) {k : List Item} {K : List Frame} {fr : Frame} {cs : List Frame} {w : World} (h : RunS Try.prog St fr cs w) :
    ∀ {R : BR} {Fr : Frame} {Cs : List Frame} {W : World}, FR Try.prog R fr Fr → FRs Try.prog R cs Cs → WR Try.prog NoShd R w W → (∀ c ∈ cs, Wt c) →
      (∀ {R' : BR} {fr' Fr' : Frame} {w' W' : World}, (∀ b B, R b B → R' b B) → FR Try.prog R' fr' Fr' → St fr' [] w' → WR Try.prog NoShd R' w' W' → Can Gl n (G (fr'.more k) K) w') → Can Gl n (G (mF k fr cs) (mC k cs ++ K)) w := by
  induction h with
  | @fin fr cs w hf =>
    intro R Fr Cs W h1 h2 h3 _ hk
    obtain ⟨rfl, hm⟩ := hSt _ _ _ hf
    exact hk (fun _ _ h => h) h1 hf h3
  | @step fr cs w hns hn hex hst ih =>
    intro R Fr Cs W h1 h2 h3 h4 hk
    refine Can.step rfl fun w₁ hE => ?_
    have hw1 : WR Try.prog NoShd R (w.tp (Sim.mt w₁ w)) (W.tp (Sim.mt (w.tp (Sim.mt w₁ w)) W)) := h3.tp _ _
    have htt : ∀ j q, (w.tp (Sim.mt w₁ w)).tape ((w.tp (Sim.mt w₁ w)).drawn + j) q = (W.tp (Sim.mt (w.tp (Sim.mt w₁ w)) W)).tape ((W.tp (Sim.mt (w.tp (Sim.mt w₁ w)) W)).drawn + j) q := fun j q => by show _ = Sim.mt (w.tp (Sim.mt w₁ w)) W (W.drawn + j) q; simp [Sim.mt, World.tp]
    have hnn : fr.mode = .returning → cs ≠ [] := fun hm hc => hn ⟨hm, hc⟩
    have bad : ¬ Bad (P := Try.prog) fr cs := runS_bad (fun fr cs w ch q hp => by rw [(hSt _ _ _ q).2] at hp; cases hp) (.step hns hn hex hst)
    rcases step_sim noShd zeroOK bodiesOK (c0 := c0 Try.prog) (K := []) h1 h2 hw1 htt hnn true true with hs | hf
    · obtain ⟨fr', cs', w', e, R', Fr', Cs', W', Es, _, f1, f2, f3, x, _, _⟩ := hs
      have hnp : ∀ ch, fr'.mode ≠ .panicking ch := fun ch hc => by rcases f1.modes with q | q <;> rw [q] at hc <;> cases hc
      have hco := step_co noShd zeroOK h1 h2 hw1 htt hnn e hnp
      obtain ⟨es, g1, g2⟩ := hco.go K true w₁.tape w₁.drawn fun j q _ => by
        show w₁.tape (w₁.drawn + j) q = Sim.mt w₁ w (w.drawn + j) q
        simp [Sim.mt]
      have hww : (w.tp (Sim.mt w₁ w)).td w₁.tape w₁.drawn = w₁ := by rw [hE.td]; rfl
      rw [hww] at g1
      have hwA : WR Try.prog NoShd R w₁ (W.tp (Sim.mt w₁ W)) := by
        refine ⟨fun b B hb => ?_, h3.inj, fun b hb => hb.elim, h3.low, ?_, h3.glob.2⟩
        · rw [hE.heap]; exact h3.dom b B hb
        · rw [hE.heap]; exact h3.glob.1
      have hstop : cs = [] → fr.mode = .run ∧ fr.todo ≠ [] := by
        intro hc
        have hm : fr.mode = .run := h1.modes.resolve_right fun q => hn ⟨q, hc⟩
        refine ⟨hm, fun ht => ?_⟩
        subst hc
        have e2 : ∀ τ, (stepG Try.prog true (G fr ([] ++ [c0 Try.prog])) (w.tp τ)).bare = .go (G { fr with mode := .returning } ([] ++ [c0 Try.prog])) (w.tp τ) := fun τ => by simp [stepG, stepG.exec, G, hm, ht, h1.round]
        have := hst w.tape _ _ _ (e2 w.tape)
        cases this with
        | fin q => have := (hSt _ _ _ q).2; cases this
        | step _ q _ _ => exact q ⟨rfl, rfl⟩
      obtain ⟨m1, m2⟩ := step_more noShd zeroOK k h1 h2 hwA (fun j q => by show _ = Sim.mt w₁ W (W.drawn + j) q; simp [Sim.mt]) h4 hstop g1 hnp
      refine ⟨_, _, es, m1, g2, ?_, ?_⟩
      · have := hco.size
        show w₁.heap.size ≤ w'.heap.size
        rw [hE.heap]
        exact this
      · exact (ih (Sim.mt w₁ w) fr' cs' w' e f1 f2 f3 m2 fun s1 q1 q2 q3 => hk (fun b B hb => s1 _ _ (x.sub _ _ hb)) q1 q2 q3).eqv (eqv_td _ _ _)
    · exfalso
      rcases hf with ⟨fr1, w1, hs, hp, hd, hfn⟩ | ⟨o, w1, hs⟩
      · exact runS_bad (fun fr cs w ch q hp => by rw [(hSt _ _ _ q).2] at hp; cases hp) (hst (Sim.mt w₁ w) fr1 cs w1 hs) ⟨hp, hd, hfn, h2.bad⟩
      · obtain ⟨fr', cs', w', e⟩ := hex (Sim.mt w₁ w)
        rw [hs] at e
        cases e

theorem fr_self {f : FuncId} {fn : Func} {c : Code} {a : Act} {D : Nat → Prop} (hf : Try.prog.funcs[f]? = some fn) (hc : CodeOK Try.prog c) (htm : ∀ v ∈ a.tmps, Vs D v) (hd : a.defers = []) : FR Try.prog (idOn D) ((base f).at a [.code c]) ((base f).at a [.code c]) := by
  have htm' : VRs Try.prog (idOn D) a.tmps a.tmps := by
    refine ⟨rfl, fun i v V e1 e2 => ?_⟩
    rw [e1] at e2; cases e2
    exact htm v (Array.mem_of_getElem? e1)
  have hit : ∀ it ∈ ((base f).at a [.code c]).todo, ItemOK Try.prog it := by
    intro it hit
    have : it = .code c := by simpa [Frame.at] using hit
    subst this
    exact hc
  exact { fn := rfl, tmps := htm', todo := rfl, items := hit, defers := hd, defers' := hd, mode := rfl, modes := .inl rfl, kind := rfl, kind' := rfl, round := rfl, round' := rfl, func := ⟨fn, hf⟩ }

/-- A PIECE OF CODE, BY THE LONE WALK. -/
theorem Can.piece {f : FuncId} {fn : Func} {c : Code} {a : Act} {w : World} {D : Nat → Prop} {k : List Item} {K : List Frame} {Q : Act → World → Prop} (hf : Try.prog.funcs[f]? = some fn) (hc : CodeOK Try.prog c) (htm : ∀ v ∈ a.tmps, Vs D v) (hd : a.defers = []) (hw : Sf D w)
    (hQ : ∀ a w τ, Q a w → Q a (w.tp τ)) (hwp : ∀ τ, c.wp Try.prog (fun e a' w' => e = .normal ∧ Q a' w') a (w.tp τ))
    (hK : ∀ {D' : Nat → Prop} {a' : Act} {w' : World}, (∀ b, D b → D' b) → (∀ v ∈ a'.tmps, Vs D' v) → a'.defers = [] → Sf D' w' → Q a' w' → Can Gl n (G ((base f).at a' k) K) w') : Can Gl n (G ((base f).at a (.code c :: k)) K) w := by
  have hF := fr_self hf hc htm hd
  have hRel : Rel Try.prog NoShd ((base f).at a [.code c]) [] w := ⟨_, _, [], w, hF, trivial, hw⟩
  have hrun : RunS Try.prog (fun fr cs w => cs = [] ∧ ∃ a', fr = (base f).at a' [] ∧ Q a' w) ((base f).at a [.code c]) [] w := by
    refine runS_of_good noShd zeroOK bodiesOK (fun fr cs w ch q hp => ?_) (fun fr cs w τ q => ?_) hRel fun τ => ?_
    · obtain ⟨_, a', rfl, _⟩ := q
      cases hp
    · obtain ⟨q1, a', q2, q3⟩ := q
      exact ⟨q1, a', q2, hQ _ _ _ q3⟩
    · obtain ⟨e, a', w', hq, harr⟩ := hwp τ (base f) [] [c0 Try.prog]
      obtain ⟨rfl, hq⟩ := hq
      obtain ⟨m, hm⟩ := harr
      refine ⟨m, endsS_of_run noShd zeroOK bodiesOK (fun fr cs w ch q hp => ?_) (fr' := (base f).at a' []) (w' := w') ⟨rfl, a', rfl, hq⟩ m (hRel.tp τ) hm⟩
      obtain ⟨_, a', rfl, _⟩ := q
      cases hp
  refine Can.runS (k := k) (K := K) (fun fr cs w q => ?_) hrun (Cs := []) hF trivial hw (fun c hc => by cases hc) ?_
  · obtain ⟨q1, a', rfl, _⟩ := q
    exact ⟨q1, rfl⟩
  · intro R' fr' Fr' w' W' s1 f1 q hw'
    obtain ⟨_, a', rfl, hq⟩ := q
    exact hK (D' := domR R') (fun b hb => ⟨b, s1 b b ⟨rfl, hb⟩⟩) (fun v hv => by
      obtain ⟨i, hi, rfl⟩ := Array.mem_iff_getElem.1 hv
      exact (vrs_self f1.tmps).2 i _ _ (Array.getElem?_eq_getElem hi) (Array.getElem?_eq_getElem hi)) f1.defers (wr_self hw') hq

/-- ALL THAT IS LEFT OF A FRAME, BY THE LONE WALK, and back to the caller. -/
theorem Can.restK {f : FuncId} {fn : Func} {c : Code} {a : Act} {w : World} {D : Nat → Prop} {Q : Value → World → Prop} {b₀ : Frame} {a₀ : Act} {ops : Array Oper} {i : Nat} {rest : List Nat} {k : List Item} {cs : List Frame} (hf : Try.prog.funcs[f]? = some fn) (hc : CodeOK Try.prog c) (htm : ∀ v ∈ a.tmps, Vs D v) (hd : a.defers = []) (hw : Sf D w) (hres : ∀ r ∈ fn.results, ∃ t, r = .tmp t)
    (hQ : ∀ v w τ, Q v w → Q v (w.tp τ))
    (hwp : ∀ τ, c.wp Try.prog (bodyPost Try.prog fn fun e w' => match e with | .returned v => Q v w' | _ => False) a (w.tp τ))
    (hK : ∀ {D' : Nat → Prop} {v : Value} {w' : World}, (∀ b, D b → D' b) → Vs D' v → Sf D' w' → Q v w' → Can Gl n (G (b₀.at (a₀.put ((ops[i]?).bind (·.dst)) v) (.inRegion ops rest :: k)) cs) w') :
    Can Gl n (G ((base f).at a [.code c]) (b₀.at a₀ (.inRegion ops (i :: rest) :: k) :: cs)) w := by
  have hF := fr_self hf hc htm hd
  have hRel : Rel Try.prog NoShd ((base f).at a [.code c]) [] w := ⟨_, _, [], w, hF, trivial, hw⟩
  have hrun : Run Try.prog (FinQ Try.prog Q) ((base f).at a [.code c]) [] w := by
    refine run_of_good noShd zeroOK bodiesOK (fun fr w τ h => ?_) hRel fun τ => ?_
    · obtain ⟨v, fn, h1, hr, h2, h3⟩ := h
      exact ⟨v, fn, h1, hr, h2, hQ v w _ h3⟩
    · obtain ⟨e, a', w', hq, harr⟩ := hwp τ (base f) [] [c0 Try.prog]
      have fin : ∀ {todo : List Item} {v : Value}, Steps Try.prog (lone ((base f).at a [.code c]) [c0 Try.prog] (w.tp τ)) (lone { (base f).at a' todo with mode := .returning } [c0 Try.prog] w') → (results fn a'.tmps).run Try.prog w' = .ok v w' → Q v w' →
          ∃ n, EndsG Try.prog (FinQ Try.prog Q) n ((base f).at a [.code c]) [] (w.tp τ) := by
        intro todo v hs hr hp
        obtain ⟨m, hm⟩ := hs
        obtain ⟨v', hv'⟩ := results_pure hres a'.tmps
        rw [hv'] at hr
        cases hr
        exact ⟨m, endsG_of_run noShd zeroOK bodiesOK (fr' := { (base f).at a' todo with mode := .returning }) (w' := w') rfl ⟨_, fn, hf, hres, hv', hp⟩ m (hRel.tp τ) hm⟩
      cases e with
      | normal =>
        obtain ⟨_, v, hr, hp⟩ := hq
        exact fin (Steps.trans harr (.one step_end)) hr hp
      | ret =>
        obtain ⟨_, v, hr, hp⟩ := hq
        obtain ⟨todo, hs⟩ := harr
        exact fin hs hr hp
      | panic ch => exact hq.2.elim
      | outgrown => exact hq.elim
      | exit _ => exact hq.elim
      | goto _ => exact hq.elim
  refine Can.run (cs := []) (K := b₀.at a₀ (.inRegion ops (i :: rest) :: k) :: cs) hrun (Cs := []) hF trivial hw ?_
  intro R' fr' Fr' w' W' s1 f1 hm hfin hw'
  obtain ⟨v, fn2, e1, hr2, e2, hq⟩ := hfin
  obtain ⟨v2, V, hv, e3, _⟩ := results_run hr2 f1.tmps
  rw [e2] at e3
  cases e3
  refine Can.pure (g' := G (b₀.at (a₀.put ((ops[i]?).bind (·.dst)) v) (.inRegion ops rest :: k)) cs) rfl (fun w => ?_) (hK (D' := domR R') (fun b hb => ⟨b, s1 b b ⟨rfl, hb⟩⟩) (vr_self hv) (wr_self hw') hq)
  rw [← Frame.finish_at]
  simp [stepG, G, hm, unwind, f1.defers, e1, e2, doReturn, f1.kind, seen, GStep.after]
end
end Go.Proofs.Ytlndinigbppafaa
