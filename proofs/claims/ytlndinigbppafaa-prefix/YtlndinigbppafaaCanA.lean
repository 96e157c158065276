/-
  Goroutine 0 on its way beside others that only leave: whatever the tape, the machine goes as it goes.
-/
import Derived.Test.YtlndinigbppafaaPsH
import Derived.Test.YtlndinigbppafaaFiF
namespace Go.Proofs.Ytlndinigbppafaa
open Go.Sim Go.Conc Go.Fi

/-- The same but for the tape and its place. -/
structure Eqv (w w₁ : World) : Prop where
  heap : w₁.heap = w.heap
  os : w₁.os = w.os
  output : w₁.output = w.output
theorem Eqv.refl (w : World) : Eqv w w := ⟨rfl, rfl, rfl⟩
theorem Eqv.trans {a b c : World} (h : Eqv a b) (k : Eqv b c) : Eqv a c := ⟨k.heap.trans h.heap, k.os.trans h.os, k.output.trans h.output⟩
theorem Eqv.symm {a b : World} (h : Eqv a b) : Eqv b a := ⟨h.heap.symm, h.os.symm, h.output.symm⟩
theorem Eqv.td {w w₁ : World} (h : Eqv w w₁) : w₁ = w.td w₁.tape w₁.drawn := by
  obtain ⟨h1, h2, h3⟩ := h
  cases w₁
  simp only at h1 h2 h3
  subst h1; subst h2; subst h3
  rfl
theorem eqv_td (w : World) (τ : Nat → Question → Nat) (d : Nat) : Eqv w (w.td τ d) := ⟨rfl, rfl, rfl⟩

/-- All but goroutine 0 only leave; goroutine 0 knows all; what is touched is there. -/
structure Cm (qs : List Nat) (gs : Array Goroutine) (w : World) (t : Trace) : Prop where
  size : gs.size = qs.length + 1
  old : ∀ (k q : Nat), qs[k]? = some q → ∃ g, gs[k + 1]? = some g ∧ QuitsIn Try.prog q g
  tr : TrI t fun _ => none
  low : ∀ i a b, touchAt t i = some a → blockOf a.loc = some b → b < w.heap.size

theorem quits_rf {q : Nat} {g : Goroutine} (h : QuitsIn Try.prog q g) : g.status = .running ∨ g.status = .finished := by
  cases q with
  | zero => exact .inr h
  | succ q => exact h.elim .inr fun y => .inl y.1

theorem tri_none_own {t u : Trace} (h : TrI t fun _ => none) (hu : ∀ op ∈ u, op.g = 0) (hw : Wordless u) : TrI (t ++ u) fun _ => none := by
  refine ⟨h.wl.append hw, fun said => noRace_append (h.clean said) hu fun i a ha op hop b hopb hc => h.known i a ha hc.2.1, fun i a ha hm => .inl ?_, (fun γ x i a b hk => (by cases hk)), (fun γ x i a b hk => (by cases hk)), (fun γ x i a hk => (by cases hk)), rfl, (fun γ γ' x x' b hk => (by cases hk)), (fun γ x b hk => (by cases hk))⟩
  rcases touchAt_cases ha with ⟨hi, ha'⟩ | ⟨_, op, ho, hi, _⟩
  · exact (h.known i a ha' hm).app u
  · have := knows_own hi
    rw [hu _ ho] at this
    exact this

theorem evF_block {n : Nat} {e : Event} {a : Touch} (h : EvF n e) (ht : (MemAct.ofEvent e).touch? = some a) {b : Nat} (hb : blockOf a.loc = some b) : b < n := by
  obtain ⟨loc, wr, sy⟩ := e
  rcases h with h | ⟨b', h1, h2⟩
  · simp only at h
    subst h
    simp [MemAct.ofEvent, MemAct.touch?] at ht
  · simp only at h1
    cases loc with
    | cell A =>
      simp [MemAct.ofEvent, MemAct.touch?] at ht
      subst ht
      simp only [blk, Option.some.injEq] at h1
      simp only [blockOf, Option.some.injEq] at hb
      omega
    | obj r =>
      simp only [blk, Option.some.injEq] at h1
      have : a.loc = .obj r := by
        cases wr <;> cases sy <;> simp [MemAct.ofEvent, MemAct.touch?] at ht <;> first | (rw [← ht]) | skip
      rw [this] at hb
      simp only [blockOf, Option.some.injEq] at hb
      omega
    | output => cases h1
    | goroutines => cases h1
    | mark m => cases h1
theorem evF_mark {n : Nat} {e : Event} {m : Mark} (h : EvF n e) (ht : MemAct.ofEvent e = .mark m) : Neutral m := by
  obtain ⟨loc, wr, sy⟩ := e
  rcases h with h | ⟨b', h1, h2⟩
  · simp only at h
    subst h
    simp [MemAct.ofEvent] at ht
    exact ht.symm
  · simp only at h1
    cases loc with
    | cell A => simp [MemAct.ofEvent] at ht
    | obj r => cases wr <;> cases sy <;> simp [MemAct.ofEvent] at ht
    | output => cases h1
    | goroutines => cases h1
    | mark m => cases h1

/-- The machine comes to such a state. -/
def Ev (Gl : Array Goroutine → World → Option (Nat × Nat) → Trace → Prop) (gs : Array Goroutine) (w : World) (sl : Option (Nat × Nat)) (t : Trace) : Prop :=
  ∃ n gs' w' sl' t', runNT Try.prog n (crowd gs w sl) t = (.next (crowd gs' w' sl'), t') ∧ Gl gs' w' sl' t'
theorem Ev.step {Gl : Array Goroutine → World → Option (Nat × Nat) → Trace → Prop} {gs gs' : Array Goroutine} {w w' : World} {sl sl' sl2 : Option (Nat × Nat)} {t u : Trace} {d i : Nat} (h1 : stepT Try.prog (crowd gs w sl) = runT Try.prog (crowd gs (w.at d) sl') i)
    (h2 : runT Try.prog (crowd gs (w.at d) sl') i = (.next (crowd gs' w' sl2), u)) (h : Ev Gl gs' w' sl2 (t ++ u)) : Ev Gl gs w sl t := by
  obtain ⟨n, r⟩ := h
  refine ⟨n + 1, ?_⟩
  simp only [runNT, h1, h2]
  exact r

section
variable {Gl : Array Goroutine → World → Option (Nat × Nat) → Trace → Prop} {n : Nat}

variable (n Gl) in
/-- Goroutine 0 can go on from here, beside n others that leave. -/
def Can (g : Goroutine) (w : World) : Prop := g.status = .running ∧ ∀ qs gs w₁ sl t a, qs.length = n → Cm qs gs w₁ t → Eqv w w₁ → gs[0]? = some a → Like a g → Ev Gl gs w₁ sl t

theorem Can.eqv {g : Goroutine} {w w₁ : World} (h : Can Gl n g w) (he : Eqv w w₁) : Can Gl n g w₁ := ⟨h.1, fun qs gs w₂ sl t a hq hC h2 => h.2 qs gs w₂ sl t a hq hC (he.trans h2)⟩

/-- AN OWN STEP. -/
theorem Can.step {g : Goroutine} {w : World} (hg : g.status = .running)
    (h : ∀ w₁, Eqv w w₁ → ∃ g' w' es, stepG Try.prog true g w₁ = .go g' w' es ∧ (∀ e ∈ es, EvF w'.heap.size e) ∧ w₁.heap.size ≤ w'.heap.size ∧ Can Gl n g' w') : Can Gl n g w := by
  refine ⟨hg, fun qs => ?_⟩
  have hacc : Acc (LL Nat.lt) qs := acc_list fun a _ => Nat.lt_wfRel.wf.apply a
  induction hacc with
  | intro qs _ ih =>
    intro gs w₁ sl t a hqn hC hE ha hl
    have rf : ∀ {k : Nat} {b : Goroutine}, gs[k + 1]? = some b → ∃ q, qs[k]? = some q ∧ QuitsIn Try.prog q b := by
      intro k b hb
      have hk : k < qs.length := by
        have := (Array.getElem?_eq_some_iff.1 hb).1
        rw [hC.size] at this; omega
      obtain ⟨g2, e1, e2⟩ := hC.old k _ (List.getElem?_eq_getElem hk)
      rw [hb] at e1; cases e1
      exact ⟨_, List.getElem?_eq_getElem hk, e2⟩
    have haw : ∀ b ∈ gs, Go.Conc.awake b := by
      intro b hb
      obtain ⟨i, hi, rfl⟩ := Array.mem_iff_getElem.1 hb
      cases i with
      | zero =>
        have : gs[0] = a := by simpa [Array.getElem?_eq_getElem hi] using ha
        rw [this]; exact awake_of (.inl hl.run)
      | succ j =>
        obtain ⟨q, _, hq⟩ := rf (Array.getElem?_eq_getElem hi)
        exact awake_of ((quits_rf hq).elim .inl fun y => .inr (.inr y))
    obtain ⟨i, b, d, sl', hb, hbr, hst⟩ := crowd_pick (P := Try.prog) (w := w₁) (sl := sl) haw ⟨0, a, ha, hl.run⟩
    have hi0 : 0 < gs.size := (Array.getElem?_eq_some_iff.1 ha).1
    cases i with
    | zero =>
      rw [ha] at hb; cases hb
      obtain ⟨g', w', es, e1, e2, e3, e4⟩ := h (w₁.at d) ⟨hE.heap, hE.os, hE.output⟩
      refine Ev.step hst (runT_crowd_go ha (by rw [show ((0 : Nat) == 0) = true from rfl, hl.step]; exact e1)) ?_
      refine e4.2 qs _ w' sl' _ g' hqn ⟨by simp [hC.size], fun k q hk => ?_, ?_, fun j c bl hc hbl => ?_⟩ (Eqv.refl _) (by rw [Array.getElem?_setIfInBounds_self_of_lt (by simpa using hi0)]) (Like.refl e4.1)
      · obtain ⟨g2, q1, q2⟩ := hC.old k q hk
        refine ⟨g2, ?_, q2⟩
        rw [Array.getElem?_setIfInBounds_ne (by omega), Array.getElem?_map, q1]
        simp [woken_rf' (quits_rf q2)]
      · refine tri_none_own hC.tr g_ofEvents fun op ho m hm => ?_
        obtain ⟨e, he, rfl⟩ := Go.Conc.mem_ofEvents ho
        exact evF_mark (e2 e he) hm
      · rcases touchAt_cases hc with ⟨_, hc'⟩ | ⟨_, op, ho, _, hta⟩
        · exact Nat.lt_of_lt_of_le (hC.low j c bl hc' hbl) e3
        · obtain ⟨e, he, rfl⟩ := Go.Conc.mem_ofEvents ho
          exact evF_block (e2 e he) hta hbl
    | succ k =>
      obtain ⟨q, hq, hQ⟩ := rf hb
      cases q with
      | zero =>
        have : b.status = .finished := hQ
        rw [hbr] at this; cases this
      | succ q =>
        rcases hQ with hQ | ⟨_, g', hs, hQ'⟩
        · rw [hbr] at hQ; cases hQ
        have hk : k < qs.length := (List.getElem?_eq_some_iff.1 hq).1
        have hki : k + 1 < gs.size := (Array.getElem?_eq_some_iff.1 hb).1
        refine Ev.step hst (runT_crowd_go hb (by simpa using hs (w₁.at d))) ?_
        have hu : MemOp.ofEvents (k + 1) b.frame.fn b.frame.place #[] = #[] := rfl
        rw [hu, Array.append_empty]
        refine ih (qs.set k q) (LL.set hq (Nat.lt_succ_self q)) _ (w₁.at d) sl' t a (by rw [List.length_set]; exact hqn) ⟨by simp [hC.size], fun l q2 hl2 => ?_, hC.tr, hC.low⟩ ⟨hE.heap, hE.os, hE.output⟩ ?_ hl
        · rw [List.getElem?_set] at hl2
          split at hl2
          · rename_i e
            subst e
            first
              | (cases hl2; exact ⟨g', by rw [Array.getElem?_setIfInBounds_self_of_lt (by simpa using hki)], hQ'⟩)
              | (rw [if_pos hk] at hl2; cases hl2; exact ⟨g', by rw [Array.getElem?_setIfInBounds_self_of_lt (by simpa using hki)], hQ'⟩)
          · rename_i e
            obtain ⟨g2, q1, q3⟩ := hC.old l q2 hl2
            refine ⟨g2, ?_, q3⟩
            rw [Array.getElem?_setIfInBounds_ne (by omega), Array.getElem?_map, q1]
            simp [woken_rf' (quits_rf q3)]
        · rw [Array.getElem?_setIfInBounds_ne (by omega), Array.getElem?_map, ha]
          simp [woken_rf' (.inl hl.run)]
end
end Go.Proofs.Ytlndinigbppafaa
