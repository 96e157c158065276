/-
  A contract of the lone walk, as a run that goes on whatever the tape answers.
-/
import Derived.Test.YtlndinigbppafaaSimM
namespace Go.Sim
open Go.Conc (G)
variable {P : Program} {Shd : Nat → Prop} {R : BR}

theorem noDoor : (Extern.next "fmt's door").isNone = true := by kernel_rfl

/-- Behind its return the lone run never stands as it stood. -/
theorem fin_over {Fr fr fr' : Frame} {w w' : World} (h : FR P R fr Fr) (hm : fr.mode = .returning) : ∀ n, runN P (n + 1) (lone fr [c0 P] w) ≠ .next (lone fr' [c0 P] w') := by
  intro n e
  obtain ⟨fn, hf⟩ := h.func
  cases hr : (results fn fr.tmps).run P w with
  | halt x w1 =>
    have hs : ∃ o w2, step P (lone fr [c0 P] w) = .ended o w2 := by
      cases x with
      | stuck t => exact ⟨_, w1, step_lone_ended (by simp [stepG, hm, unwind, h.defers, hf, hr]; rfl)⟩
      | _ => exact ⟨_, w1, step_lone_ended (by simp [stepG, hm, unwind, h.defers, hf, hr]; rfl)⟩
    obtain ⟨o, w2, hs⟩ := hs
    rw [runN, hs] at e
    cases e
  | ok v w1 =>
  have hs : step P (lone fr [c0 P] w) = .next (lone ((c0 P).finish v) [] w1) := step_lone_go (by simp [stepG, hm, unwind, h.defers, hf, hr, doReturn, h.kind])
  rw [runN, hs] at e
  cases n with
  | zero =>
    simp only [runN, Stepped.next.injEq] at e
    obtain ⟨_, x, _⟩ := lone_inj e
    cases x
  | succ n =>
    have hd : Extern.next "fmt's door" = none := by
      have := noDoor
      cases hx : Extern.next "fmt's door" with
      | none => rfl
      | some y => rw [hx] at this; cases this
    have hs2 : ∃ o w2, step P (lone ((c0 P).finish v) [] w1) = .ended o w2 := by
      exact ⟨_, w1, step_lone_ended (by simp [c0, Frame.finish, stepG, stepG.exec, hd]; rfl)⟩
    obtain ⟨o, w2, hs2⟩ := hs2
    simp only [runN, hs2] at e
    cases e

section

theorem endsG_of_run (hS : ∀ b, ¬ Shd b) (hZ : ZeroOK P) (hB : BodiesOK P) {Fin : Frame → World → Prop} {fr' : Frame} {w' : World} (hm : fr'.mode = .returning) (hF : Fin fr' w') : ∀ (n : Nat) {fr : Frame} {cs : List Frame} {w : World}, Rel P Shd fr cs w →
    runN P n (lone fr (cs ++ [c0 P]) w) = .next (lone fr' [c0 P] w') → EndsG P Fin n fr cs w
  | 0, fr, cs, w, hr, e => by
    simp only [runN, Stepped.next.injEq] at e
    obtain ⟨rfl, hc, rfl⟩ := lone_inj e
    have : cs = [] := List.eq_nil_of_length_eq_zero (by simpa using congrArg List.length hc)
    exact ⟨⟨hm, this⟩, hF⟩
  | n + 1, fr, cs, w, hr, e => by
    by_cases hn : IsFin fr cs
    · exfalso
      obtain ⟨h1, rfl⟩ := hn
      obtain ⟨R, Fr, Cs, W, f1, _, _⟩ := hr
      exact fin_over f1 h1 n e
    · rcases rel_step hS hZ hB hr hn with ⟨fr1, cs1, w1, e1, r1, _⟩ | hf
      · have hs := step_lone_go (P := P) (fr := fr) (cs := cs ++ [c0 P]) (w := w) (by exact e1)
        rw [runN, hs] at e
        exact .inr ⟨hn, fr1, cs1, w1, e1, endsG_of_run hS hZ hB hm hF n r1 e⟩
      · exact absurd hf (not_fails hr hn ⟨fr', w', e, hm, hF⟩)
end

/-- What holds when the call returns. -/
def FinQ (P : Program) (Q : Value → World → Prop) (fr : Frame) (w : World) : Prop := ∃ v fn, P.funcs[fr.fn]? = some fn ∧ (∀ r ∈ fn.results, ∃ t, r = .tmp t) ∧ results fn fr.tmps = pure v ∧ Q v w

theorem run_of_calls (hS : ∀ b, ¬ Shd b) (hZ : ZeroOK P) (hB : BodiesOK P) {f : FuncId} {args : Array Value} {w : World} {Q : Value → World → Prop} (hr : Rel P Shd (Frame.enter P f args .normal) [] w) (hQ : ∀ v w τ, Q v w → Q v (w.tp τ))
    {fn : Func} (hf : P.funcs[f]? = some fn) (hres : ∀ r ∈ fn.results, ∃ t, r = .tmp t)
    (hc : ∀ τ, Calls P f args (w.tp τ) fun e w' => match e with | .returned v => Q v w' | _ => False) : Run P (FinQ P Q) (Frame.enter P f args .normal) [] w := by
  refine run_of_good hS hZ hB (fun fr w τ h => ?_) hr fun τ => ?_
  · obtain ⟨v, fn, h1, h0, h2, h3⟩ := h
    exact ⟨v, fn, h1, h0, h2, hQ _ _ _ h3⟩
  · obtain ⟨e, w', fr, hp, hs, h1, h2⟩ := hc τ [c0 P]
    cases e with
    | returned v =>
      obtain ⟨n, hn⟩ := hs
      obtain ⟨hm, _, _, fn', hf', hr'⟩ := h2
      have : fn' = fn := by rw [h1, hf] at hf'; cases hf'; rfl
      subst this
      have hp' : Q v w' := hp
      have : ∃ v', results fn' fr.tmps = pure v' := by
        have K : ∀ (l : List ResultVar), (∀ r ∈ l, ∃ t, r = .tmp t) → ∃ vs : List Value, l.mapM (rdv fr.tmps) = pure vs := by
          intro l
          induction l with
          | nil => exact fun _ => ⟨[], rfl⟩
          | cons r l ih =>
            intro hl
            obtain ⟨x, rfl⟩ := hl r (List.mem_cons_self ..)
            obtain ⟨vs, h2⟩ := ih fun r hr => hl r (List.mem_cons_of_mem _ hr)
            exact ⟨fr.tmps.getD x Go.undef :: vs, by rw [List.mapM_cons, h2]; rfl⟩
        obtain ⟨vs, h2⟩ := K fn'.results.toList (fun r hr' => hres r (by simpa using hr'))
        exact ⟨_, by rw [results_eq, Array.mapM_eq_mapM_toList, h2]; rfl⟩
      obtain ⟨v', hv'⟩ := this
      rw [hv'] at hr'
      cases hr'
      exact ⟨n, endsG_of_run hS hZ hB hm ⟨_, fn', by rw [h1]; exact hf, hres, hv', hp'⟩ n (hr.tp τ) hn⟩
    | panicked ch => exact hp.elim
    | outgrown => exact hp.elim
end Go.Sim
