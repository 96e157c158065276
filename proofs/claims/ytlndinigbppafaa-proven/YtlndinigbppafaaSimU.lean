/-
  A lone run up to a stop, told step by step, for any kind of states whose steps are known.
-/
import Derived.Test.YtlndinigbppafaaSimS
namespace Go.Sim
open Go.Conc (G)
variable {P : Program}

/-- A kind of lone states, each of which that may go on makes a step to one of them, or fails. -/
structure RelA (P : Program) (Nx : Frame → List Frame → Prop) (Rl : Frame → List Frame → World → Prop) : Prop where
  tp : ∀ {fr : Frame} {cs : List Frame} {w : World}, Rl fr cs w → ∀ τ, Rl fr cs (w.tp τ)
  bad : ∀ {fr : Frame} {cs : List Frame} {w : World}, Rl fr cs w → ∀ c ∈ cs, c.defers = [] ∧ ∃ f, P.funcs[c.fn]? = some f
  step : ∀ {fr : Frame} {cs : List Frame} {w : World}, Rl fr cs w → Nx fr cs →
    (∃ fr' cs' w', (stepG P true (G fr (cs ++ [c0 P])) w).bare = .go (G fr' (cs' ++ [c0 P])) w' ∧ Rl fr' cs' w' ∧ w'.tape = w.tape ∧ w.drawn ≤ w'.drawn ∧
      ∀ τ, (∀ j q, w.drawn ≤ j → j < w'.drawn → τ j q = w.tape j q) → (stepG P true (G fr (cs ++ [c0 P])) (w.tp τ)).bare = .go (G fr' (cs' ++ [c0 P])) (w'.tp τ)) ∨
    Fails P (c0 P) cs (stepG P true (G fr (cs ++ [c0 P])) w)

/-- Behind its return the lone run never stands as it stood. -/
theorem fin_over' {fr fr' : Frame} {w w' : World} {fn : Func} (hd : fr.defers = []) (hk : fr.kind = .normal) (hf : P.funcs[fr.fn]? = some fn) (hm : fr.mode = .returning) : ∀ n, runN P (n + 1) (lone fr [c0 P] w) ≠ .next (lone fr' [c0 P] w') := by
  intro n e
  cases hr : (results fn fr.tmps).run P w with
  | halt x w1 =>
    have hs : ∃ o w2, step P (lone fr [c0 P] w) = .ended o w2 := by
      cases x with
      | stuck t => exact ⟨_, w1, step_lone_ended (by simp [stepG, hm, unwind, hd, hf, hr]; rfl)⟩
      | _ => exact ⟨_, w1, step_lone_ended (by simp [stepG, hm, unwind, hd, hf, hr]; rfl)⟩
    obtain ⟨o, w2, hs⟩ := hs
    rw [runN, hs] at e
    cases e
  | ok v w1 =>
  have hs : step P (lone fr [c0 P] w) = .next (lone ((c0 P).finish v) [] w1) := step_lone_go (by simp [stepG, hm, unwind, hd, hf, hr, doReturn, hk])
  rw [runN, hs] at e
  cases n with
  | zero =>
    simp only [runN, Stepped.next.injEq] at e
    obtain ⟨_, x, _⟩ := lone_inj e
    cases x
  | succ n =>
    have hdoor : Extern.next "fmt's door" = none := by
      have := noDoor
      cases hx : Extern.next "fmt's door" with
      | none => rfl
      | some y => rw [hx] at this; cases this
    have hs2 : ∃ o w2, step P (lone ((c0 P).finish v) [] w1) = .ended o w2 := by
      exact ⟨_, w1, step_lone_ended (by simp [c0, Frame.finish, stepG, stepG.exec, hdoor]; rfl)⟩
    obtain ⟨o, w2, hs2⟩ := hs2
    simp only [runN, hs2] at e
    cases e

/-- The run comes to a stop, told step by step. -/
def EndsX (P : Program) (Nx : Frame → List Frame → Prop) (St : Frame → List Frame → World → Prop) : Nat → Frame → List Frame → World → Prop
  | 0, fr, cs, w => St fr cs w
  | n + 1, fr, cs, w => St fr cs w ∨ (Nx fr cs ∧ ∃ fr' cs' w', (stepG P true (G fr (cs ++ [c0 P])) w).bare = .go (G fr' (cs' ++ [c0 P])) w' ∧ EndsX P Nx St n fr' cs' w')

theorem endsX_bad {Nx : Frame → List Frame → Prop} {St : Frame → List Frame → World → Prop} (hSt : ∀ fr cs w ch, St fr cs w → fr.mode ≠ .panicking ch) : ∀ (n : Nat) {fr : Frame} {cs : List Frame} {w : World}, Bad (P := P) fr cs → ¬ EndsX P Nx St n fr cs w
  | 0, fr, cs, w, hb, h => by
    obtain ⟨ch, hm⟩ := hb.mode
    exact hSt _ _ _ _ h hm
  | n + 1, fr, cs, w, hb, h => by
    obtain ⟨ch, hm⟩ := hb.mode
    obtain ⟨f, hf⟩ := hb.func
    have hc : fr.catches P = false := by unfold Frame.catches; simp [hf]
    rcases h with h | ⟨_, fr', cs', w', e, h⟩
    · exact hSt _ _ _ _ h hm
    cases cs with
    | cons c cs =>
      have hs : (stepG P true (G fr (c :: cs ++ [c0 P])) w).bare = .go (G (c.raise ch) (cs ++ [c0 P])) w := by simp [stepG, G, hm, unwind, hb.defers, hc]
      rw [hs] at e
      obtain ⟨rfl, rfl, rfl⟩ := G_inj e
      have hcc := hb.callers c (List.mem_cons_self ..)
      exact endsX_bad hSt n ⟨raise_mode _ _, by rw [raise_defers]; exact hcc.1, by rw [raise_fn]; exact hcc.2, fun x hx => hb.callers x (List.mem_cons_of_mem _ hx)⟩ h
    | nil =>
      have hs : (stepG P true (G fr ([] ++ [c0 P])) w).bare = .go (G ((c0 P).raise ch) []) w := by simp [stepG, G, hm, unwind, hb.defers, hc]
      rw [hs] at e
      simp only [GStep.go.injEq, G, Goroutine.mk.injEq] at e
      have := e.1.2.1
      simp at this

/-- Whatever the tape answers, step by step: the run comes to the stop. -/
inductive RunX (P : Program) (Nx : Frame → List Frame → Prop) (St : Frame → List Frame → World → Prop) : Frame → List Frame → World → Prop
  | fin {fr : Frame} {cs : List Frame} {w : World} : St fr cs w → RunX P Nx St fr cs w
  | step {fr : Frame} {cs : List Frame} {w : World} : ¬ St fr cs w → Nx fr cs →
      (∀ τ, ∃ fr' cs' w', (stepG P true (G fr (cs ++ [c0 P])) (w.tp τ)).bare = .go (G fr' (cs' ++ [c0 P])) w') →
      (∀ τ fr' cs' w', (stepG P true (G fr (cs ++ [c0 P])) (w.tp τ)).bare = .go (G fr' (cs' ++ [c0 P])) w' → RunX P Nx St fr' cs' w') → RunX P Nx St fr cs w

theorem runX_bad {Nx : Frame → List Frame → Prop} {St : Frame → List Frame → World → Prop} (hSt : ∀ fr cs w ch, St fr cs w → fr.mode ≠ .panicking ch) {fr : Frame} {cs : List Frame} {w : World} (h : RunX P Nx St fr cs w) : ¬ Bad (P := P) fr cs := by
  induction h with
  | fin hf =>
    intro hb
    obtain ⟨ch, hm⟩ := hb.mode
    exact hSt _ _ _ _ hf hm
  | @step fr cs w _ hn hex hst ih =>
    intro hb
    obtain ⟨ch, hm⟩ := hb.mode
    obtain ⟨f, hf⟩ := hb.func
    have hc : fr.catches P = false := by unfold Frame.catches; simp [hf]
    cases cs with
    | cons c cs =>
      have hs : (stepG P true (G fr (c :: cs ++ [c0 P])) (w.tp w.tape)).bare = .go (G (c.raise ch) (cs ++ [c0 P])) (w.tp w.tape) := by simp [stepG, G, hm, unwind, hb.defers, hc]
      have hcc := hb.callers c (List.mem_cons_self ..)
      exact ih w.tape _ _ _ hs ⟨raise_mode _ _, by rw [raise_defers]; exact hcc.1, by rw [raise_fn]; exact hcc.2, fun x hx => hb.callers x (List.mem_cons_of_mem _ hx)⟩
    | nil =>
      obtain ⟨fr', cs', w', e⟩ := hex w.tape
      have hs : (stepG P true (G fr ([] ++ [c0 P])) (w.tp w.tape)).bare = .go (G ((c0 P).raise ch) []) (w.tp w.tape) := by simp [stepG, G, hm, unwind, hb.defers, hc]
      rw [hs] at e
      simp only [GStep.go.injEq, G, Goroutine.mk.injEq] at e
      have := e.1.2.1
      simp at this

section

theorem endsX_step {Nx : Frame → List Frame → Prop} {Rl : Frame → List Frame → World → Prop} (A : RelA P Nx Rl) {St : Frame → List Frame → World → Prop} (hSt : ∀ fr cs w ch, St fr cs w → fr.mode ≠ .panicking ch) {n : Nat} {fr : Frame} {cs : List Frame} {w : World} (hr : Rl fr cs w) (hn : ¬ St fr cs w) (h : EndsX P Nx St n fr cs w) :
    ∃ m fr' cs' w', n = m + 1 ∧ Nx fr cs ∧ (stepG P true (G fr (cs ++ [c0 P])) w).bare = .go (G fr' (cs' ++ [c0 P])) w' ∧ EndsX P Nx St m fr' cs' w' ∧ Rl fr' cs' w' ∧ w'.tape = w.tape ∧ w.drawn ≤ w'.drawn ∧
      ∀ τ, (∀ j q, w.drawn ≤ j → j < w'.drawn → τ j q = w.tape j q) → (stepG P true (G fr (cs ++ [c0 P])) (w.tp τ)).bare = .go (G fr' (cs' ++ [c0 P])) (w'.tp τ) := by
  cases n with
  | zero => exact absurd h hn
  | succ n =>
    rcases h with h | ⟨hf, fr', cs', w', e, h⟩
    · exact absurd h hn
    rcases A.step hr hf with ⟨fr1, cs1, w1, e1, r1, x1, x2, tp⟩ | hfl
    · rw [e1] at e
      obtain ⟨rfl, rfl, rfl⟩ := G_inj e
      exact ⟨n, _, _, _, rfl, hf, e1, h, r1, x1, x2, tp⟩
    · exfalso
      have hbad := A.bad hr
      rcases hfl with ⟨fr1, w1, hs, hp, hd, hfn⟩ | ⟨o, w1, hs⟩
      · rw [hs] at e
        obtain ⟨rfl, rfl, rfl⟩ := G_inj e
        exact endsX_bad hSt n ⟨hp, hd, hfn, hbad⟩ h
      · rw [hs] at e; cases e

theorem endsX_tape {Nx : Frame → List Frame → Prop} {Rl : Frame → List Frame → World → Prop} (A : RelA P Nx Rl) {St : Frame → List Frame → World → Prop} (hSt : ∀ fr cs w ch, St fr cs w → fr.mode ≠ .panicking ch) (hF : ∀ fr cs w τ, St fr cs w → St fr cs (w.tp τ)) : ∀ (n : Nat) {fr : Frame} {cs : List Frame} {w : World}, Rl fr cs w → EndsX P Nx St n fr cs w →
    ∀ τ, (∀ j q, w.drawn ≤ j → τ j q = w.tape j q) → EndsX P Nx St n fr cs (w.tp τ)
  | 0, fr, cs, w, _, h, τ, _ => hF _ _ _ _ h
  | n + 1, fr, cs, w, hr, h, τ, hτ => by
    by_cases hn : St fr cs w
    · exact .inl (hF _ _ _ _ hn)
    · obtain ⟨m, fr', cs', w', em, hf, e, h', r', x1, x2, tp⟩ := endsX_step A hSt hr hn h
      cases em
      refine .inr ⟨hf, fr', cs', _, tp τ fun j q h1 _ => hτ j q h1, endsX_tape A hSt hF n r' h' τ fun j q h1 => ?_⟩
      rw [x1]; exact hτ j q (Nat.le_trans x2 h1)

theorem goodX_step {Nx : Frame → List Frame → Prop} {Rl : Frame → List Frame → World → Prop} (A : RelA P Nx Rl) {St : Frame → List Frame → World → Prop} (hSt : ∀ fr cs w ch, St fr cs w → fr.mode ≠ .panicking ch) (hF : ∀ fr cs w τ, St fr cs w → St fr cs (w.tp τ)) {fr : Frame} {cs : List Frame} {w : World} (hr : Rl fr cs w) (hn : ¬ St fr cs w) (h : ∀ τ, ∃ n, EndsX P Nx St n fr cs (w.tp τ)) (τ : Nat → Question → Nat) :
    ∃ fr' cs' w', Nx fr cs ∧ (stepG P true (G fr (cs ++ [c0 P])) (w.tp τ)).bare = .go (G fr' (cs' ++ [c0 P])) w' ∧ (∀ τ, ∃ n, EndsX P Nx St n fr' cs' (w'.tp τ)) ∧ Rl fr' cs' w' ∧ w'.tape = τ ∧ w.drawn ≤ w'.drawn ∧
      ∀ τ2, (∀ j q, w.drawn ≤ j → j < w'.drawn → τ2 j q = τ j q) → (stepG P true (G fr (cs ++ [c0 P])) (w.tp τ2)).bare = .go (G fr' (cs' ++ [c0 P])) (w'.tp τ2) := by
  have hn' : ∀ τ, ¬ St fr cs (w.tp τ) := fun τ q => hn (by have := hF _ _ _ w.tape q; exact this)
  obtain ⟨n, hE⟩ := h τ
  obtain ⟨m, fr', cs', w', em, hf, e, h', r', x1, x2, tp⟩ := endsX_step A hSt (A.tp hr τ) (hn' τ) hE
  refine ⟨fr', cs', w', hf, e, fun τ3 => ?_, r', x1, x2, fun τ2 h2 => tp τ2 h2⟩
  obtain ⟨n2, hE2⟩ := h (fun j q => if j < w'.drawn then τ j q else τ3 j q)
  obtain ⟨m2, fr2, cs2, w2, em2, _, e2, h2, r2, y1, y2, tp2⟩ := endsX_step A hSt (A.tp hr _) (hn' _) hE2
  have e3 := tp (fun j q => if j < w'.drawn then τ j q else τ3 j q) (fun j q h1 h2 => by rw [if_pos h2]; rfl)
  have : (w.tp τ).tp (fun j q => if j < w'.drawn then τ j q else τ3 j q) = w.tp (fun j q => if j < w'.drawn then τ j q else τ3 j q) := rfl
  rw [this, e2] at e3
  obtain ⟨rfl, rfl, rfl⟩ := G_inj e3
  refine ⟨m2, ?_⟩
  have := endsX_tape A hSt hF m2 r2 h2 τ3 fun j q h1 => ?_
  · exact this
  · have h1' : w'.drawn ≤ j := h1
    show τ3 j q = if j < w'.drawn then τ j q else τ3 j q
    rw [if_neg (by omega)]

theorem runX_of_good {Nx : Frame → List Frame → Prop} {Rl : Frame → List Frame → World → Prop} (A : RelA P Nx Rl) {St : Frame → List Frame → World → Prop} (hSt : ∀ fr cs w ch, St fr cs w → fr.mode ≠ .panicking ch) (hF : ∀ fr cs w τ, St fr cs w → St fr cs (w.tp τ)) {fr : Frame} {cs : List Frame} {w : World} (hr : Rl fr cs w) (h : ∀ τ, ∃ n, EndsX P Nx St n fr cs (w.tp τ)) : RunX P Nx St fr cs w := by
  apply Classical.byContradiction
  intro hnot
  let S := { σ : Frame × List Frame × World // Rl σ.1 σ.2.1 σ.2.2 ∧ (∀ τ, ∃ n, EndsX P Nx St n σ.1 σ.2.1 (σ.2.2.tp τ)) ∧ ¬ RunX P Nx St σ.1 σ.2.1 σ.2.2 }
  have nofin : ∀ σ : S, ¬ St σ.1.1 σ.1.2.1 σ.1.2.2 := fun σ hf => σ.2.2.2 (.fin hf)
  have nx : ∀ σ : S, ∃ (τ : Nat → Question → Nat) (σ' : S), σ.1.2.2.drawn ≤ σ'.1.2.2.drawn ∧
      ∀ τ2, (∀ j q, σ.1.2.2.drawn ≤ j → j < σ'.1.2.2.drawn → τ2 j q = τ j q) → (stepG P true (G σ.1.1 (σ.1.2.1 ++ [c0 P])) (σ.1.2.2.tp τ2)).bare = .go (G σ'.1.1 (σ'.1.2.1 ++ [c0 P])) (σ'.1.2.2.tp τ2) := by
    intro σ
    have hn := nofin σ
    have : ∃ τ, ∀ fr' cs' w', (stepG P true (G σ.1.1 (σ.1.2.1 ++ [c0 P])) (σ.1.2.2.tp τ)).bare = .go (G fr' (cs' ++ [c0 P])) w' → ¬ RunX P Nx St fr' cs' w' := by
      apply Classical.byContradiction
      intro hc
      have hfin : Nx σ.1.1 σ.1.2.1 := by
        obtain ⟨_, _, _, hf, _⟩ := goodX_step A hSt hF σ.2.1 hn σ.2.2.1 σ.1.2.2.tape
        exact hf
      refine σ.2.2.2 (.step hn hfin (fun τ => ?_) fun τ fr' cs' w' e => ?_)
      · obtain ⟨fr', cs', w', _, e, _⟩ := goodX_step A hSt hF σ.2.1 hn σ.2.2.1 τ
        exact ⟨fr', cs', w', e⟩
      · apply Classical.byContradiction
        intro hc2
        refine hc ⟨τ, fun fr2 cs2 w2 e2 => ?_⟩
        rw [e] at e2
        obtain ⟨rfl, rfl, rfl⟩ := G_inj e2
        exact hc2
    obtain ⟨τ, hτ⟩ := this
    obtain ⟨fr', cs', w', _, e, hg, hr', _, hd, tp⟩ := goodX_step A hSt hF σ.2.1 hn σ.2.2.1 τ
    exact ⟨τ, ⟨(fr', cs', w'), hr', hg, hτ _ _ _ e⟩, hd, tp⟩
  let s0 : S := ⟨(fr, cs, w), hr, h, hnot⟩
  let seq : Nat → S := fun n => Nat.rec s0 (fun _ σ => (nx σ).choose_spec.choose) n
  let ts : Nat → (Nat → Question → Nat) := fun i => (nx (seq i)).choose
  have hseq : ∀ i, (seq i).1.2.2.drawn ≤ (seq (i + 1)).1.2.2.drawn ∧
      ∀ τ2, (∀ j q, (seq i).1.2.2.drawn ≤ j → j < (seq (i + 1)).1.2.2.drawn → τ2 j q = ts i j q) →
        (stepG P true (G (seq i).1.1 ((seq i).1.2.1 ++ [c0 P])) ((seq i).1.2.2.tp τ2)).bare = .go (G (seq (i + 1)).1.1 ((seq (i + 1)).1.2.1 ++ [c0 P])) ((seq (i + 1)).1.2.2.tp τ2) :=
    fun i => (nx (seq i)).choose_spec.choose_spec
  have mono : ∀ i k, (seq i).1.2.2.drawn ≤ (seq (i + k)).1.2.2.drawn := by
    intro i k
    induction k with
    | zero => exact Nat.le_refl _
    | succ k ih => exact Nat.le_trans ih (hseq (i + k)).1
  let D : Nat → Nat := fun i => (seq i).1.2.2.drawn
  let star : Nat → Question → Nat := fun j q => open Classical in if h : ∃ i, D i ≤ j ∧ j < D (i + 1) then ts h.choose j q else 0
  have hstar : ∀ i j q, D i ≤ j → j < D (i + 1) → star j q = ts i j q := by
    intro i j q h1 h2
    have hex : ∃ i, D i ≤ j ∧ j < D (i + 1) := ⟨i, h1, h2⟩
    have hc := hex.choose_spec
    have heq : hex.choose = i := by
      rcases Nat.lt_trichotomy hex.choose i with hlt | heq | hgt
      · have := mono (hex.choose + 1) (i - (hex.choose + 1))
        rw [show hex.choose + 1 + (i - (hex.choose + 1)) = i by omega] at this
        have h3 : D (hex.choose + 1) ≤ D i := this
        omega
      · exact heq
      · have := mono (i + 1) (hex.choose - (i + 1))
        rw [show i + 1 + (hex.choose - (i + 1)) = hex.choose by omega] at this
        have h3 : D (i + 1) ≤ D hex.choose := this
        omega
    have e1 : star j q = ts hex.choose j q := dif_pos hex
    rw [e1, heq]
  have stepS : ∀ i, (stepG P true (G (seq i).1.1 ((seq i).1.2.1 ++ [c0 P])) ((seq i).1.2.2.tp star)).bare = .go (G (seq (i + 1)).1.1 ((seq (i + 1)).1.2.1 ++ [c0 P])) ((seq (i + 1)).1.2.2.tp star) :=
    fun i => (hseq i).2 star fun j q h1 h2 => hstar i j q h1 h2
  have nofin' : ∀ i, ¬ St (seq i).1.1 (seq i).1.2.1 ((seq i).1.2.2.tp star) := fun i q => nofin (seq i) (by have := hF _ _ _ (seq i).1.2.2.tape q; exact this)
  have no : ∀ n i, ¬ EndsX P Nx St n (seq i).1.1 (seq i).1.2.1 ((seq i).1.2.2.tp star) := by
    intro n
    induction n with
    | zero => intro i hE; exact nofin' _ hE
    | succ n ih =>
      intro i hE
      rcases hE with hE | ⟨_, fr', cs', w', e, hE⟩
      · exact nofin' _ hE
      · rw [stepS i] at e
        obtain ⟨rfl, rfl, rfl⟩ := G_inj e
        exact ih (i + 1) hE
  obtain ⟨n, hE⟩ := h star
  exact no n 0 hE

theorem endsX_of_run {Nx : Frame → List Frame → Prop} {Rl : Frame → List Frame → World → Prop} (A : RelA P Nx Rl) {St : Frame → List Frame → World → Prop} (hSt : ∀ fr cs w ch, St fr cs w → fr.mode ≠ .panicking ch) {fr' : Frame} {w' : World} (hF : St fr' [] w') (hNx : ∀ {fr : Frame} {cs : List Frame} {w : World} (n : Nat), Rl fr cs w → runN P (n + 1) (lone fr (cs ++ [c0 P]) w) = .next (lone fr' [c0 P] w') → Nx fr cs) : ∀ (n : Nat) {fr : Frame} {cs : List Frame} {w : World}, Rl fr cs w →
    runN P n (lone fr (cs ++ [c0 P]) w) = .next (lone fr' [c0 P] w') → EndsX P Nx St n fr cs w
  | 0, fr, cs, w, hr, e => by
    simp only [runN, Stepped.next.injEq] at e
    obtain ⟨rfl, hc, rfl⟩ := lone_inj e
    have : cs = [] := List.eq_nil_of_length_eq_zero (by simpa using congrArg List.length hc)
    subst this
    exact hF
  | n + 1, fr, cs, w, hr, e => by
    have hn : Nx fr cs := hNx n hr e
    rcases A.step hr hn with ⟨fr1, cs1, w1, e1, r1, _⟩ | hf
    · have hs := step_lone_go (P := P) (fr := fr) (cs := cs ++ [c0 P]) (w := w) (by exact e1)
      rw [runN, hs] at e
      exact .inr ⟨hn, fr1, cs1, w1, e1, endsX_of_run A hSt hF hNx n r1 e⟩
    · exfalso
      have hbad := A.bad hr
      rcases hf with ⟨fr1, w1, hs, hp, hd, hfn⟩ | ⟨o, w1, hs⟩
      · have := step_lone_go (P := P) (fr := fr) (cs := cs ++ [c0 P]) (w := w) (by exact hs)
        rw [runN, this] at e
        obtain ⟨ch, hm⟩ := bad_run' n ⟨hp, hd, hfn, hbad⟩ e
        exact hSt _ _ _ _ hF hm
      · have := step_lone_ended (P := P) (fr := fr) (cs := cs ++ [c0 P]) (w := w) (by exact hs)
        rw [runN, this] at e
        cases e
end
end Go.Sim
