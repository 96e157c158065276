/-
  Texts of ours, joined: SimP, SimQ, CanP, SimR, SimS, SimU, SimV, CanQ, CanR, CanS, CanT, CanU.
-/
import Derived.Test.YtlndinigbppafaaJ11
import Derived.Test.YtlndinigbppafaaJ33
/-
  A lone run up to a stop, told step by step; a frame with more to do behind what it does.
-/
namespace Go.Sim
open Go.Conc (G)
variable {P : Program} {Shd : Nat → Prop} {R : BR}

theorem bad_run' : ∀ (n : Nat) {fr fr' : Frame} {cs : List Frame} {w w' : World}, Bad (P := P) fr cs → runN P n (lone fr (cs ++ [c0 P]) w) = .next (lone fr' [c0 P] w') → ∃ ch, fr'.mode = .panicking ch
  | 0, fr, fr', cs, w, w', hb, e => by
    simp only [runN, Stepped.next.injEq] at e
    obtain ⟨rfl, _, _⟩ := lone_inj e
    exact hb.mode
  | n + 1, fr, fr', cs, w, w', hb, e => by
    obtain ⟨ch, hm⟩ := hb.mode
    obtain ⟨f, hf⟩ := hb.func
    have hc : fr.catches P = false := by unfold Frame.catches; simp [hf]
    cases cs with
    | cons c cs =>
      have hs : step P (lone fr (c :: cs ++ [c0 P]) w) = .next (lone (c.raise ch) (cs ++ [c0 P]) w) := step_lone_go (by simp [stepG, hm, unwind, hb.defers, hc])
      rw [runN, hs] at e
      have hcc := hb.callers c (List.mem_cons_self ..)
      exact bad_run' n ⟨raise_mode _ _, by rw [raise_defers]; exact hcc.1, by rw [raise_fn]; exact hcc.2, fun x hx => hb.callers x (List.mem_cons_of_mem _ hx)⟩ e
    | nil =>
      have hs : step P (lone fr ([] ++ [c0 P]) w) = .next (lone ((c0 P).raise ch) [] w) := step_lone_go (by simp [stepG, hm, unwind, hb.defers, hc])
      rw [runN, hs] at e
      cases n with
      | zero =>
        simp only [runN, Stepped.next.injEq] at e
        obtain ⟨_, h, _⟩ := lone_inj e
        cases h
      | succ n =>
        have hx : ((c0 P).raise ch).catches P = true := by
          have := catches0 (P := P)
          unfold Frame.raise c0 at *
          exact this
        have hs2 : ∃ o w2, step P (lone ((c0 P).raise ch) [] w) = .ended o w2 := by
          obtain ⟨ch', h1⟩ := raise_mode (c0 P) ch
          have h2 : ((c0 P).raise ch).defers = [] := by rw [raise_defers]; rfl
          exact ⟨_, w, step_lone_ended (by simp [stepG, h1, unwind, h2, hx]; rfl)⟩
        obtain ⟨o, w2, hs2⟩ := hs2
        simp only [runN, hs2] at e
        cases e

/-- The run comes to a stop, told step by step. -/
def EndsS (P : Program) (St : Frame → List Frame → World → Prop) : Nat → Frame → List Frame → World → Prop
  | 0, fr, cs, w => St fr cs w
  | n + 1, fr, cs, w => St fr cs w ∨ (¬ IsFin fr cs ∧ ∃ fr' cs' w', (stepG P true (G fr (cs ++ [c0 P])) w).bare = .go (G fr' (cs' ++ [c0 P])) w' ∧ EndsS P St n fr' cs' w')

theorem endsS_bad {St : Frame → List Frame → World → Prop} (hSt : ∀ fr cs w ch, St fr cs w → fr.mode ≠ .panicking ch) : ∀ (n : Nat) {fr : Frame} {cs : List Frame} {w : World}, Bad (P := P) fr cs → ¬ EndsS P St n fr cs w
  | 0, fr, cs, w, hb, h => by
    obtain ⟨ch, hm⟩ := hb.mode
    exact hSt _ _ _ _ h hm
  | n + 1, fr, cs, w, hb, h => by
    obtain ⟨ch, hm⟩ := hb.mode
    obtain ⟨f, hf⟩ := hb.func
    have hc : fr.catches P = false := by unfold Frame.catches; simp [hf]
    rcases h with h | ⟨_, fr', cs', w', e, h⟩
    · exact hSt _ _ _ _ h hm
    cases cs with
    | cons c cs =>
      have hs : (stepG P true (G fr (c :: cs ++ [c0 P])) w).bare = .go (G (c.raise ch) (cs ++ [c0 P])) w := by simp [stepG, G, hm, unwind, hb.defers, hc]
      rw [hs] at e
      obtain ⟨rfl, rfl, rfl⟩ := G_inj e
      have hcc := hb.callers c (List.mem_cons_self ..)
      exact endsS_bad hSt n ⟨raise_mode _ _, by rw [raise_defers]; exact hcc.1, by rw [raise_fn]; exact hcc.2, fun x hx => hb.callers x (List.mem_cons_of_mem _ hx)⟩ h
    | nil =>
      have hs : (stepG P true (G fr ([] ++ [c0 P])) w).bare = .go (G ((c0 P).raise ch) []) w := by simp [stepG, G, hm, unwind, hb.defers, hc]
      rw [hs] at e
      simp only [GStep.go.injEq, G, Goroutine.mk.injEq] at e
      have := e.1.2.1
      simp at this

/-- Whatever the tape answers, step by step: the run comes to the stop. -/
inductive RunS (P : Program) (St : Frame → List Frame → World → Prop) : Frame → List Frame → World → Prop
  | fin {fr : Frame} {cs : List Frame} {w : World} : St fr cs w → RunS P St fr cs w
  | step {fr : Frame} {cs : List Frame} {w : World} : ¬ St fr cs w → ¬ IsFin fr cs →
      (∀ τ, ∃ fr' cs' w', (stepG P true (G fr (cs ++ [c0 P])) (w.tp τ)).bare = .go (G fr' (cs' ++ [c0 P])) w') →
      (∀ τ fr' cs' w', (stepG P true (G fr (cs ++ [c0 P])) (w.tp τ)).bare = .go (G fr' (cs' ++ [c0 P])) w' → RunS P St fr' cs' w') → RunS P St fr cs w

theorem runS_bad {St : Frame → List Frame → World → Prop} (hSt : ∀ fr cs w ch, St fr cs w → fr.mode ≠ .panicking ch) {fr : Frame} {cs : List Frame} {w : World} (h : RunS P St fr cs w) : ¬ Bad (P := P) fr cs := by
  induction h with
  | fin hf =>
    intro hb
    obtain ⟨ch, hm⟩ := hb.mode
    exact hSt _ _ _ _ hf hm
  | @step fr cs w _ hn hex hst ih =>
    intro hb
    obtain ⟨ch, hm⟩ := hb.mode
    obtain ⟨f, hf⟩ := hb.func
    have hc : fr.catches P = false := by unfold Frame.catches; simp [hf]
    cases cs with
    | cons c cs =>
      have hs : (stepG P true (G fr (c :: cs ++ [c0 P])) (w.tp w.tape)).bare = .go (G (c.raise ch) (cs ++ [c0 P])) (w.tp w.tape) := by simp [stepG, G, hm, unwind, hb.defers, hc]
      have hcc := hb.callers c (List.mem_cons_self ..)
      exact ih w.tape _ _ _ hs ⟨raise_mode _ _, by rw [raise_defers]; exact hcc.1, by rw [raise_fn]; exact hcc.2, fun x hx => hb.callers x (List.mem_cons_of_mem _ hx)⟩
    | nil =>
      obtain ⟨fr', cs', w', e⟩ := hex w.tape
      have hs : (stepG P true (G fr ([] ++ [c0 P])) (w.tp w.tape)).bare = .go (G ((c0 P).raise ch) []) (w.tp w.tape) := by simp [stepG, G, hm, unwind, hb.defers, hc]
      rw [hs] at e
      simp only [GStep.go.injEq, G, Goroutine.mk.injEq] at e
      have := e.1.2.1
      simp at this

section

theorem endsS_step (hS : ∀ b, ¬ Shd b) (hZ : ZeroOK P) (hB : BodiesOK P) {St : Frame → List Frame → World → Prop} (hSt : ∀ fr cs w ch, St fr cs w → fr.mode ≠ .panicking ch) {n : Nat} {fr : Frame} {cs : List Frame} {w : World} (hr : Rel P Shd fr cs w) (hn : ¬ St fr cs w) (h : EndsS P St n fr cs w) :
    ∃ m fr' cs' w', n = m + 1 ∧ ¬ IsFin fr cs ∧ (stepG P true (G fr (cs ++ [c0 P])) w).bare = .go (G fr' (cs' ++ [c0 P])) w' ∧ EndsS P St m fr' cs' w' ∧ Rel P Shd fr' cs' w' ∧ w'.tape = w.tape ∧ w.drawn ≤ w'.drawn ∧
      ∀ τ, (∀ j q, w.drawn ≤ j → j < w'.drawn → τ j q = w.tape j q) → (stepG P true (G fr (cs ++ [c0 P])) (w.tp τ)).bare = .go (G fr' (cs' ++ [c0 P])) (w'.tp τ) := by
  cases n with
  | zero => exact absurd h hn
  | succ n =>
    rcases h with h | ⟨hf, fr', cs', w', e, h⟩
    · exact absurd h hn
    rcases rel_step hS hZ hB hr hf with ⟨fr1, cs1, w1, e1, r1, x1, x2, tp⟩ | hfl
    · rw [e1] at e
      obtain ⟨rfl, rfl, rfl⟩ := G_inj e
      exact ⟨n, _, _, _, rfl, hf, e1, h, r1, x1, x2, tp⟩
    · exfalso
      obtain ⟨R, Fr, Cs, W, h1, h2, _⟩ := hr
      rcases hfl with ⟨fr1, w1, hs, hp, hd, hfn⟩ | ⟨o, w1, hs⟩
      · rw [hs] at e
        obtain ⟨rfl, rfl, rfl⟩ := G_inj e
        exact endsS_bad hSt n ⟨hp, hd, hfn, h2.bad⟩ h
      · rw [hs] at e; cases e

theorem endsS_tape (hS : ∀ b, ¬ Shd b) (hZ : ZeroOK P) (hB : BodiesOK P) {St : Frame → List Frame → World → Prop} (hSt : ∀ fr cs w ch, St fr cs w → fr.mode ≠ .panicking ch) (hF : ∀ fr cs w τ, St fr cs w → St fr cs (w.tp τ)) : ∀ (n : Nat) {fr : Frame} {cs : List Frame} {w : World}, Rel P Shd fr cs w → EndsS P St n fr cs w →
    ∀ τ, (∀ j q, w.drawn ≤ j → τ j q = w.tape j q) → EndsS P St n fr cs (w.tp τ)
  | 0, fr, cs, w, _, h, τ, _ => hF _ _ _ _ h
  | n + 1, fr, cs, w, hr, h, τ, hτ => by
    by_cases hn : St fr cs w
    · exact .inl (hF _ _ _ _ hn)
    · obtain ⟨m, fr', cs', w', em, hf, e, h', r', x1, x2, tp⟩ := endsS_step hS hZ hB hSt hr hn h
      cases em
      refine .inr ⟨hf, fr', cs', _, tp τ fun j q h1 _ => hτ j q h1, endsS_tape hS hZ hB hSt hF n r' h' τ fun j q h1 => ?_⟩
      rw [x1]; exact hτ j q (Nat.le_trans x2 h1)

theorem goodS_step (hS : ∀ b, ¬ Shd b) (hZ : ZeroOK P) (hB : BodiesOK P) {St : Frame → List Frame → World → Prop} (hSt : ∀ fr cs w ch, St fr cs w → fr.mode ≠ .panicking ch) (hF : ∀ fr cs w τ, St fr cs w → St fr cs (w.tp τ)) {fr : Frame} {cs : List Frame} {w : World} (hr : Rel P Shd fr cs w) (hn : ¬ St fr cs w) (h : ∀ τ, ∃ n, EndsS P St n fr cs (w.tp τ)) (τ : Nat → Question → Nat) :
    ∃ fr' cs' w', ¬ IsFin fr cs ∧ (stepG P true (G fr (cs ++ [c0 P])) (w.tp τ)).bare = .go (G fr' (cs' ++ [c0 P])) w' ∧ (∀ τ, ∃ n, EndsS P St n fr' cs' (w'.tp τ)) ∧ Rel P Shd fr' cs' w' ∧ w'.tape = τ ∧ w.drawn ≤ w'.drawn ∧
      ∀ τ2, (∀ j q, w.drawn ≤ j → j < w'.drawn → τ2 j q = τ j q) → (stepG P true (G fr (cs ++ [c0 P])) (w.tp τ2)).bare = .go (G fr' (cs' ++ [c0 P])) (w'.tp τ2) := by
  have hn' : ∀ τ, ¬ St fr cs (w.tp τ) := fun τ q => hn (by have := hF _ _ _ w.tape q; exact this)
  obtain ⟨n, hE⟩ := h τ
  obtain ⟨m, fr', cs', w', em, hf, e, h', r', x1, x2, tp⟩ := endsS_step hS hZ hB hSt (hr.tp τ) (hn' τ) hE
  refine ⟨fr', cs', w', hf, e, fun τ3 => ?_, r', x1, x2, fun τ2 h2 => tp τ2 h2⟩
  obtain ⟨n2, hE2⟩ := h (fun j q => if j < w'.drawn then τ j q else τ3 j q)
  obtain ⟨m2, fr2, cs2, w2, em2, _, e2, h2, r2, y1, y2, tp2⟩ := endsS_step hS hZ hB hSt (hr.tp _) (hn' _) hE2
  have e3 := tp (fun j q => if j < w'.drawn then τ j q else τ3 j q) (fun j q h1 h2 => by rw [if_pos h2]; rfl)
  have : (w.tp τ).tp (fun j q => if j < w'.drawn then τ j q else τ3 j q) = w.tp (fun j q => if j < w'.drawn then τ j q else τ3 j q) := rfl
  rw [this, e2] at e3
  obtain ⟨rfl, rfl, rfl⟩ := G_inj e3
  refine ⟨m2, ?_⟩
  have := endsS_tape hS hZ hB hSt hF m2 r2 h2 τ3 fun j q h1 => ?_
  · exact this
  · have h1' : w'.drawn ≤ j := h1
    show τ3 j q = if j < w'.drawn then τ j q else τ3 j q
    rw [if_neg (by omega)]

theorem runS_of_good (hS : ∀ b, ¬ Shd b) (hZ : ZeroOK P) (hB : BodiesOK P) {St : Frame → List Frame → World → Prop} (hSt : ∀ fr cs w ch, St fr cs w → fr.mode ≠ .panicking ch) (hF : ∀ fr cs w τ, St fr cs w → St fr cs (w.tp τ)) {fr : Frame} {cs : List Frame} {w : World} (hr : Rel P Shd fr cs w) (h : ∀ τ, ∃ n, EndsS P St n fr cs (w.tp τ)) : RunS P St fr cs w := by
  apply Classical.byContradiction
  intro hnot
  let S := { σ : Frame × List Frame × World // Rel P Shd σ.1 σ.2.1 σ.2.2 ∧ (∀ τ, ∃ n, EndsS P St n σ.1 σ.2.1 (σ.2.2.tp τ)) ∧ ¬ RunS P St σ.1 σ.2.1 σ.2.2 }
  have nofin : ∀ σ : S, ¬ St σ.1.1 σ.1.2.1 σ.1.2.2 := fun σ hf => σ.2.2.2 (.fin hf)
  have nx : ∀ σ : S, ∃ (τ : Nat → Question → Nat) (σ' : S), σ.1.2.2.drawn ≤ σ'.1.2.2.drawn ∧
      ∀ τ2, (∀ j q, σ.1.2.2.drawn ≤ j → j < σ'.1.2.2.drawn → τ2 j q = τ j q) → (stepG P true (G σ.1.1 (σ.1.2.1 ++ [c0 P])) (σ.1.2.2.tp τ2)).bare = .go (G σ'.1.1 (σ'.1.2.1 ++ [c0 P])) (σ'.1.2.2.tp τ2) := by
    intro σ
    have hn := nofin σ
    have : ∃ τ, ∀ fr' cs' w', (stepG P true (G σ.1.1 (σ.1.2.1 ++ [c0 P])) (σ.1.2.2.tp τ)).bare = .go (G fr' (cs' ++ [c0 P])) w' → ¬ RunS P St fr' cs' w' := by
      apply Classical.byContradiction
      intro hc
      have hfin : ¬ IsFin σ.1.1 σ.1.2.1 := by
        obtain ⟨_, _, _, hf, _⟩ := goodS_step hS hZ hB hSt hF σ.2.1 hn σ.2.2.1 σ.1.2.2.tape
        exact hf
      refine σ.2.2.2 (.step hn hfin (fun τ => ?_) fun τ fr' cs' w' e => ?_)
      · obtain ⟨fr', cs', w', _, e, _⟩ := goodS_step hS hZ hB hSt hF σ.2.1 hn σ.2.2.1 τ
        exact ⟨fr', cs', w', e⟩
      · apply Classical.byContradiction
        intro hc2
        refine hc ⟨τ, fun fr2 cs2 w2 e2 => ?_⟩
        rw [e] at e2
        obtain ⟨rfl, rfl, rfl⟩ := G_inj e2
        exact hc2
    obtain ⟨τ, hτ⟩ := this
    obtain ⟨fr', cs', w', _, e, hg, hr', _, hd, tp⟩ := goodS_step hS hZ hB hSt hF σ.2.1 hn σ.2.2.1 τ
    exact ⟨τ, ⟨(fr', cs', w'), hr', hg, hτ _ _ _ e⟩, hd, tp⟩
  let s0 : S := ⟨(fr, cs, w), hr, h, hnot⟩
  let seq : Nat → S := fun n => Nat.rec s0 (fun _ σ => (nx σ).choose_spec.choose) n
  let ts : Nat → (Nat → Question → Nat) := fun i => (nx (seq i)).choose
  have hseq : ∀ i, (seq i).1.2.2.drawn ≤ (seq (i + 1)).1.2.2.drawn ∧
      ∀ τ2, (∀ j q, (seq i).1.2.2.drawn ≤ j → j < (seq (i + 1)).1.2.2.drawn → τ2 j q = ts i j q) →
        (stepG P true (G (seq i).1.1 ((seq i).1.2.1 ++ [c0 P])) ((seq i).1.2.2.tp τ2)).bare = .go (G (seq (i + 1)).1.1 ((seq (i + 1)).1.2.1 ++ [c0 P])) ((seq (i + 1)).1.2.2.tp τ2) :=
    fun i => (nx (seq i)).choose_spec.choose_spec
  have mono : ∀ i k, (seq i).1.2.2.drawn ≤ (seq (i + k)).1.2.2.drawn := by
    intro i k
    induction k with
    | zero => exact Nat.le_refl _
    | succ k ih => exact Nat.le_trans ih (hseq (i + k)).1
  let D : Nat → Nat := fun i => (seq i).1.2.2.drawn
  let star : Nat → Question → Nat := fun j q => open Classical in if h : ∃ i, D i ≤ j ∧ j < D (i + 1) then ts h.choose j q else 0
  have hstar : ∀ i j q, D i ≤ j → j < D (i + 1) → star j q = ts i j q := by
    intro i j q h1 h2
    have hex : ∃ i, D i ≤ j ∧ j < D (i + 1) := ⟨i, h1, h2⟩
    have hc := hex.choose_spec
    have heq : hex.choose = i := by
      rcases Nat.lt_trichotomy hex.choose i with hlt | heq | hgt
      · have := mono (hex.choose + 1) (i - (hex.choose + 1))
        rw [show hex.choose + 1 + (i - (hex.choose + 1)) = i by omega] at this
        have h3 : D (hex.choose + 1) ≤ D i := this
        omega
      · exact heq
      · have := mono (i + 1) (hex.choose - (i + 1))
        rw [show i + 1 + (hex.choose - (i + 1)) = hex.choose by omega] at this
        have h3 : D (i + 1) ≤ D hex.choose := this
        omega
    have e1 : star j q = ts hex.choose j q := dif_pos hex
    rw [e1, heq]
  have stepS : ∀ i, (stepG P true (G (seq i).1.1 ((seq i).1.2.1 ++ [c0 P])) ((seq i).1.2.2.tp star)).bare = .go (G (seq (i + 1)).1.1 ((seq (i + 1)).1.2.1 ++ [c0 P])) ((seq (i + 1)).1.2.2.tp star) :=
    fun i => (hseq i).2 star fun j q h1 h2 => hstar i j q h1 h2
  have nofin' : ∀ i, ¬ St (seq i).1.1 (seq i).1.2.1 ((seq i).1.2.2.tp star) := fun i q => nofin (seq i) (by have := hF _ _ _ (seq i).1.2.2.tape q; exact this)
  have no : ∀ n i, ¬ EndsS P St n (seq i).1.1 (seq i).1.2.1 ((seq i).1.2.2.tp star) := by
    intro n
    induction n with
    | zero => intro i hE; exact nofin' _ hE
    | succ n ih =>
      intro i hE
      rcases hE with hE | ⟨_, fr', cs', w', e, hE⟩
      · exact nofin' _ hE
      · rw [stepS i] at e
        obtain ⟨rfl, rfl, rfl⟩ := G_inj e
        exact ih (i + 1) hE
  obtain ⟨n, hE⟩ := h star
  exact no n 0 hE

theorem endsS_of_run (hS : ∀ b, ¬ Shd b) (hZ : ZeroOK P) (hB : BodiesOK P) {St : Frame → List Frame → World → Prop} (hSt : ∀ fr cs w ch, St fr cs w → fr.mode ≠ .panicking ch) {fr' : Frame} {w' : World} (hF : St fr' [] w') : ∀ (n : Nat) {fr : Frame} {cs : List Frame} {w : World}, Rel P Shd fr cs w →
    runN P n (lone fr (cs ++ [c0 P]) w) = .next (lone fr' [c0 P] w') → EndsS P St n fr cs w
  | 0, fr, cs, w, hr, e => by
    simp only [runN, Stepped.next.injEq] at e
    obtain ⟨rfl, hc, rfl⟩ := lone_inj e
    have : cs = [] := List.eq_nil_of_length_eq_zero (by simpa using congrArg List.length hc)
    subst this
    exact hF
  | n + 1, fr, cs, w, hr, e => by
    have hn : ¬ IsFin fr cs := by
      intro hn
      obtain ⟨h1, rfl⟩ := hn
      obtain ⟨R, Fr, Cs, W, f1, _, _⟩ := hr
      exact fin_over f1 h1 n e
    rcases rel_step hS hZ hB hr hn with ⟨fr1, cs1, w1, e1, r1, _⟩ | hf
    · have hs := step_lone_go (P := P) (fr := fr) (cs := cs ++ [c0 P]) (w := w) (by exact e1)
      rw [runN, hs] at e
      exact .inr ⟨hn, fr1, cs1, w1, e1, endsS_of_run hS hZ hB hSt hF n r1 e⟩
    · exfalso
      obtain ⟨R, Fr, Cs, W, h1, h2, _⟩ := hr
      rcases hf with ⟨fr1, w1, hs, hp, hd, hfn⟩ | ⟨o, w1, hs⟩
      · have := step_lone_go (P := P) (fr := fr) (cs := cs ++ [c0 P]) (w := w) (by exact hs)
        rw [runN, this] at e
        obtain ⟨ch, hm⟩ := bad_run' n ⟨hp, hd, hfn, h2.bad⟩ e
        exact hSt _ _ _ _ hF hm
      · have := step_lone_ended (P := P) (fr := fr) (cs := cs ++ [c0 P]) (w := w) (by exact hs)
        rw [runN, this] at e
        cases e
end
end Go.Sim

/-
  A frame with more to do behind what it does: its steps are the same.
-/
namespace Go.Sim
open Go.Conc (G)
variable {P : Program} {Shd : Nat → Prop} {R : BR}

def _root_.Go.Frame.more (fr : Frame) (k : List Item) : Frame := { fr with todo := fr.todo ++ k }
theorem more_nil (fr : Frame) : fr.more [] = fr := by cases fr; simp [Frame.more]
theorem more_eval (fr : Frame) (k : List Item) : (fr.more k).eval = fr.eval := by funext x; cases x <;> rfl
/-- It waits at a call. -/
def Wt (fr : Frame) : Prop := ∃ ops i rest k, fr.todo = .inRegion ops (i :: rest) :: k
theorem more_finish {fr : Frame} (h : Wt fr) (k : List Item) (v : Value) : (fr.more k).finish v = (fr.finish v).more k := by
  obtain ⟨ops, i, rest, k', e⟩ := h
  simp [Frame.finish, Frame.more, e]
theorem exitTo_more : ∀ {id : Nat} {k k' : List Item} (l : List Item), exitTo id k = some k' → exitTo id (k ++ l) = some (k' ++ l)
  | _, [], _, _, h => by simp [exitTo] at h
  | id, x :: k, k', l, h => by
    cases x with
    | inBlock i =>
      simp only [exitTo, List.cons_append] at h ⊢
      split at h
      · cases h; rename_i q; rw [if_pos q]
      · rename_i q; rw [if_neg q]; exact exitTo_more l h
    | _ => simp only [exitTo, List.cons_append] at h ⊢; exact exitTo_more l h

theorem G_eq {fr fr' : Frame} {cs cs' : List Frame} {w w' : World} {es es' : Array Event} (h : GStep.go (G fr cs) w es = GStep.go (G fr' cs') w' es') : fr = fr' ∧ cs = cs' ∧ w = w' ∧ es = es' := by
  simp only [GStep.go.injEq, G, Goroutine.mk.injEq] at h
  exact ⟨h.1.1, h.1.2.1, h.2.1, h.2.2⟩

/-- An own step of a frame, with more behind. -/
theorem own_more (hS : ∀ b, ¬ Shd b) (hZ : ZeroOK P) {fr Fr fr' : Frame} {cs cs1 cs2 : List Frame} {w W w' : World} {es : Array Event} {main : Bool} (k : List Item) (h : FR P R fr Fr) (hw : WR P Shd R w W) (ht : ∀ j q, w.tape (w.drawn + j) q = W.tape (W.drawn + j) q)
    (hm : fr.mode = .run) (hne : fr.todo ≠ []) (e : stepG P main (G fr cs) w = .go (G fr' cs1) w' es) (hp : ∀ ch, fr'.mode ≠ .panicking ch) :
    (cs1 = cs ∧ stepG P main (G (fr.more k) cs2) w = .go (G (fr'.more k) cs2) w' es) ∨ (cs1 = fr :: cs ∧ Wt fr ∧ stepG P main (G (fr.more k) cs2) w = .go (G fr' (fr.more k :: cs2)) w' es) := by
  have same : ∀ (l l2 : List Item), stepG P main (G fr cs) w = .go (G { fr with todo := l } cs) w → stepG P main (G (fr.more k) cs2) w = .go (G { fr.more k with todo := l2 } cs2) w → l2 = l ++ k →
      (cs1 = cs ∧ stepG P main (G (fr.more k) cs2) w = .go (G (fr'.more k) cs2) w' es) ∨ (cs1 = fr :: cs ∧ Wt fr ∧ stepG P main (G (fr.more k) cs2) w = .go (G fr' (fr.more k :: cs2)) w' es) := by
    intro l l2 e1 e2 e3
    rw [e1] at e
    obtain ⟨rfl, rfl, rfl, rfl⟩ := G_eq e
    exact .inl ⟨rfl, by rw [e2, e3]; rfl⟩
  have hi := h.items
  have hM : (fr.more k).mode = .run := hm
  have hR : (fr.more k).roundOf = none := h.round
  have hK : (fr.more k).kind = .normal := h.kind
  cases hd : fr.todo with
  | nil => exact absurd hd hne
  | cons it l =>
    have hD : (fr.more k).todo = it :: (l ++ k) := by simp [Frame.more, hd]
    rw [hd] at hi
    have h0 := hi it (List.mem_cons_self ..)
    cases it with
    | inBlock i => exact same l (l ++ k) (by simp [stepG, stepG.exec, G, hm, hd]) (by simp [stepG, stepG.exec, G, hM, hD]) rfl
    | inScope c => exact same l (l ++ k) (by simp [stepG, stepG.exec, G, hm, hd]) (by simp [stepG, stepG.exec, G, hM, hD]) rfl
    | inLoop c => exact same (.code c :: .inLoop c :: l) (.code c :: .inLoop c :: (l ++ k)) (by simp [stepG, stepG.exec, G, hm, hd]) (by simp [stepG, stepG.exec, G, hM, hD]) rfl
    | code c =>
      cases c with
      | ret =>
        have e1 : stepG P main (G fr cs) w = .go (G { fr with mode := .returning } cs) w := by simp [stepG, stepG.exec, G, hm, hd, h.round]
        have e2 : stepG P main (G (fr.more k) cs2) w = .go (G { fr.more k with mode := .returning } cs2) w := by simp [stepG, stepG.exec, G, hM, hD, hR]
        rw [e1] at e
        obtain ⟨rfl, rfl, rfl, rfl⟩ := G_eq e
        exact .inl ⟨rfl, by rw [e2]; rfl⟩
      | skip => exact same l (l ++ k) (by simp [stepG, stepG.exec, G, hm, hd]) (by simp [stepG, stepG.exec, G, hM, hD]) rfl
      | label _ => exact same l (l ++ k) (by simp [stepG, stepG.exec, G, hm, hd]) (by simp [stepG, stepG.exec, G, hM, hD]) rfl
      | seq a b => exact same (.code a :: .code b :: l) (.code a :: .code b :: (l ++ k)) (by simp [stepG, stepG.exec, G, hm, hd]) (by simp [stepG, stepG.exec, G, hM, hD]) rfl
      | block i c => exact same (.code c :: .inBlock i :: l) (.code c :: .inBlock i :: (l ++ k)) (by simp [stepG, stepG.exec, G, hm, hd]) (by simp [stepG, stepG.exec, G, hM, hD]) rfl
      | scope c => exact same (.code c :: .inScope c :: l) (.code c :: .inScope c :: (l ++ k)) (by simp [stepG, stepG.exec, G, hm, hd]) (by simp [stepG, stepG.exec, G, hM, hD]) rfl
      | loop c => exact same (.code c :: .inLoop c :: l) (.code c :: .inLoop c :: (l ++ k)) (by simp [stepG, stepG.exec, G, hm, hd]) (by simp [stepG, stepG.exec, G, hM, hD]) rfl
      | exit i =>
        cases he : exitTo i l with
        | some l' => exact same l' (l' ++ k) (by simp [stepG, stepG.exec, G, hm, hd, he]) (by simp [stepG, stepG.exec, G, hM, hD, exitTo_more k he]) rfl
        | none =>
          have : ∃ o w2, stepG P main (G fr cs) w = .ended o w2 := ⟨_, w, by simp [stepG, stepG.exec, G, hm, hd, he, h.round]; rfl⟩
          obtain ⟨o, w2, q⟩ := this
          rw [q] at e; cases e
      | cond c a b =>
        have hv := h.eval c h0.1
        generalize hx : fr.eval c = v at hv
        have hX : (fr.more k).eval c = v := by rw [more_eval]; exact hx
        generalize Fr.eval c = V at hv
        have nope : (∀ t, v ≠ .bool t) → ∃ o w2, stepG P main (G fr cs) w = .ended o w2 := by
          intro hb
          cases v <;> first | exact absurd rfl (hb _) | exact ⟨_, w, by simp [stepG, stepG.exec, G, hm, hd, hx]; rfl⟩
        by_cases hb : ∃ t, v = .bool t
        · obtain ⟨t, rfl⟩ := hb
          exact same (.code (if t then a else b) :: l) (.code (if t then a else b) :: (l ++ k)) (by simp [stepG, stepG.exec, G, hm, hd, hx]) (by simp [stepG, stepG.exec, G, hM, hD, hX]) rfl
        · obtain ⟨o, w2, q⟩ := nope fun t q => hb ⟨t, q⟩
          rw [q] at e; cases e
      | region i ops draw =>
        cases draw with
        | false => exact same (.inRegion ops (List.range ops.size) :: l) (.inRegion ops (List.range ops.size) :: (l ++ k)) (by simp [stepG, stepG.exec, G, hm, hd]) (by simp [stepG, stepG.exec, G, hM, hD]) rfl
        | true =>
          have e1 : stepG P main (G fr cs) w = .go (G { fr with todo := .inRegion ops (Region.schedule (P.follows .mixedOrders) ops (w.tape w.drawn (.order fr.fn i))) :: l } cs) { w with drawn := w.drawn + 1 } := by simp [stepG, stepG.exec, G, hm, hd, choose, Sem.run, Question.forced, Question.cut]
          have e2 : stepG P main (G (fr.more k) cs2) w = .go (G { fr.more k with todo := .inRegion ops (Region.schedule (P.follows .mixedOrders) ops (w.tape w.drawn (.order fr.fn i))) :: (l ++ k) } cs2) { w with drawn := w.drawn + 1 } := by
            have hfn : (fr.more k).fn = fr.fn := rfl
            simp [stepG, stepG.exec, G, hM, hD, hfn, choose, Sem.run, Question.forced, Question.cut]
          rw [e1] at e
          obtain ⟨rfl, rfl, rfl, rfl⟩ := G_eq e
          exact .inl ⟨rfl, by rw [e2]; rfl⟩
      | _ => exact h0.elim
    | inRegion ops todo =>
      cases todo with
      | nil => exact same l (l ++ k) (by simp [stepG, stepG.exec, G, hm, hd]) (by simp [stepG, stepG.exec, G, hM, hD]) rfl
      | cons i rest =>
        have hWt : Wt fr := ⟨ops, i, rest, l, hd⟩
        cases hwt : ((ops[i]?).map (Region.wanted · (yielded ops fr.tmps))).getD false with
        | false =>
          have hwT : ((ops[i]?).map (Region.wanted · (yielded ops (fr.more k).tmps))).getD false = false := hwt
          have e1 : stepG P main (G fr cs) w = .go (G (fr.finish Go.undef) cs) w := by simp [stepG, stepG.exec, G, hm, hd, hwt]
          have e2 : stepG P main (G (fr.more k) cs2) w = .go (G ((fr.more k).finish Go.undef) cs2) w := by simp [stepG, stepG.exec, G, hM, hD, hwT]
          rw [e1] at e
          obtain ⟨rfl, rfl, rfl, rfl⟩ := G_eq e
          exact .inl ⟨rfl, by rw [e2, more_finish hWt]⟩
        | true =>
          have hwT : ((ops[i]?).map (Region.wanted · (yielded ops (fr.more k).tmps))).getD false = true := hwt
          cases ho : ops[i]? with
          | none => rw [ho] at hwt; cases hwt
          | some o =>
            have hop : OpOK P o.op := h0 o (Array.mem_of_getElem? ho)
            have er : fr.oper? = some o := by simp [Frame.oper?, hd, ho]
            have eR : (fr.more k).oper? = some o := by simp [Frame.oper?, hD, ho]
            have hev : (fr.more k).eval = fr.eval := more_eval fr k
            have hfn : (fr.more k).fn = fr.fn := rfl
            have hsm := sim_execOp (Shd := Shd) hS hZ (f := fr.eval) (g := Fr.eval) (fun x hx => h.eval x hx) (fun _ => rfl) (fun _ => rfl) o hop w W hw ht
            have dead : ∀ {o2 : Outcome} {w2 : World} {es2 : Array Event}, stepG P main (G fr cs) w = .ended o2 w2 es2 → (cs1 = cs ∧ stepG P main (G (fr.more k) cs2) w = .go (G (fr'.more k) cs2) w' es) ∨ (cs1 = fr :: cs ∧ Wt fr ∧ stepG P main (G (fr.more k) cs2) w = .go (G fr' (fr.more k :: cs2)) w' es) := by
              intro o2 w2 es2 q
              rw [q] at e
              cases e
            cases hr : (execOp fr.eval o).run P w with
            | halt x w1 =>
              have hx := hsm.1 _ _ hr
              cases x with
              | panic v =>
                have e1 : stepG P main (G fr cs) w = .go (G (fr.raise [{ v, recovered := false }]) cs) w1 (seen P fr.fn ((execOp fr.eval o).events P w #[])) := by simp [stepG, stepG.exec, G, hm, hd, hwt, stepG.oper, er, h.round, stepG.apply, hr, h.kind, GStep.after]
                rw [e1] at e
                obtain ⟨rfl, rfl, rfl, rfl⟩ := G_eq e
                obtain ⟨ch, hc⟩ := raise_mode fr [{ v, recovered := false }]
                exact absurd hc (hp ch)
              | stuck t => exact dead (w2 := w1) (es2 := seen P fr.fn ((execOp fr.eval o).events P w #[])) (by simp [stepG, stepG.exec, G, hm, hd, hwt, stepG.oper, er, h.round, stepG.apply, hr, h.kind, GStep.after]; rfl)
              | unsupported u =>
                cases u with
                | initOrder _ => exact hx.elim
                | _ => exact dead (w2 := w1) (es2 := seen P fr.fn ((execOp fr.eval o).events P w #[])) (by simp [stepG, stepG.exec, G, hm, hd, hwt, stepG.oper, er, h.round, stepG.apply, hr, h.kind, GStep.after]; rfl)
              | _ => exact hx.elim
            | ok a w1 =>
              obtain ⟨R', b, W', -, q, -⟩ := hsm.2 _ _ hr
              cases q with
              | value hv =>
                rename_i v V
                have e1 : stepG P main (G fr cs) w = .go (G (fr.finish v) cs) w1 (seen P fr.fn ((execOp fr.eval o).events P w #[])) := by simp [stepG, stepG.exec, G, hm, hd, hwt, stepG.oper, er, h.round, stepG.apply, hr, h.kind, GStep.after]
                have e2 : stepG P main (G (fr.more k) cs2) w = .go (G ((fr.more k).finish v) cs2) w1 (seen P fr.fn ((execOp fr.eval o).events P w #[])) := by simp [stepG, stepG.exec, G, hM, hD, hwT, stepG.oper, eR, hR, stepG.apply, hev, hfn, hr, hK, GStep.after]
                rw [e1] at e
                obtain ⟨rfl, rfl, rfl, rfl⟩ := G_eq e
                exact .inl ⟨rfl, by rw [e2, more_finish hWt]⟩
              | skip =>
                have e1 : stepG P main (G fr cs) w = .go (G (fr.finish Go.undef) cs) w1 (seen P fr.fn ((execOp fr.eval o).events P w #[])) := by simp [stepG, stepG.exec, G, hm, hd, hwt, stepG.oper, er, h.round, stepG.apply, hr, h.kind, GStep.after]
                have e2 : stepG P main (G (fr.more k) cs2) w = .go (G ((fr.more k).finish Go.undef) cs2) w1 (seen P fr.fn ((execOp fr.eval o).events P w #[])) := by simp [stepG, stepG.exec, G, hM, hD, hwT, stepG.oper, eR, hR, stepG.apply, hev, hfn, hr, hK, GStep.after]
                rw [e1] at e
                obtain ⟨rfl, rfl, rfl, rfl⟩ := G_eq e
                exact .inl ⟨rfl, by rw [e2, more_finish hWt]⟩
              | enter f hf hv =>
                rename_i x X
                have e1 : stepG P main (G fr cs) w = .go (G (Frame.enter P f x .normal) (fr :: cs)) w1 (seen P fr.fn ((execOp fr.eval o).events P w #[])) := by simp [stepG, stepG.exec, G, hm, hd, hwt, stepG.oper, er, h.round, stepG.apply, hr, h.kind, GStep.after]
                have e2 : stepG P main (G (fr.more k) cs2) w = .go (G (Frame.enter P f x .normal) (fr.more k :: cs2)) w1 (seen P fr.fn ((execOp fr.eval o).events P w #[])) := by simp [stepG, stepG.exec, G, hM, hD, hwT, stepG.oper, eR, hR, stepG.apply, hev, hfn, hr, hK, GStep.after]
                rw [e1] at e
                obtain ⟨rfl, rfl, rfl, rfl⟩ := G_eq e
                exact .inr ⟨rfl, hWt, e2⟩
    | _ => exact h0.elim

/-- The last of the frames has more to do. -/
def mF (k : List Item) (fr : Frame) : List Frame → Frame
  | [] => fr.more k
  | _ => fr
def mC (k : List Item) : List Frame → List Frame
  | [] => []
  | c :: cs => mF k c cs :: mC k cs

theorem step_more (hS : ∀ b, ¬ Shd b) (hZ : ZeroOK P) {fr Fr fr' : Frame} {cs Cs cs' K : List Frame} {w W w' : World} {es : Array Event} {main : Bool} (k : List Item) (h : FR P R fr Fr) (hcs : FRs P R cs Cs) (hw : WR P Shd R w W) (ht : ∀ j q, w.tape (w.drawn + j) q = W.tape (W.drawn + j) q)
    (hwt : ∀ c ∈ cs, Wt c) (hst : cs = [] → fr.mode = .run ∧ fr.todo ≠ []) (e : stepG P main (G fr (cs ++ K)) w = .go (G fr' (cs' ++ K)) w' es) (hp : ∀ ch, fr'.mode ≠ .panicking ch) :
    stepG P main (G (mF k fr cs) (mC k cs ++ K)) w = .go (G (mF k fr' cs') (mC k cs' ++ K)) w' es ∧ ∀ c ∈ cs', Wt c := by
  cases cs with
  | nil =>
    obtain ⟨h1, h2⟩ := hst rfl
    rcases own_more hS hZ (cs2 := K) k h hw ht h1 h2 e hp with ⟨e1, e2⟩ | ⟨e1, e2, e3⟩
    · have : cs' = [] := List.append_cancel_right e1
      subst this
      exact ⟨e2, hwt⟩
    · have : cs' = [fr] := List.append_cancel_right (bs := K) e1
      subst this
      exact ⟨e3, fun c hc => by simp at hc; subst hc; exact e2⟩
  | cons c cs =>
    rcases h.modes with hm | hm
    · by_cases hne : fr.todo = []
      · have e1 : ∀ X, stepG P main (G fr X) w = .go (G { fr with mode := .returning } X) w := fun X => by simp [stepG, stepG.exec, G, hm, hne, h.round]
        rw [e1] at e
        obtain ⟨rfl, hc, rfl, rfl⟩ := G_eq e
        have : c :: cs = cs' := List.append_cancel_right hc
        subst this
        exact ⟨e1 _, hwt⟩
      · rcases own_more hS hZ (cs2 := mC k (c :: cs) ++ K) [] h hw ht hm hne e hp with ⟨e1, e2⟩ | ⟨e1, e2, e3⟩
        · have : cs' = c :: cs := List.append_cancel_right e1
          subst this
          rw [more_nil, more_nil] at e2
          exact ⟨e2, hwt⟩
        · have : cs' = fr :: c :: cs := List.append_cancel_right (bs := K) e1
          subst this
          rw [more_nil] at e3
          exact ⟨e3, fun x hx => by
            rcases List.mem_cons.1 hx with rfl | hx
            · exact e2
            · exact hwt x hx⟩
    · obtain ⟨fn, hf⟩ := h.func
      have key : ∀ (c : Frame) (X : List Frame) (v : Value) (w1 : World), (results fn fr.tmps).run P w = .ok v w1 → stepG P main (G fr (c :: X)) w = .go (G (c.finish v) X) w1 (seen P fr.fn ((results fn fr.tmps).events P w #[])) := by
        intro c X v w1 hr
        simp [stepG, G, hm, unwind, h.defers, hf, hr, doReturn, h.kind, GStep.after]
      cases hr : (results fn fr.tmps).run P w with
      | halt x w1 =>
        have : ∃ o w2 es2, stepG P main (G fr (c :: cs ++ K)) w = .ended o w2 es2 := by
          cases x with
          | stuck t => exact ⟨_, w1, _, by simp [stepG, G, hm, unwind, h.defers, hf, hr, GStep.after]; exact ⟨rfl, rfl⟩⟩
          | _ => exact ⟨_, w1, _, by simp [stepG, G, hm, unwind, h.defers, hf, hr, GStep.after]; exact ⟨rfl, rfl⟩⟩
        obtain ⟨o, w2, es2, q⟩ := this
        rw [q] at e; cases e
      | ok v w1 =>
        have e1 := key c (cs ++ K) v w1 hr
        rw [show c :: cs ++ K = c :: (cs ++ K) from rfl, e1] at e
        obtain ⟨rfl, hc, rfl, rfl⟩ := G_eq e
        have : cs = cs' := List.append_cancel_right hc
        subst this
        have hc0 := hwt c (List.mem_cons_self ..)
        refine ⟨?_, fun x hx => hwt x (List.mem_cons_of_mem _ hx)⟩
        have e2 := key (mF k c cs) (mC k cs ++ K) v w1 hr
        show stepG P main (G fr (mF k c cs :: (mC k cs ++ K))) w = _
        rw [e2]
        cases cs with
        | nil => simp only [mF]; rw [more_finish hc0]
        | cons d cs => rfl
end Go.Sim

/-
  A piece of a frame's code, or all that is left of it, by the lone walk: in company.
-/
namespace Go.Proofs.Ytlndinigbppafaa
open Go.Sim Go.Conc Go.Fi

section
variable {Gl : Array Goroutine → World → Option (Nat × Nat) → Trace → Prop} {n : Nat}

/-- A PIECE BY ITS LONE RUN, with more to do behind it. -/
theorem Can.runS {St : Frame → List Frame → World → Prop} (hSt : ∀ fr cs w, St fr cs w → cs = [] ∧ fr.mode = .run) {k : List Item} {K : List Frame} {fr : Frame} {cs : List Frame} {w : World} (h : RunS Try.prog St fr cs w) :
    ∀ {R : BR} {Fr : Frame} {Cs : List Frame} {W : World}, FR Try.prog R fr Fr → FRs Try.prog R cs Cs → WR Try.prog NoShd R w W → (∀ c ∈ cs, Wt c) →
      (∀ {R' : BR} {fr' Fr' : Frame} {w' W' : World}, (∀ b B, R b B → R' b B) → FR Try.prog R' fr' Fr' → St fr' [] w' → WR Try.prog NoShd R' w' W' → Can Gl n (G (fr'.more k) K) w') → Can Gl n (G (mF k fr cs) (mC k cs ++ K)) w := by
  induction h with
  | @fin fr cs w hf =>
    intro R Fr Cs W h1 h2 h3 _ hk
    obtain ⟨rfl, hm⟩ := hSt _ _ _ hf
    exact hk (fun _ _ h => h) h1 hf h3
  | @step fr cs w hns hn hex hst ih =>
    intro R Fr Cs W h1 h2 h3 h4 hk
    refine Can.step rfl fun w₁ hE => ?_
    have hw1 : WR Try.prog NoShd R (w.tp (Sim.mt w₁ w)) (W.tp (Sim.mt (w.tp (Sim.mt w₁ w)) W)) := h3.tp _ _
    have htt : ∀ j q, (w.tp (Sim.mt w₁ w)).tape ((w.tp (Sim.mt w₁ w)).drawn + j) q = (W.tp (Sim.mt (w.tp (Sim.mt w₁ w)) W)).tape ((W.tp (Sim.mt (w.tp (Sim.mt w₁ w)) W)).drawn + j) q := fun j q => by show _ = Sim.mt (w.tp (Sim.mt w₁ w)) W (W.drawn + j) q; simp [Sim.mt, World.tp]
    have hnn : fr.mode = .returning → cs ≠ [] := fun hm hc => hn ⟨hm, hc⟩
    have bad : ¬ Bad (P := Try.prog) fr cs := runS_bad (fun fr cs w ch q hp => by rw [(hSt _ _ _ q).2] at hp; cases hp) (.step hns hn hex hst)
    rcases step_sim noShd zeroOK bodiesOK (c0 := c0 Try.prog) (K := []) h1 h2 hw1 htt hnn true true with hs | hf
    · obtain ⟨fr', cs', w', e, R', Fr', Cs', W', Es, _, f1, f2, f3, x, _, _⟩ := hs
      have hnp : ∀ ch, fr'.mode ≠ .panicking ch := fun ch hc => by rcases f1.modes with q | q <;> rw [q] at hc <;> cases hc
      have hco := step_co noShd zeroOK h1 h2 hw1 htt hnn e hnp
      obtain ⟨es, g1, g2⟩ := hco.go K true w₁.tape w₁.drawn fun j q _ => by
        show w₁.tape (w₁.drawn + j) q = Sim.mt w₁ w (w.drawn + j) q
        simp [Sim.mt]
      have hww : (w.tp (Sim.mt w₁ w)).td w₁.tape w₁.drawn = w₁ := by rw [hE.td]; rfl
      rw [hww] at g1
      have hwA : WR Try.prog NoShd R w₁ (W.tp (Sim.mt w₁ W)) := by
        refine ⟨fun b B hb => ?_, h3.inj, fun b hb => hb.elim, h3.low, ?_, h3.glob.2⟩
        · rw [hE.heap]; exact h3.dom b B hb
        · rw [hE.heap]; exact h3.glob.1
      have hstop : cs = [] → fr.mode = .run ∧ fr.todo ≠ [] := by
        intro hc
        have hm : fr.mode = .run := h1.modes.resolve_right fun q => hn ⟨q, hc⟩
        refine ⟨hm, fun ht => ?_⟩
        subst hc
        have e2 : ∀ τ, (stepG Try.prog true (G fr ([] ++ [c0 Try.prog])) (w.tp τ)).bare = .go (G { fr with mode := .returning } ([] ++ [c0 Try.prog])) (w.tp τ) := fun τ => by simp [stepG, stepG.exec, G, hm, ht, h1.round]
        have := hst w.tape _ _ _ (e2 w.tape)
        cases this with
        | fin q => have := (hSt _ _ _ q).2; cases this
        | step _ q _ _ => exact q ⟨rfl, rfl⟩
      obtain ⟨m1, m2⟩ := step_more noShd zeroOK k h1 h2 hwA (fun j q => by show _ = Sim.mt w₁ W (W.drawn + j) q; simp [Sim.mt]) h4 hstop g1 hnp
      refine ⟨_, _, es, m1, g2, ?_, ?_⟩
      · have := hco.size
        show w₁.heap.size ≤ w'.heap.size
        rw [hE.heap]
        exact this
      · exact (ih (Sim.mt w₁ w) fr' cs' w' e f1 f2 f3 m2 fun s1 q1 q2 q3 => hk (fun b B hb => s1 _ _ (x.sub _ _ hb)) q1 q2 q3).eqv (eqv_td _ _ _)
    · exfalso
      rcases hf with ⟨fr1, w1, hs, hp, hd, hfn⟩ | ⟨o, w1, hs⟩
      · exact runS_bad (fun fr cs w ch q hp => by rw [(hSt _ _ _ q).2] at hp; cases hp) (hst (Sim.mt w₁ w) fr1 cs w1 hs) ⟨hp, hd, hfn, h2.bad⟩
      · obtain ⟨fr', cs', w', e⟩ := hex (Sim.mt w₁ w)
        rw [hs] at e
        cases e

theorem fr_self {f : FuncId} {fn : Func} {c : Code} {a : Act} {D : Nat → Prop} (hf : Try.prog.funcs[f]? = some fn) (hc : CodeOK Try.prog c) (htm : ∀ v ∈ a.tmps, Vs D v) (hd : a.defers = []) : FR Try.prog (idOn D) ((base f).at a [.code c]) ((base f).at a [.code c]) := by
  have htm' : VRs Try.prog (idOn D) a.tmps a.tmps := by
    refine ⟨rfl, fun i v V e1 e2 => ?_⟩
    rw [e1] at e2; cases e2
    exact htm v (Array.mem_of_getElem? e1)
  have hit : ∀ it ∈ ((base f).at a [.code c]).todo, ItemOK Try.prog it := by
    intro it hit
    have : it = .code c := by simpa [Frame.at] using hit
    subst this
    exact hc
  exact { fn := rfl, tmps := htm', todo := rfl, items := hit, defers := hd, defers' := hd, mode := rfl, modes := .inl rfl, kind := rfl, kind' := rfl, round := rfl, round' := rfl, func := ⟨fn, hf⟩ }

/-- A PIECE OF CODE, BY THE LONE WALK. -/
theorem Can.piece {f : FuncId} {fn : Func} {c : Code} {a : Act} {w : World} {D : Nat → Prop} {k : List Item} {K : List Frame} {Q : Act → World → Prop} (hf : Try.prog.funcs[f]? = some fn) (hc : CodeOK Try.prog c) (htm : ∀ v ∈ a.tmps, Vs D v) (hd : a.defers = []) (hw : Sf D w)
    (hQ : ∀ a w τ, Q a w → Q a (w.tp τ)) (hwp : ∀ τ, c.wp Try.prog (fun e a' w' => e = .normal ∧ Q a' w') a (w.tp τ))
    (hK : ∀ {D' : Nat → Prop} {a' : Act} {w' : World}, (∀ b, D b → D' b) → (∀ v ∈ a'.tmps, Vs D' v) → a'.defers = [] → Sf D' w' → Q a' w' → Can Gl n (G ((base f).at a' k) K) w') : Can Gl n (G ((base f).at a (.code c :: k)) K) w := by
  have hF := fr_self hf hc htm hd
  have hRel : Rel Try.prog NoShd ((base f).at a [.code c]) [] w := ⟨_, _, [], w, hF, trivial, hw⟩
  have hrun : RunS Try.prog (fun fr cs w => cs = [] ∧ ∃ a', fr = (base f).at a' [] ∧ Q a' w) ((base f).at a [.code c]) [] w := by
    refine runS_of_good noShd zeroOK bodiesOK (fun fr cs w ch q hp => ?_) (fun fr cs w τ q => ?_) hRel fun τ => ?_
    · obtain ⟨_, a', rfl, _⟩ := q
      cases hp
    · obtain ⟨q1, a', q2, q3⟩ := q
      exact ⟨q1, a', q2, hQ _ _ _ q3⟩
    · obtain ⟨e, a', w', hq, harr⟩ := hwp τ (base f) [] [c0 Try.prog]
      obtain ⟨rfl, hq⟩ := hq
      obtain ⟨m, hm⟩ := harr
      refine ⟨m, endsS_of_run noShd zeroOK bodiesOK (fun fr cs w ch q hp => ?_) (fr' := (base f).at a' []) (w' := w') ⟨rfl, a', rfl, hq⟩ m (hRel.tp τ) hm⟩
      obtain ⟨_, a', rfl, _⟩ := q
      cases hp
  refine Can.runS (k := k) (K := K) (fun fr cs w q => ?_) hrun (Cs := []) hF trivial hw (fun c hc => by cases hc) ?_
  · obtain ⟨q1, a', rfl, _⟩ := q
    exact ⟨q1, rfl⟩
  · intro R' fr' Fr' w' W' s1 f1 q hw'
    obtain ⟨_, a', rfl, hq⟩ := q
    exact hK (D' := domR R') (fun b hb => ⟨b, s1 b b ⟨rfl, hb⟩⟩) (fun v hv => by
      obtain ⟨i, hi, rfl⟩ := Array.mem_iff_getElem.1 hv
      exact (vrs_self f1.tmps).2 i _ _ (Array.getElem?_eq_getElem hi) (Array.getElem?_eq_getElem hi)) f1.defers (wr_self hw') hq

/-- ALL THAT IS LEFT OF A FRAME, BY THE LONE WALK, and back to the caller. -/
theorem Can.restK {f : FuncId} {fn : Func} {c : Code} {a : Act} {w : World} {D : Nat → Prop} {Q : Value → World → Prop} {b₀ : Frame} {a₀ : Act} {ops : Array Oper} {i : Nat} {rest : List Nat} {k : List Item} {cs : List Frame} (hf : Try.prog.funcs[f]? = some fn) (hc : CodeOK Try.prog c) (htm : ∀ v ∈ a.tmps, Vs D v) (hd : a.defers = []) (hw : Sf D w) (hres : ∀ r ∈ fn.results, ∃ t, r = .tmp t)
    (hQ : ∀ v w τ, Q v w → Q v (w.tp τ))
    (hwp : ∀ τ, c.wp Try.prog (bodyPost Try.prog fn fun e w' => match e with | .returned v => Q v w' | _ => False) a (w.tp τ))
    (hK : ∀ {D' : Nat → Prop} {v : Value} {w' : World}, (∀ b, D b → D' b) → Vs D' v → Sf D' w' → Q v w' → Can Gl n (G (b₀.at (a₀.put ((ops[i]?).bind (·.dst)) v) (.inRegion ops rest :: k)) cs) w') :
    Can Gl n (G ((base f).at a [.code c]) (b₀.at a₀ (.inRegion ops (i :: rest) :: k) :: cs)) w := by
  have hF := fr_self hf hc htm hd
  have hRel : Rel Try.prog NoShd ((base f).at a [.code c]) [] w := ⟨_, _, [], w, hF, trivial, hw⟩
  have hrun : Run Try.prog (FinQ Try.prog Q) ((base f).at a [.code c]) [] w := by
    refine run_of_good noShd zeroOK bodiesOK (fun fr w τ h => ?_) hRel fun τ => ?_
    · obtain ⟨v, fn, h1, hr, h2, h3⟩ := h
      exact ⟨v, fn, h1, hr, h2, hQ v w _ h3⟩
    · obtain ⟨e, a', w', hq, harr⟩ := hwp τ (base f) [] [c0 Try.prog]
      have fin : ∀ {todo : List Item} {v : Value}, Steps Try.prog (lone ((base f).at a [.code c]) [c0 Try.prog] (w.tp τ)) (lone { (base f).at a' todo with mode := .returning } [c0 Try.prog] w') → (results fn a'.tmps).run Try.prog w' = .ok v w' → Q v w' →
          ∃ n, EndsG Try.prog (FinQ Try.prog Q) n ((base f).at a [.code c]) [] (w.tp τ) := by
        intro todo v hs hr hp
        obtain ⟨m, hm⟩ := hs
        obtain ⟨v', hv'⟩ := results_pure hres a'.tmps
        rw [hv'] at hr
        cases hr
        exact ⟨m, endsG_of_run noShd zeroOK bodiesOK (fr' := { (base f).at a' todo with mode := .returning }) (w' := w') rfl ⟨_, fn, hf, hres, hv', hp⟩ m (hRel.tp τ) hm⟩
      cases e with
      | normal =>
        obtain ⟨_, v, hr, hp⟩ := hq
        exact fin (Steps.trans harr (.one step_end)) hr hp
      | ret =>
        obtain ⟨_, v, hr, hp⟩ := hq
        obtain ⟨todo, hs⟩ := harr
        exact fin hs hr hp
      | panic ch => exact hq.2.elim
      | outgrown => exact hq.elim
      | exit _ => exact hq.elim
      | goto _ => exact hq.elim
  refine Can.run (cs := []) (K := b₀.at a₀ (.inRegion ops (i :: rest) :: k) :: cs) hrun (Cs := []) hF trivial hw ?_
  intro R' fr' Fr' w' W' s1 f1 hm hfin hw'
  obtain ⟨v, fn2, e1, hr2, e2, hq⟩ := hfin
  obtain ⟨v2, V, hv, e3, _⟩ := results_run hr2 f1.tmps
  rw [e2] at e3
  cases e3
  refine Can.pure (g' := G (b₀.at (a₀.put ((ops[i]?).bind (·.dst)) v) (.inRegion ops rest :: k)) cs) rfl (fun w => ?_) (hK (D' := domR R') (fun b hb => ⟨b, s1 b b ⟨rfl, hb⟩⟩) (vr_self hv) (wr_self hw') hq)
  rw [← Frame.finish_at]
  simp [stepG, G, hm, unwind, f1.defers, e1, e2, doReturn, f1.kind, seen, GStep.after]
end
end Go.Proofs.Ytlndinigbppafaa

/-
  A frame some of whose slots hold what lies outside the simulation (slices that came in from elsewhere, addresses of their elements), which are only measured and read: the checks, and its steps on the rest.
-/
namespace Go.Sim
open Go.Conc (G)
variable {P : Program} {Shd : Nat → Prop} {R : BR}

/-- The operands of an operation that is borne. -/
def opnds : Op → List Operand
  | .move x | .assign x | .box _ x | .load _ x | .nilCheck x | .unOp _ _ x | .convert _ _ x | .makeInterface _ x | .field _ x _ | .fieldAddr _ x _ | .extract x _ | .panic x => [x]
  | .pick a b c => [a, b, c]
  | .build _ parts => parts.toList.map (·.2)
  | .buildSlice _ _ parts => parts.toList.map (·.2)
  | .store _ a x => [a, x]
  | .binOp _ _ x y _ => [x, y]
  | .makeFunc _ a b => a.toList ++ b.toList
  | .slice _ x lo hi mx => x :: (lo.toList ++ (hi.toList ++ mx.toList))
  | .indexAddr _ x i | .index _ x i => [x, i]
  | .makeSlice _ l c => [l, c]
  | .call c => c.args.toList ++ (match c.callee with | .value f => [f] | .invoke r _ => [r] | .builtin _ => [])
  | _ => []

theorem amap_congr {α β : Type} {f g : α → β} {l : Array α} (h : ∀ x ∈ l.toList, f x = g x) : l.map f = l.map g := by
  apply Array.ext'
  simp only [Array.toList_map]
  exact List.map_congr_left h
theorem omap_congr {α β : Type} {f g : α → β} {l : Option α} (h : ∀ x ∈ l.toList, f x = g x) : l.map f = l.map g := by
  cases l with
  | none => rfl
  | some x => simp only [Option.map_some, Option.some.injEq]; exact h x (by simp)

theorem execOp_congr {f g : Operand → Value} (o : Oper) (ho : OpOK P o.op) (h : ∀ x ∈ opnds o.op, f x = g x) : execOp f o = execOp g o := by
  unfold execOp
  cases hop : o.op with
  | build t parts =>
    rw [hop] at h
    have : (parts.map fun (i, x) => (i, f x)) = parts.map fun (i, x) => (i, g x) := amap_congr fun p hp => by
      have := h p.2 (List.mem_map.2 ⟨p, hp, rfl⟩)
      simp only [this]
    dsimp only
    rw [this]
  | buildSlice t n parts =>
    rw [hop] at h
    have : (parts.map fun (i, x) => (i, f x)) = parts.map fun (i, x) => (i, g x) := amap_congr fun p hp => by
      have := h p.2 (List.mem_map.2 ⟨p, hp, rfl⟩)
      simp only [this]
    dsimp only
    rw [this]
  | makeFunc fn a b =>
    rw [hop] at h
    have e1 : a.map f = a.map g := amap_congr fun x hx => h x (List.mem_append_left _ hx)
    have e2 : b.map f = b.map g := amap_congr fun x hx => h x (List.mem_append_right _ hx)
    dsimp only
    rw [e1, e2]
  | slice t x lo hi mx =>
    rw [hop] at h
    have e0 := h x (List.mem_cons_self ..)
    have e1 : lo.map f = lo.map g := omap_congr fun y hy => h y (List.mem_cons_of_mem _ (List.mem_append_left _ hy))
    have e2 : hi.map f = hi.map g := omap_congr fun y hy => h y (List.mem_cons_of_mem _ (List.mem_append_right _ (List.mem_append_left _ hy)))
    have e3 : mx.map f = mx.map g := omap_congr fun y hy => h y (List.mem_cons_of_mem _ (List.mem_append_right _ (List.mem_append_right _ hy)))
    dsimp only
    rw [e0, e1, e2, e3]
  | call c =>
    rw [hop] at h
    have e1 : c.args.map f = c.args.map g := amap_congr fun x hx => h x (List.mem_append_left _ hx)
    dsimp only
    have e2 : resolve f c o.type = resolve g c o.type := by
      unfold resolve
      rw [e1]
      cases hc : c.callee with
      | builtin b => rfl
      | value fv => have := h fv (List.mem_append_right _ (by rw [hc]; exact List.mem_singleton.2 rfl)); simp only [this]
      | invoke r n => have := h r (List.mem_append_right _ (by rw [hc]; exact List.mem_singleton.2 rfl)); simp only [this]
    rw [e2]
  | move x => rw [hop] at h; simp only [h x (by simp [opnds])]
  | assign x => rw [hop] at h; simp only [h x (by simp [opnds])]
  | pick c a b => rw [hop] at h; simp only [h c (by simp [opnds]), h a (by simp [opnds]), h b (by simp [opnds])]
  | alloc t => rfl
  | box t x => rw [hop] at h; simp only [h x (by simp [opnds])]
  | load t x => rw [hop] at h; simp only [h x (by simp [opnds])]
  | store t a x => rw [hop] at h; simp only [h x (by simp [opnds]), h a (by simp [opnds])]
  | nilCheck x => rw [hop] at h; simp only [h x (by simp [opnds])]
  | binOp op t x y ty => rw [hop] at h; simp only [h x (by simp [opnds]), h y (by simp [opnds])]
  | unOp op t x => rw [hop] at h; simp only [h x (by simp [opnds])]
  | convert a b x => rw [hop] at h; simp only [h x (by simp [opnds])]
  | makeInterface t x => rw [hop] at h; simp only [h x (by simp [opnds])]
  | makeSlice t l c => rw [hop] at h; simp only [h l (by simp [opnds]), h c (by simp [opnds])]
  | fieldAddr s x i => rw [hop] at h; simp only [h x (by simp [opnds])]
  | field t x i => rw [hop] at h; simp only [h x (by simp [opnds])]
  | indexAddr t x i => rw [hop] at h; simp only [h x (by simp [opnds]), h i (by simp [opnds])]
  | index t x i => rw [hop] at h; simp only [h x (by simp [opnds]), h i (by simp [opnds])]
  | extract x i => rw [hop] at h; simp only [h x (by simp [opnds])]
  | panic x => rw [hop] at h; simp only [h x (by simp [opnds])]
  | _ => rw [hop] at ho; all_goals exact ho.elim

/-- 0: a slot as any other; 1: it may hold a slice from elsewhere; 2: the address of an element of one. -/
abbrev Rl := Nat → Nat
def rolesOf (m1 m2 : List Nat) : Rl := fun i => if m1.contains i then 1 else if m2.contains i then 2 else 0
def pOpd (rl : Rl) : Operand → Bool
  | .tmp t => rl t == 0
  | _ => true
def pDst (rl : Rl) : Option Tmp → Bool
  | some d => rl d == 0
  | none => true
def plainO (rl : Rl) (o : Oper) : Bool := (opnds o.op).all (pOpd rl) && pDst rl o.dst
def oneB (P : Program) (t : TypeId) : Bool := match P.underlying t with
  | some (.slice e) => (match P.info? e with | some i => i.size == 1 | none => false)
  | _ => false
def scalB (P : Program) (t : TypeId) : Bool := match P.underlying t with
  | some .string | some (.int _) => true
  | _ => false
def dstIs (rl : Rl) (n : Nat) : Option Tmp → Bool
  | some d => rl d == n
  | none => false
/-- An operation on such slots. -/
inductive SpcO (P : Program) (rl : Rl) (o : Oper) : Prop
  | copy (x : Tmp) : (o.op = .move (.tmp x) ∨ o.op = .assign (.tmp x)) → rl x = 1 → dstIs rl 1 o.dst = true → SpcO P rl o
  | len (x : Tmp) (t : TypeId) : o.op = .call { callee := .builtin .len, args := #[.tmp x], argTypes := #[t] } → rl x = 1 → (∃ e, P.underlying t = some (.slice e)) → pDst rl o.dst = true → SpcO P rl o
  | adr (t : TypeId) (x : Tmp) (y : Operand) : o.op = .indexAddr t (.tmp x) y → rl x = 1 → pOpd rl y = true → OperandOK P y → oneB P t = true → dstIs rl 2 o.dst = true → SpcO P rl o
  | get (t : TypeId) (x : Tmp) : o.op = .load t (.tmp x) → rl x = 2 → scalB P t = true → pDst rl o.dst = true → SpcO P rl o
def guardOK (rl : Rl) (ops : Array Oper) (o : Oper) : Bool := match o.guard with
  | none => true
  | some (j, _) => pDst rl ((ops[j]?).bind (·.dst))
def OpsR (P : Program) (rl : Rl) (ops : Array Oper) : Prop := ∀ o ∈ ops, guardOK rl ops o = true ∧ (plainO rl o = true ∨ SpcO P rl o)
def CodeR (P : Program) (rl : Rl) : Code → Prop
  | .region _ ops _ => OpsR P rl ops
  | .seq a b => CodeR P rl a ∧ CodeR P rl b
  | .cond c a b => pOpd rl c = true ∧ CodeR P rl a ∧ CodeR P rl b
  | .block _ c | .loop c | .scope c => CodeR P rl c
  | _ => True
def ItemR (P : Program) (rl : Rl) : Item → Prop
  | .code c => CodeR P rl c
  | .inLoop c => CodeR P rl c
  | .inRegion ops _ => OpsR P rl ops
  | _ => True

/-- The slots, with what lies in those of a role. -/
def ovL (rl : Rl) (sv : Nat → Value) : Nat → List Value → List Value
  | _, [] => []
  | i, v :: l => (if rl i == 0 then v else sv i) :: ovL rl sv (i + 1) l
def ov (rl : Rl) (sv : Nat → Value) (t : Array Value) : Array Value := (ovL rl sv 0 t.toList).toArray
theorem ovL_get (rl : Rl) (sv : Nat → Value) : ∀ (l : List Value) (k i : Nat), (ovL rl sv k l)[i]? = (l[i]?).map fun v => if rl (k + i) == 0 then v else sv (k + i)
  | [], k, i => by simp [ovL]
  | v :: l, k, 0 => by simp [ovL]
  | v :: l, k, i + 1 => by simp only [ovL, List.getElem?_cons_succ]; rw [ovL_get rl sv l (k + 1) i, show k + 1 + i = k + (i + 1) by omega]
theorem ov_get (rl : Rl) (sv : Nat → Value) (t : Array Value) (i : Nat) : (ov rl sv t)[i]? = (t[i]?).map fun v => if rl i == 0 then v else sv i := by
  unfold ov
  rw [List.getElem?_toArray, ovL_get]
  simp
theorem ov_size (rl : Rl) (sv : Nat → Value) (t : Array Value) : (ov rl sv t).size = t.size := by
  have K : ∀ (l : List Value) (k : Nat), (ovL rl sv k l).length = l.length := by
    intro l
    induction l with
    | nil => intro k; rfl
    | cons v l ih => intro k; simp [ovL, ih]
  unfold ov
  simp [K]
theorem ov_getD {rl : Rl} {sv : Nat → Value} {t : Array Value} {i : Nat} (h : rl i = 0) : (ov rl sv t).getD i Go.undef = t.getD i Go.undef := by
  rw [Array.getD_eq_getD_getElem?, Array.getD_eq_getD_getElem?, ov_get]
  cases t[i]? <;> simp [h]
theorem ov_set {rl : Rl} {sv : Nat → Value} {t : Array Value} {d : Nat} {v : Value} (h : rl d = 0) : ov rl sv (t.setIfInBounds d v) = (ov rl sv t).setIfInBounds d v := by
  apply Array.ext_getElem?
  intro i
  rw [ov_get, Array.getElem?_setIfInBounds, Array.getElem?_setIfInBounds, ov_size, ov_get]
  by_cases hi : d = i
  · subst hi
    by_cases hd : d < t.size <;> simp [hd, h]
  · rw [if_neg hi, if_neg hi]
def upd (sv : Nat → Value) (d : Nat) (v : Value) : Nat → Value := fun i => if i = d then v else sv i
theorem ov_upd {rl : Rl} {sv : Nat → Value} {t : Array Value} {d : Nat} {v u : Value} (h : rl d ≠ 0) : ov rl (upd sv d v) (t.setIfInBounds d u) = (ov rl sv t).setIfInBounds d v := by
  apply Array.ext_getElem?
  intro i
  rw [ov_get, Array.getElem?_setIfInBounds, Array.getElem?_setIfInBounds, ov_size, ov_get]
  by_cases hi : d = i
  · subst hi
    by_cases hd : d < t.size <;> simp [hd, h, upd]
  · rw [if_neg hi, if_neg hi]
    simp [upd, Ne.symm hi]

/-- The frame with more to do, and its slots of a role. -/
def _root_.Go.Frame.ex (fr : Frame) (rl : Rl) (sv : Nat → Value) (k : List Item) : Frame := { fr with tmps := ov rl sv fr.tmps, todo := fr.todo ++ k }
theorem ex_eval {fr : Frame} {rl : Rl} {sv : Nat → Value} {k : List Item} {x : Operand} (h : pOpd rl x = true) : (fr.ex rl sv k).eval x = fr.eval x := by
  cases x with
  | tmp t => exact ov_getD (by simpa [pOpd] using h)
  | _ => rfl
theorem ex_finish {fr : Frame} {rl : Rl} {sv : Nat → Value} {k : List Item} {ops : Array Oper} {i : Nat} {rest : List Nat} {l : List Item} (hd : fr.todo = .inRegion ops (i :: rest) :: l) (hp : pDst rl ((ops[i]?).bind (·.dst)) = true) (v : Value) : (fr.ex rl sv k).finish v = (fr.finish v).ex rl sv k := by
  unfold Frame.finish Frame.ex
  simp only [hd, List.cons_append]
  cases hx : (ops[i]?).bind (·.dst) with
  | none => rfl
  | some d =>
    rw [hx] at hp
    dsimp only
    rw [ov_set (by simpa [pDst] using hp)]
theorem ex_finish2 {fr : Frame} {rl : Rl} {sv : Nat → Value} {k : List Item} {ops : Array Oper} {i : Nat} {rest : List Nat} {l : List Item} (hd : fr.todo = .inRegion ops (i :: rest) :: l) {d : Nat} (hx : (ops[i]?).bind (·.dst) = some d) (hr : rl d ≠ 0) (v : Value) : (fr.ex rl sv k).finish v = (fr.finish Go.undef).ex rl (upd sv d v) k := by
  unfold Frame.finish Frame.ex
  simp only [hd, List.cons_append, hx]
  rw [ov_upd hr]
theorem wanted_ex {rl : Rl} {sv : Nat → Value} {ops : Array Oper} {o : Oper} {t : Array Value} (h : guardOK rl ops o = true) : Region.wanted o (yielded ops (ov rl sv t)) = Region.wanted o (yielded ops t) := by
  unfold guardOK at h
  unfold Region.wanted
  cases hg : o.guard with
  | none => rfl
  | some p =>
    obtain ⟨j, b⟩ := p
    rw [hg] at h
    dsimp only at h ⊢
    have : yielded ops (ov rl sv t) j = yielded ops t j := by
      unfold yielded
      cases hd : (ops[j]?).bind (·.dst) with
      | none => rfl
      | some d =>
        rw [hd] at h
        have h0 : rl d = 0 := by simpa [pDst] using h
        simp only [Option.bind_some]
        rw [ov_get]
        cases t[d]? <;> simp [h0]
    rw [this]
theorem ex_nil (fr : Frame) (sv : Nat → Value) : fr.ex (fun _ => 0) sv [] = fr := by
  have : ov (fun _ => 0) sv fr.tmps = fr.tmps := by
    apply Array.ext_getElem?
    intro i
    rw [ov_get]
    cases fr.tmps[i]? <;> simp
  cases fr
  simp only [Frame.ex, List.append_nil] at this ⊢
  rw [this]
end Go.Sim

/-
  An own step of such a frame on its other slots: the same step.
-/
namespace Go.Sim
open Go.Conc (G)
variable {P : Program} {Shd : Nat → Prop} {R : BR}

/-- The operation that stands ahead touches no slot of a role. -/
def PlainAt (rl : Rl) (fr : Frame) : Prop := ∀ ops i rest l o, fr.todo = .inRegion ops (i :: rest) :: l → ops[i]? = some o → plainO rl o = true

theorem plainO_opd {rl : Rl} {o : Oper} (h : plainO rl o = true) : ∀ x ∈ opnds o.op, pOpd rl x = true := by
  unfold plainO at h
  rw [Bool.and_eq_true, List.all_eq_true] at h
  exact h.1
theorem plainO_dst {rl : Rl} {o : Oper} (h : plainO rl o = true) : pDst rl o.dst = true := by
  unfold plainO at h
  rw [Bool.and_eq_true] at h
  exact h.2

/-- An own step, and what there is to do behind it. -/
theorem own_ex (hS : ∀ b, ¬ Shd b) (hZ : ZeroOK P) {fr Fr fr' : Frame} {cs cs1 : List Frame} {w W w' : World} {es : Array Event} {main : Bool} (rl : Rl) (h : FR P R fr Fr) (hw : WR P Shd R w W) (ht : ∀ j q, w.tape (w.drawn + j) q = W.tape (W.drawn + j) q)
    (hm : fr.mode = .run) (hne : fr.todo ≠ []) (hit : ∀ it ∈ fr.todo, ItemR P rl it) (hpl : PlainAt rl fr) (e : stepG P main (G fr cs) w = .go (G fr' cs1) w' es) (hp : ∀ ch, fr'.mode ≠ .panicking ch) :
    (cs1 = cs ∧ (∀ it ∈ fr'.todo, ItemR P rl it) ∧ ∀ sv k cs2 main, stepG P main (G (fr.ex rl sv k) cs2) w = .go (G (fr'.ex rl sv k) cs2) w' es) ∨
    (cs1 = fr :: cs ∧ (∃ ops i rest l, fr.todo = .inRegion ops (i :: rest) :: l ∧ pDst rl ((ops[i]?).bind (·.dst)) = true) ∧ ∀ sv k cs2 main, stepG P main (G (fr.ex rl sv k) cs2) w = .go (G fr' (fr.ex rl sv k :: cs2)) w' es) := by
  have same : ∀ (l : List Item), (∀ it ∈ l, ItemR P rl it) → stepG P main (G fr cs) w = .go (G { fr with todo := l } cs) w → (∀ sv k cs2 main, stepG P main (G (fr.ex rl sv k) cs2) w = .go (G { fr.ex rl sv k with todo := l ++ k } cs2) w) →
      (cs1 = cs ∧ (∀ it ∈ fr'.todo, ItemR P rl it) ∧ ∀ sv k cs2 main, stepG P main (G (fr.ex rl sv k) cs2) w = .go (G (fr'.ex rl sv k) cs2) w' es) ∨
      (cs1 = fr :: cs ∧ (∃ ops i rest l, fr.todo = .inRegion ops (i :: rest) :: l ∧ pDst rl ((ops[i]?).bind (·.dst)) = true) ∧ ∀ sv k cs2 main, stepG P main (G (fr.ex rl sv k) cs2) w = .go (G fr' (fr.ex rl sv k :: cs2)) w' es) := by
    intro l hl e1 e2
    rw [e1] at e
    obtain ⟨rfl, rfl, rfl, rfl⟩ := G_eq e
    exact .inl ⟨rfl, hl, fun sv k cs2 main => by rw [e2]; rfl⟩
  have hi := h.items
  have hM : ∀ sv k, (fr.ex rl sv k).mode = .run := fun _ _ => hm
  have hR : ∀ sv k, (fr.ex rl sv k).roundOf = none := fun _ _ => h.round
  have hK : ∀ sv k, (fr.ex rl sv k).kind = .normal := fun _ _ => h.kind
  have hfn : ∀ sv k, (fr.ex rl sv k).fn = fr.fn := fun _ _ => rfl
  cases hd : fr.todo with
  | nil => exact absurd hd hne
  | cons it l =>
    have hD : ∀ sv k, (fr.ex rl sv k).todo = it :: (l ++ k) := fun sv k => by simp [Frame.ex, hd]
    rw [hd] at hi
    have hit' := hit
    rw [hd] at hit'
    have h0 := hi it (List.mem_cons_self ..)
    have r0 := hit' it (List.mem_cons_self ..)
    have rl' : ∀ x ∈ l, ItemR P rl x := fun x hx => hit' x (List.mem_cons_of_mem _ hx)
    have cons : ∀ {a : Item} {l : List Item}, ItemR P rl a → (∀ x ∈ l, ItemR P rl x) → ∀ x ∈ a :: l, ItemR P rl x := by
      intro a l ha hl x hx
      rcases List.mem_cons.1 hx with rfl | hx
      · exact ha
      · exact hl x hx
    rw [← hd]
    cases it with
    | inBlock i => exact same l rl' (by simp [stepG, stepG.exec, G, hm, hd]) fun sv k cs2 main => (by simp [stepG, stepG.exec, G, hM, hD])
    | inScope c => exact same l rl' (by simp [stepG, stepG.exec, G, hm, hd]) fun sv k cs2 main => (by simp [stepG, stepG.exec, G, hM, hD])
    | inLoop c => exact same (.code c :: .inLoop c :: l) (cons r0 (cons r0 rl')) (by simp [stepG, stepG.exec, G, hm, hd]) fun sv k cs2 main => (by simp [stepG, stepG.exec, G, hM, hD])
    | code c =>
      cases c with
      | ret =>
        have e1 : stepG P main (G fr cs) w = .go (G { fr with mode := .returning } cs) w := by simp [stepG, stepG.exec, G, hm, hd, h.round]
        rw [e1] at e
        obtain ⟨rfl, rfl, rfl, rfl⟩ := G_eq e
        refine .inl ⟨rfl, hit, fun sv k cs2 main => ?_⟩
        have e2 : stepG P main (G (fr.ex rl sv k) cs2) w = .go (G { fr.ex rl sv k with mode := .returning } cs2) w := by simp [stepG, stepG.exec, G, hM, hD, hR]
        rw [e2]; rfl
      | skip => exact same l rl' (by simp [stepG, stepG.exec, G, hm, hd]) fun sv k cs2 main => (by simp [stepG, stepG.exec, G, hM, hD])
      | label _ => exact same l rl' (by simp [stepG, stepG.exec, G, hm, hd]) fun sv k cs2 main => (by simp [stepG, stepG.exec, G, hM, hD])
      | seq a b => exact same (.code a :: .code b :: l) (cons r0.1 (cons r0.2 rl')) (by simp [stepG, stepG.exec, G, hm, hd]) fun sv k cs2 main => (by simp [stepG, stepG.exec, G, hM, hD])
      | block i c => exact same (.code c :: .inBlock i :: l) (cons r0 (cons trivial rl')) (by simp [stepG, stepG.exec, G, hm, hd]) fun sv k cs2 main => (by simp [stepG, stepG.exec, G, hM, hD])
      | scope c => exact same (.code c :: .inScope c :: l) (cons r0 (cons trivial rl')) (by simp [stepG, stepG.exec, G, hm, hd]) fun sv k cs2 main => (by simp [stepG, stepG.exec, G, hM, hD])
      | loop c => exact same (.code c :: .inLoop c :: l) (cons r0 (cons r0 rl')) (by simp [stepG, stepG.exec, G, hm, hd]) fun sv k cs2 main => (by simp [stepG, stepG.exec, G, hM, hD])
      | exit i =>
        cases he : exitTo i l with
        | some l' => exact same l' (fun x hx => rl' x (exitTo_mem he x hx)) (by simp [stepG, stepG.exec, G, hm, hd, he]) fun sv k cs2 main => (by simp [stepG, stepG.exec, G, hM, hD, exitTo_more k he])
        | none =>
          have : ∃ o w2, stepG P main (G fr cs) w = .ended o w2 := ⟨_, w, by simp [stepG, stepG.exec, G, hm, hd, he, h.round]; rfl⟩
          obtain ⟨o, w2, q⟩ := this
          rw [q] at e; cases e
      | cond c a b =>
        have hX : ∀ sv k, (fr.ex rl sv k).eval c = fr.eval c := fun sv k => ex_eval r0.1
        generalize hx : fr.eval c = v at hX
        have nope : (∀ t, v ≠ .bool t) → ∃ o w2, stepG P main (G fr cs) w = .ended o w2 := by
          intro hb
          cases v <;> first | exact absurd rfl (hb _) | exact ⟨_, w, by simp [stepG, stepG.exec, G, hm, hd, hx]; rfl⟩
        by_cases hb : ∃ t, v = .bool t
        · obtain ⟨t, rfl⟩ := hb
          exact same (.code (if t then a else b) :: l) (cons (by cases t; exact r0.2.2; exact r0.2.1) rl') (by simp [stepG, stepG.exec, G, hm, hd, hx]) fun sv k cs2 main => (by simp [stepG, stepG.exec, G, hM, hD, hX])
        · obtain ⟨o, w2, q⟩ := nope fun t q => hb ⟨t, q⟩
          rw [q] at e; cases e
      | region i ops draw =>
        cases draw with
        | false => exact same (.inRegion ops (List.range ops.size) :: l) (cons r0 rl') (by simp [stepG, stepG.exec, G, hm, hd]) fun sv k cs2 main => (by simp [stepG, stepG.exec, G, hM, hD])
        | true =>
          have e1 : stepG P main (G fr cs) w = .go (G { fr with todo := .inRegion ops (Region.schedule (P.follows .mixedOrders) ops (w.tape w.drawn (.order fr.fn i))) :: l } cs) { w with drawn := w.drawn + 1 } := by simp [stepG, stepG.exec, G, hm, hd, choose, Sem.run, Question.forced, Question.cut]
          rw [e1] at e
          obtain ⟨rfl, rfl, rfl, rfl⟩ := G_eq e
          refine .inl ⟨rfl, cons r0 rl', fun sv k cs2 main => ?_⟩
          have e2 : stepG P main (G (fr.ex rl sv k) cs2) w = .go (G { fr.ex rl sv k with todo := .inRegion ops (Region.schedule (P.follows .mixedOrders) ops (w.tape w.drawn (.order fr.fn i))) :: (l ++ k) } cs2) { w with drawn := w.drawn + 1 } := by
            simp [stepG, stepG.exec, G, hM, hD, hfn, choose, Sem.run, Question.forced, Question.cut]
          rw [e2]; rfl
      | _ => exact h0.elim
    | inRegion ops todo =>
      cases todo with
      | nil => exact same l rl' (by simp [stepG, stepG.exec, G, hm, hd]) fun sv k cs2 main => (by simp [stepG, stepG.exec, G, hM, hD])
      | cons i rest =>
        have hfi : ∀ v, ∀ it ∈ (fr.finish v).todo, ItemR P rl it := by
          intro v
          have : (fr.finish v).todo = .inRegion ops rest :: l := by simp [Frame.finish, hd]
          rw [this]
          exact cons r0 rl'
        cases hwt : ((ops[i]?).map (Region.wanted · (yielded ops fr.tmps))).getD false with
        | false =>
          have e1 : stepG P main (G fr cs) w = .go (G (fr.finish Go.undef) cs) w := by simp [stepG, stepG.exec, G, hm, hd, hwt]
          rw [e1] at e
          obtain ⟨rfl, rfl, rfl, rfl⟩ := G_eq e
          have hdst : pDst rl ((ops[i]?).bind (·.dst)) = true := by
            cases ho : ops[i]? with
            | none => rfl
            | some o => exact plainO_dst (hpl ops i rest l o hd ho)
          have hwT : ∀ sv k, ((ops[i]?).map (Region.wanted · (yielded ops (fr.ex rl sv k).tmps))).getD false = false := fun sv k => by
            cases ho : ops[i]? with
            | none => rfl
            | some o =>
              rw [ho] at hwt
              show Region.wanted o (yielded ops (ov rl sv fr.tmps)) = false
              rw [wanted_ex (r0 o (Array.mem_of_getElem? ho)).1]
              exact hwt
          refine .inl ⟨rfl, hfi _, fun sv k cs2 main => ?_⟩
          rw [← ex_finish hd hdst]
          simp [stepG, stepG.exec, G, hM, hD, hwT]
        | true =>
          cases ho : ops[i]? with
          | none => rw [ho] at hwt; cases hwt
          | some o =>
            have hwo : Region.wanted o (yielded ops fr.tmps) = true := by rw [ho] at hwt; exact hwt
            have hmem : o ∈ ops := Array.mem_of_getElem? ho
            have hpo := hpl ops i rest l o hd ho
            have hdst : pDst rl ((ops[i]?).bind (·.dst)) = true := by rw [ho]; exact plainO_dst hpo
            have hwT : ∀ sv k, ((ops[i]?).map (Region.wanted · (yielded ops (fr.ex rl sv k).tmps))).getD false = true := fun sv k => by
              rw [ho]
              show Region.wanted o (yielded ops (ov rl sv fr.tmps)) = true
              rw [wanted_ex (r0 o hmem).1]
              exact hwo
            have hop : OpOK P o.op := h0 o hmem
            have er : fr.oper? = some o := by simp [Frame.oper?, hd, ho]
            have eR : ∀ sv k, (fr.ex rl sv k).oper? = some o := fun sv k => by simp [Frame.oper?, hD, ho]
            have hev : ∀ sv k, execOp (fr.ex rl sv k).eval o = execOp fr.eval o := fun sv k => execOp_congr o hop fun x hx => ex_eval (plainO_opd hpo x hx)
            have hsm := sim_execOp (Shd := Shd) hS hZ (f := fr.eval) (g := Fr.eval) (fun x hx => h.eval x hx) (fun _ => rfl) (fun _ => rfl) o hop w W hw ht
            have dead : ∀ {o2 : Outcome} {w2 : World} {es2 : Array Event}, stepG P main (G fr cs) w ≠ .ended o2 w2 es2 := fun q => by rw [q] at e; cases e
            cases hr : (execOp fr.eval o).run P w with
            | halt x w1 =>
              have hx := hsm.1 _ _ hr
              cases x with
              | panic v =>
                have e1 : stepG P main (G fr cs) w = .go (G (fr.raise [{ v, recovered := false }]) cs) w1 (seen P fr.fn ((execOp fr.eval o).events P w #[])) := by simp [stepG, stepG.exec, G, hm, hd, hwt, stepG.oper, er, h.round, stepG.apply, hr, h.kind, GStep.after]
                rw [e1] at e
                obtain ⟨rfl, rfl, rfl, rfl⟩ := G_eq e
                obtain ⟨ch, hc⟩ := raise_mode fr [{ v, recovered := false }]
                exact absurd hc (hp ch)
              | stuck t => exact (dead (w2 := w1) (es2 := seen P fr.fn ((execOp fr.eval o).events P w #[])) (by simp [stepG, stepG.exec, G, hm, hd, hwt, stepG.oper, er, h.round, stepG.apply, hr, h.kind, GStep.after]; rfl)).elim
              | unsupported u =>
                cases u with
                | initOrder _ => exact hx.elim
                | _ => exact (dead (w2 := w1) (es2 := seen P fr.fn ((execOp fr.eval o).events P w #[])) (by simp [stepG, stepG.exec, G, hm, hd, hwt, stepG.oper, er, h.round, stepG.apply, hr, h.kind, GStep.after]; rfl)).elim
              | _ => exact hx.elim
            | ok a w1 =>
              obtain ⟨R', b, W', -, q, -⟩ := hsm.2 _ _ hr
              cases q with
              | value hv =>
                rename_i v V
                have e1 : stepG P main (G fr cs) w = .go (G (fr.finish v) cs) w1 (seen P fr.fn ((execOp fr.eval o).events P w #[])) := by simp [stepG, stepG.exec, G, hm, hd, hwt, stepG.oper, er, h.round, stepG.apply, hr, h.kind, GStep.after]
                rw [e1] at e
                obtain ⟨rfl, rfl, rfl, rfl⟩ := G_eq e
                refine .inl ⟨rfl, hfi v, fun sv k cs2 main => ?_⟩
                rw [← ex_finish hd hdst]
                simp [stepG, stepG.exec, G, hM, hD, hwT, stepG.oper, eR, hR, stepG.apply, hev, hfn, hr, hK, GStep.after]
              | skip =>
                have e1 : stepG P main (G fr cs) w = .go (G (fr.finish Go.undef) cs) w1 (seen P fr.fn ((execOp fr.eval o).events P w #[])) := by simp [stepG, stepG.exec, G, hm, hd, hwt, stepG.oper, er, h.round, stepG.apply, hr, h.kind, GStep.after]
                rw [e1] at e
                obtain ⟨rfl, rfl, rfl, rfl⟩ := G_eq e
                refine .inl ⟨rfl, hfi _, fun sv k cs2 main => ?_⟩
                rw [← ex_finish hd hdst]
                simp [stepG, stepG.exec, G, hM, hD, hwT, stepG.oper, eR, hR, stepG.apply, hev, hfn, hr, hK, GStep.after]
              | enter f hf hv =>
                rename_i x X
                have e1 : stepG P main (G fr cs) w = .go (G (Frame.enter P f x .normal) (fr :: cs)) w1 (seen P fr.fn ((execOp fr.eval o).events P w #[])) := by simp [stepG, stepG.exec, G, hm, hd, hwt, stepG.oper, er, h.round, stepG.apply, hr, h.kind, GStep.after]
                rw [e1] at e
                obtain ⟨rfl, rfl, rfl, rfl⟩ := G_eq e
                refine .inr ⟨rfl, ⟨ops, i, rest, l, hd, hdst⟩, fun sv k cs2 main => ?_⟩
                simp [stepG, stepG.exec, G, hM, hD, hwT, stepG.oper, eR, hR, stepG.apply, hev, hfn, hr, hK, GStep.after]
    | _ => exact h0.elim
end Go.Sim

/-
  A lone run up to a stop, told step by step, for any kind of states whose steps are known.
-/
namespace Go.Sim
open Go.Conc (G)
variable {P : Program}

/-- A kind of lone states, each of which that may go on makes a step to one of them, or fails. -/
structure RelA (P : Program) (Nx : Frame → List Frame → Prop) (Rl : Frame → List Frame → World → Prop) : Prop where
  tp : ∀ {fr : Frame} {cs : List Frame} {w : World}, Rl fr cs w → ∀ τ, Rl fr cs (w.tp τ)
  bad : ∀ {fr : Frame} {cs : List Frame} {w : World}, Rl fr cs w → ∀ c ∈ cs, c.defers = [] ∧ ∃ f, P.funcs[c.fn]? = some f
  step : ∀ {fr : Frame} {cs : List Frame} {w : World}, Rl fr cs w → Nx fr cs →
    (∃ fr' cs' w', (stepG P true (G fr (cs ++ [c0 P])) w).bare = .go (G fr' (cs' ++ [c0 P])) w' ∧ Rl fr' cs' w' ∧ w'.tape = w.tape ∧ w.drawn ≤ w'.drawn ∧
      ∀ τ, (∀ j q, w.drawn ≤ j → j < w'.drawn → τ j q = w.tape j q) → (stepG P true (G fr (cs ++ [c0 P])) (w.tp τ)).bare = .go (G fr' (cs' ++ [c0 P])) (w'.tp τ)) ∨
    Fails P (c0 P) cs (stepG P true (G fr (cs ++ [c0 P])) w)

/-- Behind its return the lone run never stands as it stood. -/
theorem fin_over' {fr fr' : Frame} {w w' : World} {fn : Func} (hd : fr.defers = []) (hk : fr.kind = .normal) (hf : P.funcs[fr.fn]? = some fn) (hm : fr.mode = .returning) : ∀ n, runN P (n + 1) (lone fr [c0 P] w) ≠ .next (lone fr' [c0 P] w') := by
  intro n e
  cases hr : (results fn fr.tmps).run P w with
  | halt x w1 =>
    have hs : ∃ o w2, step P (lone fr [c0 P] w) = .ended o w2 := by
      cases x with
      | stuck t => exact ⟨_, w1, step_lone_ended (by simp [stepG, hm, unwind, hd, hf, hr]; rfl)⟩
      | _ => exact ⟨_, w1, step_lone_ended (by simp [stepG, hm, unwind, hd, hf, hr]; rfl)⟩
    obtain ⟨o, w2, hs⟩ := hs
    rw [runN, hs] at e
    cases e
  | ok v w1 =>
  have hs : step P (lone fr [c0 P] w) = .next (lone ((c0 P).finish v) [] w1) := step_lone_go (by simp [stepG, hm, unwind, hd, hf, hr, doReturn, hk])
  rw [runN, hs] at e
  cases n with
  | zero =>
    simp only [runN, Stepped.next.injEq] at e
    obtain ⟨_, x, _⟩ := lone_inj e
    cases x
  | succ n =>
    have hdoor : Extern.next "fmt's door" = none := by
      have := noDoor
      cases hx : Extern.next "fmt's door" with
      | none => rfl
      | some y => rw [hx] at this; cases this
    have hs2 : ∃ o w2, step P (lone ((c0 P).finish v) [] w1) = .ended o w2 := by
      exact ⟨_, w1, step_lone_ended (by simp [c0, Frame.finish, stepG, stepG.exec, hdoor]; rfl)⟩
    obtain ⟨o, w2, hs2⟩ := hs2
    simp only [runN, hs2] at e
    cases e

/-- The run comes to a stop, told step by step. -/
def EndsX (P : Program) (Nx : Frame → List Frame → Prop) (St : Frame → List Frame → World → Prop) : Nat → Frame → List Frame → World → Prop
  | 0, fr, cs, w => St fr cs w
  | n + 1, fr, cs, w => St fr cs w ∨ (Nx fr cs ∧ ∃ fr' cs' w', (stepG P true (G fr (cs ++ [c0 P])) w).bare = .go (G fr' (cs' ++ [c0 P])) w' ∧ EndsX P Nx St n fr' cs' w')

theorem endsX_bad {Nx : Frame → List Frame → Prop} {St : Frame → List Frame → World → Prop} (hSt : ∀ fr cs w ch, St fr cs w → fr.mode ≠ .panicking ch) : ∀ (n : Nat) {fr : Frame} {cs : List Frame} {w : World}, Bad (P := P) fr cs → ¬ EndsX P Nx St n fr cs w
  | 0, fr, cs, w, hb, h => by
    obtain ⟨ch, hm⟩ := hb.mode
    exact hSt _ _ _ _ h hm
  | n + 1, fr, cs, w, hb, h => by
    obtain ⟨ch, hm⟩ := hb.mode
    obtain ⟨f, hf⟩ := hb.func
    have hc : fr.catches P = false := by unfold Frame.catches; simp [hf]
    rcases h with h | ⟨_, fr', cs', w', e, h⟩
    · exact hSt _ _ _ _ h hm
    cases cs with
    | cons c cs =>
      have hs : (stepG P true (G fr (c :: cs ++ [c0 P])) w).bare = .go (G (c.raise ch) (cs ++ [c0 P])) w := by simp [stepG, G, hm, unwind, hb.defers, hc]
      rw [hs] at e
      obtain ⟨rfl, rfl, rfl⟩ := G_inj e
      have hcc := hb.callers c (List.mem_cons_self ..)
      exact endsX_bad hSt n ⟨raise_mode _ _, by rw [raise_defers]; exact hcc.1, by rw [raise_fn]; exact hcc.2, fun x hx => hb.callers x (List.mem_cons_of_mem _ hx)⟩ h
    | nil =>
      have hs : (stepG P true (G fr ([] ++ [c0 P])) w).bare = .go (G ((c0 P).raise ch) []) w := by simp [stepG, G, hm, unwind, hb.defers, hc]
      rw [hs] at e
      simp only [GStep.go.injEq, G, Goroutine.mk.injEq] at e
      have := e.1.2.1
      simp at this

/-- Whatever the tape answers, step by step: the run comes to the stop. -/
inductive RunX (P : Program) (Nx : Frame → List Frame → Prop) (St : Frame → List Frame → World → Prop) : Frame → List Frame → World → Prop
  | fin {fr : Frame} {cs : List Frame} {w : World} : St fr cs w → RunX P Nx St fr cs w
  | step {fr : Frame} {cs : List Frame} {w : World} : ¬ St fr cs w → Nx fr cs →
      (∀ τ, ∃ fr' cs' w', (stepG P true (G fr (cs ++ [c0 P])) (w.tp τ)).bare = .go (G fr' (cs' ++ [c0 P])) w') →
      (∀ τ fr' cs' w', (stepG P true (G fr (cs ++ [c0 P])) (w.tp τ)).bare = .go (G fr' (cs' ++ [c0 P])) w' → RunX P Nx St fr' cs' w') → RunX P Nx St fr cs w

theorem runX_bad {Nx : Frame → List Frame → Prop} {St : Frame → List Frame → World → Prop} (hSt : ∀ fr cs w ch, St fr cs w → fr.mode ≠ .panicking ch) {fr : Frame} {cs : List Frame} {w : World} (h : RunX P Nx St fr cs w) : ¬ Bad (P := P) fr cs := by
  induction h with
  | fin hf =>
    intro hb
    obtain ⟨ch, hm⟩ := hb.mode
    exact hSt _ _ _ _ hf hm
  | @step fr cs w _ hn hex hst ih =>
    intro hb
    obtain ⟨ch, hm⟩ := hb.mode
    obtain ⟨f, hf⟩ := hb.func
    have hc : fr.catches P = false := by unfold Frame.catches; simp [hf]
    cases cs with
    | cons c cs =>
      have hs : (stepG P true (G fr (c :: cs ++ [c0 P])) (w.tp w.tape)).bare = .go (G (c.raise ch) (cs ++ [c0 P])) (w.tp w.tape) := by simp [stepG, G, hm, unwind, hb.defers, hc]
      have hcc := hb.callers c (List.mem_cons_self ..)
      exact ih w.tape _ _ _ hs ⟨raise_mode _ _, by rw [raise_defers]; exact hcc.1, by rw [raise_fn]; exact hcc.2, fun x hx => hb.callers x (List.mem_cons_of_mem _ hx)⟩
    | nil =>
      obtain ⟨fr', cs', w', e⟩ := hex w.tape
      have hs : (stepG P true (G fr ([] ++ [c0 P])) (w.tp w.tape)).bare = .go (G ((c0 P).raise ch) []) (w.tp w.tape) := by simp [stepG, G, hm, unwind, hb.defers, hc]
      rw [hs] at e
      simp only [GStep.go.injEq, G, Goroutine.mk.injEq] at e
      have := e.1.2.1
      simp at this

section

theorem endsX_step {Nx : Frame → List Frame → Prop} {Rl : Frame → List Frame → World → Prop} (A : RelA P Nx Rl) {St : Frame → List Frame → World → Prop} (hSt : ∀ fr cs w ch, St fr cs w → fr.mode ≠ .panicking ch) {n : Nat} {fr : Frame} {cs : List Frame} {w : World} (hr : Rl fr cs w) (hn : ¬ St fr cs w) (h : EndsX P Nx St n fr cs w) :
    ∃ m fr' cs' w', n = m + 1 ∧ Nx fr cs ∧ (stepG P true (G fr (cs ++ [c0 P])) w).bare = .go (G fr' (cs' ++ [c0 P])) w' ∧ EndsX P Nx St m fr' cs' w' ∧ Rl fr' cs' w' ∧ w'.tape = w.tape ∧ w.drawn ≤ w'.drawn ∧
      ∀ τ, (∀ j q, w.drawn ≤ j → j < w'.drawn → τ j q = w.tape j q) → (stepG P true (G fr (cs ++ [c0 P])) (w.tp τ)).bare = .go (G fr' (cs' ++ [c0 P])) (w'.tp τ) := by
  cases n with
  | zero => exact absurd h hn
  | succ n =>
    rcases h with h | ⟨hf, fr', cs', w', e, h⟩
    · exact absurd h hn
    rcases A.step hr hf with ⟨fr1, cs1, w1, e1, r1, x1, x2, tp⟩ | hfl
    · rw [e1] at e
      obtain ⟨rfl, rfl, rfl⟩ := G_inj e
      exact ⟨n, _, _, _, rfl, hf, e1, h, r1, x1, x2, tp⟩
    · exfalso
      have hbad := A.bad hr
      rcases hfl with ⟨fr1, w1, hs, hp, hd, hfn⟩ | ⟨o, w1, hs⟩
      · rw [hs] at e
        obtain ⟨rfl, rfl, rfl⟩ := G_inj e
        exact endsX_bad hSt n ⟨hp, hd, hfn, hbad⟩ h
      · rw [hs] at e; cases e

theorem endsX_tape {Nx : Frame → List Frame → Prop} {Rl : Frame → List Frame → World → Prop} (A : RelA P Nx Rl) {St : Frame → List Frame → World → Prop} (hSt : ∀ fr cs w ch, St fr cs w → fr.mode ≠ .panicking ch) (hF : ∀ fr cs w τ, St fr cs w → St fr cs (w.tp τ)) : ∀ (n : Nat) {fr : Frame} {cs : List Frame} {w : World}, Rl fr cs w → EndsX P Nx St n fr cs w →
    ∀ τ, (∀ j q, w.drawn ≤ j → τ j q = w.tape j q) → EndsX P Nx St n fr cs (w.tp τ)
  | 0, fr, cs, w, _, h, τ, _ => hF _ _ _ _ h
  | n + 1, fr, cs, w, hr, h, τ, hτ => by
    by_cases hn : St fr cs w
    · exact .inl (hF _ _ _ _ hn)
    · obtain ⟨m, fr', cs', w', em, hf, e, h', r', x1, x2, tp⟩ := endsX_step A hSt hr hn h
      cases em
      refine .inr ⟨hf, fr', cs', _, tp τ fun j q h1 _ => hτ j q h1, endsX_tape A hSt hF n r' h' τ fun j q h1 => ?_⟩
      rw [x1]; exact hτ j q (Nat.le_trans x2 h1)

theorem goodX_step {Nx : Frame → List Frame → Prop} {Rl : Frame → List Frame → World → Prop} (A : RelA P Nx Rl) {St : Frame → List Frame → World → Prop} (hSt : ∀ fr cs w ch, St fr cs w → fr.mode ≠ .panicking ch) (hF : ∀ fr cs w τ, St fr cs w → St fr cs (w.tp τ)) {fr : Frame} {cs : List Frame} {w : World} (hr : Rl fr cs w) (hn : ¬ St fr cs w) (h : ∀ τ, ∃ n, EndsX P Nx St n fr cs (w.tp τ)) (τ : Nat → Question → Nat) :
    ∃ fr' cs' w', Nx fr cs ∧ (stepG P true (G fr (cs ++ [c0 P])) (w.tp τ)).bare = .go (G fr' (cs' ++ [c0 P])) w' ∧ (∀ τ, ∃ n, EndsX P Nx St n fr' cs' (w'.tp τ)) ∧ Rl fr' cs' w' ∧ w'.tape = τ ∧ w.drawn ≤ w'.drawn ∧
      ∀ τ2, (∀ j q, w.drawn ≤ j → j < w'.drawn → τ2 j q = τ j q) → (stepG P true (G fr (cs ++ [c0 P])) (w.tp τ2)).bare = .go (G fr' (cs' ++ [c0 P])) (w'.tp τ2) := by
  have hn' : ∀ τ, ¬ St fr cs (w.tp τ) := fun τ q => hn (by have := hF _ _ _ w.tape q; exact this)
  obtain ⟨n, hE⟩ := h τ
  obtain ⟨m, fr', cs', w', em, hf, e, h', r', x1, x2, tp⟩ := endsX_step A hSt (A.tp hr τ) (hn' τ) hE
  refine ⟨fr', cs', w', hf, e, fun τ3 => ?_, r', x1, x2, fun τ2 h2 => tp τ2 h2⟩
  obtain ⟨n2, hE2⟩ := h (fun j q => if j < w'.drawn then τ j q else τ3 j q)
  obtain ⟨m2, fr2, cs2, w2, em2, _, e2, h2, r2, y1, y2, tp2⟩ := endsX_step A hSt (A.tp hr _) (hn' _) hE2
  have e3 := tp (fun j q => if j < w'.drawn then τ j q else τ3 j q) (fun j q h1 h2 => by rw [if_pos h2]; rfl)
  have : (w.tp τ).tp (fun j q => if j < w'.drawn then τ j q else τ3 j q) = w.tp (fun j q => if j < w'.drawn then τ j q else τ3 j q) := rfl
  rw [this, e2] at e3
  obtain ⟨rfl, rfl, rfl⟩ := G_inj e3
  refine ⟨m2, ?_⟩
  have := endsX_tape A hSt hF m2 r2 h2 τ3 fun j q h1 => ?_
  · exact this
  · have h1' : w'.drawn ≤ j := h1
    show τ3 j q = if j < w'.drawn then τ j q else τ3 j q
    rw [if_neg (by omega)]

theorem runX_of_good {Nx : Frame → List Frame → Prop} {Rl : Frame → List Frame → World → Prop} (A : RelA P Nx Rl) {St : Frame → List Frame → World → Prop} (hSt : ∀ fr cs w ch, St fr cs w → fr.mode ≠ .panicking ch) (hF : ∀ fr cs w τ, St fr cs w → St fr cs (w.tp τ)) {fr : Frame} {cs : List Frame} {w : World} (hr : Rl fr cs w) (h : ∀ τ, ∃ n, EndsX P Nx St n fr cs (w.tp τ)) : RunX P Nx St fr cs w := by
  apply Classical.byContradiction
  intro hnot
  let S := { σ : Frame × List Frame × World // Rl σ.1 σ.2.1 σ.2.2 ∧ (∀ τ, ∃ n, EndsX P Nx St n σ.1 σ.2.1 (σ.2.2.tp τ)) ∧ ¬ RunX P Nx St σ.1 σ.2.1 σ.2.2 }
  have nofin : ∀ σ : S, ¬ St σ.1.1 σ.1.2.1 σ.1.2.2 := fun σ hf => σ.2.2.2 (.fin hf)
  have nx : ∀ σ : S, ∃ (τ : Nat → Question → Nat) (σ' : S), σ.1.2.2.drawn ≤ σ'.1.2.2.drawn ∧
      ∀ τ2, (∀ j q, σ.1.2.2.drawn ≤ j → j < σ'.1.2.2.drawn → τ2 j q = τ j q) → (stepG P true (G σ.1.1 (σ.1.2.1 ++ [c0 P])) (σ.1.2.2.tp τ2)).bare = .go (G σ'.1.1 (σ'.1.2.1 ++ [c0 P])) (σ'.1.2.2.tp τ2) := by
    intro σ
    have hn := nofin σ
    have : ∃ τ, ∀ fr' cs' w', (stepG P true (G σ.1.1 (σ.1.2.1 ++ [c0 P])) (σ.1.2.2.tp τ)).bare = .go (G fr' (cs' ++ [c0 P])) w' → ¬ RunX P Nx St fr' cs' w' := by
      apply Classical.byContradiction
      intro hc
      have hfin : Nx σ.1.1 σ.1.2.1 := by
        obtain ⟨_, _, _, hf, _⟩ := goodX_step A hSt hF σ.2.1 hn σ.2.2.1 σ.1.2.2.tape
        exact hf
      refine σ.2.2.2 (.step hn hfin (fun τ => ?_) fun τ fr' cs' w' e => ?_)
      · obtain ⟨fr', cs', w', _, e, _⟩ := goodX_step A hSt hF σ.2.1 hn σ.2.2.1 τ
        exact ⟨fr', cs', w', e⟩
      · apply Classical.byContradiction
        intro hc2
        refine hc ⟨τ, fun fr2 cs2 w2 e2 => ?_⟩
        rw [e] at e2
        obtain ⟨rfl, rfl, rfl⟩ := G_inj e2
        exact hc2
    obtain ⟨τ, hτ⟩ := this
    obtain ⟨fr', cs', w', _, e, hg, hr', _, hd, tp⟩ := goodX_step A hSt hF σ.2.1 hn σ.2.2.1 τ
    exact ⟨τ, ⟨(fr', cs', w'), hr', hg, hτ _ _ _ e⟩, hd, tp⟩
  let s0 : S := ⟨(fr, cs, w), hr, h, hnot⟩
  let seq : Nat → S := fun n => Nat.rec s0 (fun _ σ => (nx σ).choose_spec.choose) n
  let ts : Nat → (Nat → Question → Nat) := fun i => (nx (seq i)).choose
  have hseq : ∀ i, (seq i).1.2.2.drawn ≤ (seq (i + 1)).1.2.2.drawn ∧
      ∀ τ2, (∀ j q, (seq i).1.2.2.drawn ≤ j → j < (seq (i + 1)).1.2.2.drawn → τ2 j q = ts i j q) →
        (stepG P true (G (seq i).1.1 ((seq i).1.2.1 ++ [c0 P])) ((seq i).1.2.2.tp τ2)).bare = .go (G (seq (i + 1)).1.1 ((seq (i + 1)).1.2.1 ++ [c0 P])) ((seq (i + 1)).1.2.2.tp τ2) :=
    fun i => (nx (seq i)).choose_spec.choose_spec
  have mono : ∀ i k, (seq i).1.2.2.drawn ≤ (seq (i + k)).1.2.2.drawn := by
    intro i k
    induction k with
    | zero => exact Nat.le_refl _
    | succ k ih => exact Nat.le_trans ih (hseq (i + k)).1
  let D : Nat → Nat := fun i => (seq i).1.2.2.drawn
  let star : Nat → Question → Nat := fun j q => open Classical in if h : ∃ i, D i ≤ j ∧ j < D (i + 1) then ts h.choose j q else 0
  have hstar : ∀ i j q, D i ≤ j → j < D (i + 1) → star j q = ts i j q := by
    intro i j q h1 h2
    have hex : ∃ i, D i ≤ j ∧ j < D (i + 1) := ⟨i, h1, h2⟩
    have hc := hex.choose_spec
    have heq : hex.choose = i := by
      rcases Nat.lt_trichotomy hex.choose i with hlt | heq | hgt
      · have := mono (hex.choose + 1) (i - (hex.choose + 1))
        rw [show hex.choose + 1 + (i - (hex.choose + 1)) = i by omega] at this
        have h3 : D (hex.choose + 1) ≤ D i := this
        omega
      · exact heq
      · have := mono (i + 1) (hex.choose - (i + 1))
        rw [show i + 1 + (hex.choose - (i + 1)) = hex.choose by omega] at this
        have h3 : D (i + 1) ≤ D hex.choose := this
        omega
    have e1 : star j q = ts hex.choose j q := dif_pos hex
    rw [e1, heq]
  have stepS : ∀ i, (stepG P true (G (seq i).1.1 ((seq i).1.2.1 ++ [c0 P])) ((seq i).1.2.2.tp star)).bare = .go (G (seq (i + 1)).1.1 ((seq (i + 1)).1.2.1 ++ [c0 P])) ((seq (i + 1)).1.2.2.tp star) :=
    fun i => (hseq i).2 star fun j q h1 h2 => hstar i j q h1 h2
  have nofin' : ∀ i, ¬ St (seq i).1.1 (seq i).1.2.1 ((seq i).1.2.2.tp star) := fun i q => nofin (seq i) (by have := hF _ _ _ (seq i).1.2.2.tape q; exact this)
  have no : ∀ n i, ¬ EndsX P Nx St n (seq i).1.1 (seq i).1.2.1 ((seq i).1.2.2.tp star) := by
    intro n
    induction n with
    | zero => intro i hE; exact nofin' _ hE
    | succ n ih =>
      intro i hE
      rcases hE with hE | ⟨_, fr', cs', w', e, hE⟩
      · exact nofin' _ hE
      · rw [stepS i] at e
        obtain ⟨rfl, rfl, rfl⟩ := G_inj e
        exact ih (i + 1) hE
  obtain ⟨n, hE⟩ := h star
  exact no n 0 hE

theorem endsX_of_run {Nx : Frame → List Frame → Prop} {Rl : Frame → List Frame → World → Prop} (A : RelA P Nx Rl) {St : Frame → List Frame → World → Prop} (hSt : ∀ fr cs w ch, St fr cs w → fr.mode ≠ .panicking ch) {fr' : Frame} {w' : World} (hF : St fr' [] w') (hNx : ∀ {fr : Frame} {cs : List Frame} {w : World} (n : Nat), Rl fr cs w → runN P (n + 1) (lone fr (cs ++ [c0 P]) w) = .next (lone fr' [c0 P] w') → Nx fr cs) : ∀ (n : Nat) {fr : Frame} {cs : List Frame} {w : World}, Rl fr cs w →
    runN P n (lone fr (cs ++ [c0 P]) w) = .next (lone fr' [c0 P] w') → EndsX P Nx St n fr cs w
  | 0, fr, cs, w, hr, e => by
    simp only [runN, Stepped.next.injEq] at e
    obtain ⟨rfl, hc, rfl⟩ := lone_inj e
    have : cs = [] := List.eq_nil_of_length_eq_zero (by simpa using congrArg List.length hc)
    subst this
    exact hF
  | n + 1, fr, cs, w, hr, e => by
    have hn : Nx fr cs := hNx n hr e
    rcases A.step hr hn with ⟨fr1, cs1, w1, e1, r1, _⟩ | hf
    · have hs := step_lone_go (P := P) (fr := fr) (cs := cs ++ [c0 P]) (w := w) (by exact e1)
      rw [runN, hs] at e
      exact .inr ⟨hn, fr1, cs1, w1, e1, endsX_of_run A hSt hF hNx n r1 e⟩
    · exfalso
      have hbad := A.bad hr
      rcases hf with ⟨fr1, w1, hs, hp, hd, hfn⟩ | ⟨o, w1, hs⟩
      · have := step_lone_go (P := P) (fr := fr) (cs := cs ++ [c0 P]) (w := w) (by exact hs)
        rw [runN, this] at e
        obtain ⟨ch, hm⟩ := bad_run' n ⟨hp, hd, hfn, hbad⟩ e
        exact hSt _ _ _ _ hF hm
      · have := step_lone_ended (P := P) (fr := fr) (cs := cs ++ [c0 P]) (w := w) (by exact hs)
        rw [runN, this] at e
        cases e
end
end Go.Sim

/-
  A step that fails fails with more behind it, and slots from elsewhere, as well.
-/
namespace Go.Sim
open Go.Conc (G)
variable {P : Program} {Shd : Nat → Prop} {R : BR}

theorem pDst_zero (d : Option Tmp) : pDst (fun _ => 0) d = true := by cases d <;> rfl
theorem codeR_zero : ∀ c : Code, CodeR P (fun _ => 0) c := by
  have O : ∀ ops, OpsR P (fun _ => 0) ops := by
    intro ops o ho
    refine ⟨?_, .inl ?_⟩
    · unfold guardOK
      split
      · rfl
      · exact pDst_zero _
    · unfold plainO
      rw [Bool.and_eq_true, List.all_eq_true]
      refine ⟨fun x hx => by cases x <;> rfl, by cases o.dst <;> rfl⟩
  intro c
  induction c with
  | region i ops d => exact O ops
  | seq a b ha hb => exact ⟨ha, hb⟩
  | cond c a b ha hb => exact ⟨by cases c <;> rfl, ha, hb⟩
  | block i c h => exact h
  | loop c h => exact h
  | scope c h => exact h
  | _ => trivial
theorem itemR_zero (it : Item) : ItemR P (fun _ => 0) it := by
  cases it with
  | code c => exact codeR_zero c
  | inLoop c => exact codeR_zero c
  | inRegion ops l => have := codeR_zero (P := P) (.region 0 ops false); exact this
  | _ => trivial
theorem plainAt_zero (fr : Frame) : PlainAt (fun _ => 0) fr := by
  intro ops i rest l o _ _
  unfold plainO
  rw [Bool.and_eq_true, List.all_eq_true]
  exact ⟨fun x hx => by cases x <;> rfl, by cases o.dst <;> rfl⟩

theorem fail_ex (hS : ∀ b, ¬ Shd b) (hZ : ZeroOK P) {fr Fr c0 : Frame} {cs cs2 : List Frame} {w W : World} (rl : Rl) (sv : Nat → Value) (k : List Item) (h : FR P R fr Fr) (hw : WR P Shd R w W) (ht : ∀ j q, w.tape (w.drawn + j) q = W.tape (W.drawn + j) q)
    (hm : fr.mode = .run) (hne : fr.todo ≠ []) (hit : ∀ it ∈ fr.todo, ItemR P rl it) (hpl : PlainAt rl fr) (hk : (∃ i l, fr.todo = .code (.exit i) :: l) → k = []) (e : Fails P c0 cs (stepG P true (G fr (cs ++ [c0])) w)) :
    Fails P c0 cs2 (stepG P true (G (fr.ex rl sv k) (cs2 ++ [c0])) w) := by
  have good : ∀ {fr' : Frame} {cs' : List Frame} {w' : World}, (stepG P true (G fr (cs ++ [c0])) w).bare = .go (G fr' (cs' ++ [c0])) w' → (∀ ch, fr'.mode ≠ .panicking ch) → Fails P c0 cs2 (stepG P true (G (fr.ex rl sv k) (cs2 ++ [c0])) w) := by
    intro fr' cs' w' q hq
    exfalso
    rcases e with ⟨fr1, w1, hs, ⟨ch, hp⟩, _⟩ | ⟨o, w1, hs⟩
    · rw [q] at hs
      obtain ⟨rfl, _, _⟩ := G_inj hs
      exact hq ch hp
    · rw [q] at hs; cases hs
  have run : ∀ {l : List Item}, (stepG P true (G fr (cs ++ [c0])) w).bare = .go (G { fr with todo := l } (cs ++ [c0])) w → Fails P c0 cs2 (stepG P true (G (fr.ex rl sv k) (cs2 ++ [c0])) w) := fun q => good q fun ch hc => by
    have hc' : fr.mode = .panicking ch := hc
    rw [hm] at hc'; cases hc'
  have hi := h.items
  have hM : (fr.ex rl sv k).mode = .run := hm
  have hR : (fr.ex rl sv k).roundOf = none := h.round
  have hK : (fr.ex rl sv k).kind = .normal := h.kind
  have hfn : (fr.ex rl sv k).fn = fr.fn := rfl
  cases hd : fr.todo with
  | nil => exact absurd hd hne
  | cons it l =>
    have hD : (fr.ex rl sv k).todo = it :: (l ++ k) := by simp [Frame.ex, hd]
    rw [hd] at hi
    have r0 := hit it (by rw [hd]; exact List.mem_cons_self ..)
    have h0 := hi it (List.mem_cons_self ..)
    cases it with
    | inBlock i => exact run (l := l) (by simp [stepG, stepG.exec, G, hm, hd])
    | inScope c => exact run (l := l) (by simp [stepG, stepG.exec, G, hm, hd])
    | inLoop c => exact run (l := .code c :: .inLoop c :: l) (by simp [stepG, stepG.exec, G, hm, hd])
    | code c =>
      cases c with
      | ret => exact good (fr' := { fr with mode := .returning }) (cs' := cs) (w' := w) (by simp [stepG, stepG.exec, G, hm, hd, h.round]) fun ch hc => by cases hc
      | skip => exact run (l := l) (by simp [stepG, stepG.exec, G, hm, hd])
      | label _ => exact run (l := l) (by simp [stepG, stepG.exec, G, hm, hd])
      | seq a b => exact run (l := .code a :: .code b :: l) (by simp [stepG, stepG.exec, G, hm, hd])
      | block i c => exact run (l := .code c :: .inBlock i :: l) (by simp [stepG, stepG.exec, G, hm, hd])
      | scope c => exact run (l := .code c :: .inScope c :: l) (by simp [stepG, stepG.exec, G, hm, hd])
      | loop c => exact run (l := .code c :: .inLoop c :: l) (by simp [stepG, stepG.exec, G, hm, hd])
      | exit i =>
        cases he : exitTo i l with
        | some l' => exact run (l := l') (by simp [stepG, stepG.exec, G, hm, hd, he])
        | none =>
          have hkn := hk ⟨i, l, hd⟩
          subst hkn
          rw [List.append_nil] at hD
          exact .inr ⟨_, w, by simp [stepG, stepG.exec, G, hM, hD, he, hR]; rfl⟩
      | cond c a b =>
        have hX : (fr.ex rl sv k).eval c = fr.eval c := ex_eval r0.1
        generalize hx : fr.eval c = v at hX
        by_cases hb : ∃ t, v = .bool t
        · obtain ⟨t, rfl⟩ := hb
          exact run (l := .code (if t then a else b) :: l) (by simp [stepG, stepG.exec, G, hm, hd, hx])
        · have : ∃ o, (stepG P true (G (fr.ex rl sv k) (cs2 ++ [c0])) w).bare = .ended o w := by
            cases v <;> first | exact absurd ⟨_, rfl⟩ hb | exact ⟨_, by simp [stepG, stepG.exec, G, hM, hD, hX]; rfl⟩
          obtain ⟨o, q⟩ := this
          exact .inr ⟨o, w, q⟩
      | region i ops draw =>
        cases draw with
        | false => exact run (l := .inRegion ops (List.range ops.size) :: l) (by simp [stepG, stepG.exec, G, hm, hd])
        | true =>
          exact good (fr' := { fr with todo := .inRegion ops (Region.schedule (P.follows .mixedOrders) ops (w.tape w.drawn (.order fr.fn i))) :: l }) (cs' := cs) (w' := { w with drawn := w.drawn + 1 }) (by simp [stepG, stepG.exec, G, hm, hd, choose, Sem.run, Question.forced, Question.cut]) fun ch hc => by
            have hc' : fr.mode = .panicking ch := hc
            rw [hm] at hc'; cases hc'
      | _ => exact h0.elim
    | inRegion ops todo =>
      have hfm : ∀ v ch, (fr.finish v).mode ≠ .panicking ch := fun v ch hc => by
        have : (fr.finish v).mode = fr.mode := by unfold Frame.finish; split <;> rfl
        rw [this, hm] at hc; cases hc
      cases todo with
      | nil => exact run (l := l) (by simp [stepG, stepG.exec, G, hm, hd])
      | cons i rest =>
        cases hwt : ((ops[i]?).map (Region.wanted · (yielded ops fr.tmps))).getD false with
        | false => exact good (fr' := fr.finish Go.undef) (cs' := cs) (w' := w) (by simp [stepG, stepG.exec, G, hm, hd, hwt]) (hfm _)
        | true =>
          cases ho : ops[i]? with
          | none => rw [ho] at hwt; cases hwt
          | some o =>
            have hwo : Region.wanted o (yielded ops fr.tmps) = true := by rw [ho] at hwt; exact hwt
            have hmem : o ∈ ops := Array.mem_of_getElem? ho
            have hpo := hpl ops i rest l o hd ho
            have hwT : ((ops[i]?).map (Region.wanted · (yielded ops (fr.ex rl sv k).tmps))).getD false = true := by
              rw [ho]
              show Region.wanted o (yielded ops (ov rl sv fr.tmps)) = true
              rw [wanted_ex (r0 o hmem).1]
              exact hwo
            have hop : OpOK P o.op := h0 o hmem
            have er : fr.oper? = some o := by simp [Frame.oper?, hd, ho]
            have eR : (fr.ex rl sv k).oper? = some o := by simp [Frame.oper?, hD, ho]
            have hev : execOp (fr.ex rl sv k).eval o = execOp fr.eval o := execOp_congr o hop fun x hx => ex_eval (plainO_opd hpo x hx)
            have hsm := sim_execOp (Shd := Shd) hS hZ (f := fr.eval) (g := Fr.eval) (fun x hx => h.eval x hx) (fun _ => rfl) (fun _ => rfl) o hop w W hw ht
            cases hr : (execOp fr.eval o).run P w with
            | halt x w1 =>
              have hx := hsm.1 _ _ hr
              cases x with
              | panic v =>
                refine .inl ⟨(fr.ex rl sv k).raise [{ v, recovered := false }], w1, by simp [stepG, stepG.exec, G, hM, hD, hwT, stepG.oper, eR, hR, stepG.apply, hev, hr, hK], raise_mode _ _, ?_, ?_⟩
                · rw [raise_defers]; exact h.defers
                · obtain ⟨f, hf⟩ := h.func
                  exact ⟨f, by rw [raise_fn]; exact hf⟩
              | stuck t => exact .inr ⟨_, w1, by simp [stepG, stepG.exec, G, hM, hD, hwT, stepG.oper, eR, hR, stepG.apply, hev, hr, hK]; rfl⟩
              | unsupported u =>
                cases u with
                | initOrder _ => exact hx.elim
                | _ => exact .inr ⟨_, w1, by simp [stepG, stepG.exec, G, hM, hD, hwT, stepG.oper, eR, hR, stepG.apply, hev, hr, hK]; rfl⟩
              | _ => exact hx.elim
            | ok a w1 =>
              obtain ⟨R', b, W', -, q, -⟩ := hsm.2 _ _ hr
              cases q with
              | value hv =>
                rename_i v V
                exact good (fr' := fr.finish v) (cs' := cs) (w' := w1) (by simp [stepG, stepG.exec, G, hm, hd, hwt, stepG.oper, er, h.round, stepG.apply, hr, h.kind]) (hfm _)
              | skip => exact good (fr' := fr.finish Go.undef) (cs' := cs) (w' := w1) (by simp [stepG, stepG.exec, G, hm, hd, hwt, stepG.oper, er, h.round, stepG.apply, hr, h.kind]) (hfm _)
              | enter f hf hv =>
                rename_i x X
                exact good (fr' := Frame.enter P f x .normal) (cs' := fr :: cs) (w' := w1) (by simp [stepG, stepG.exec, G, hm, hd, hwt, stepG.oper, er, h.round, stepG.apply, hr, h.kind]) fun ch hc => by cases hc
    | _ => exact h0.elim
end Go.Sim

/-
  A frame some of whose slots hold slices from elsewhere, and all that it calls: each step.
-/
namespace Go.Proofs.Ytlndinigbppafaa
open Go.Sim Go.Conc Go.Fi

abbrev FoT := Addr → Nat → Nat → Prop
/-- What an element of such a slice may be. -/
def El (v : Value) : Prop := (∃ s, v = .string s) ∨ ∃ k n, v = .int k n
def SlV (Fo : FoT) (v : Value) : Prop := v = undef ∨ (∃ l c, v = .slice none l c) ∨ ∃ A l c, Fo A l c ∧ v = .slice (some A) l c
def PtV (Fo : FoT) (v : Value) : Prop := v = undef ∨ ∃ A l c j, Fo A l c ∧ j < l ∧ v = .pointer (some (A.add j))
def SvOK (rl : Rl) (Fo : FoT) (sv : Nat → Value) : Prop := ∀ i, (rl i = 1 → SlV Fo (sv i)) ∧ (rl i = 2 → PtV Fo (sv i))
def ExtOK (Fo : FoT) (D : Nat → Prop) (w : World) : Prop := ∀ A l c, Fo A l c → 0 < l → ¬ D A.block ∧ A.block < w.heap.size ∧ ∀ j, j < l → ∃ v, w.cell? (A.add j) = some v ∧ El v

def xF (rl : Rl) (sv : Nat → Value) (k : List Item) (fr : Frame) : List Frame → Frame
  | [] => fr.ex rl sv k
  | _ :: _ => fr
def xC (rl : Rl) (sv : Nat → Value) (k : List Item) : List Frame → List Frame
  | [] => []
  | c :: cs => xF rl sv k c cs :: xC rl sv k cs
def Bt (rl : Rl) : Frame → List Frame → Prop
  | fr, [] => ∀ it ∈ fr.todo, ItemR Try.prog rl it
  | _, c :: cs => (∃ ops i rest l, c.todo = .inRegion ops (i :: rest) :: l ∧ (cs = [] → pDst rl ((ops[i]?).bind (·.dst)) = true)) ∧ Bt rl c cs

structure InvX (rl : Rl) (Fo : FoT) (D : Nat → Prop) (sv : Nat → Value) (fr : Frame) (cs : List Frame) (w : World) : Prop where
  hfr : FR Try.prog (idOn D) fr fr
  hcs : FRs Try.prog (idOn D) cs cs
  hw : Sf D w
  bt : Bt rl fr cs
  hsv : SvOK rl Fo sv
  ext : ExtOK Fo D w

/-- What is known of a step, in whatever company, with whatever behind it. -/
structure CoX (rl : Rl) (Ks : List Item → Prop) (sv : Nat → Value) (fr : Frame) (cs : List Frame) (w : World) (sv' : Nat → Value) (fr' : Frame) (cs' : List Frame) (w' : World) : Prop where
  size : w.heap.size ≤ w'.heap.size
  tape : w'.tape = w.tape
  drawn : w.drawn ≤ w'.drawn
  go : ∀ k, Ks k → ∀ K main τ d, (∀ j q, j < w'.drawn - w.drawn → τ (d + j) q = w.tape (w.drawn + j) q) → ∃ es, stepG Try.prog main (G (xF rl sv k fr cs) (xC rl sv k cs ++ K)) (w.td τ d) = .go (G (xF rl sv' k fr' cs') (xC rl sv' k cs' ++ K)) (w'.td τ (d + (w'.drawn - w.drawn))) es ∧ ∀ e ∈ es, EvF w'.heap.size e

theorem fr_own {R : BR} {fr Fr : Frame} (h : FR Try.prog R fr Fr) : FR Try.prog (idOn (domR R)) fr fr :=
  { fn := rfl, tmps := vrs_self h.tmps, todo := rfl, items := h.items, defers := h.defers, defers' := h.defers, mode := rfl, modes := h.modes, kind := h.kind, kind' := h.kind, round := h.round, round' := h.round, func := h.func }
theorem frs_own {R : BR} : ∀ {cs Cs : List Frame}, FRs Try.prog R cs Cs → FRs Try.prog (idOn (domR R)) cs cs
  | [], [], _ => trivial
  | [], _ :: _, k => k.elim
  | _ :: _, [], k => k.elim
  | _ :: _, _ :: _, k => ⟨fr_own k.1, k.2.1, frs_own k.2.2⟩

/-- A step of what stands for itself. -/
theorem self_step {D : Nat → Prop} {fr : Frame} {cs : List Frame} {w : World} (h : FR Try.prog (idOn D) fr fr) (hcs : FRs Try.prog (idOn D) cs cs) (hw : Sf D w) (hn : fr.mode = .returning → cs ≠ []) :
    (∃ (D' : Nat → Prop) (fr' : Frame) (cs' : List Frame) (w' : World), (∀ b, D b → D' b) ∧ (∀ b, D' b → D b ∨ w.heap.size ≤ b) ∧ FR Try.prog (idOn D') fr' fr' ∧ FRs Try.prog (idOn D') cs' cs' ∧ Sf D' w' ∧ (∀ b, b < w.heap.size → ¬ D b → w'.heap[b]? = w.heap[b]?) ∧
      (stepG Try.prog true (G fr (cs ++ [c0 Try.prog])) w).bare = .go (G fr' (cs' ++ [c0 Try.prog])) w' ∧ (∀ ch, fr'.mode ≠ .panicking ch) ∧ Co Try.prog fr cs w fr' cs' w') ∨
    Fails Try.prog (c0 Try.prog) cs (stepG Try.prog true (G fr (cs ++ [c0 Try.prog])) w) := by
  rcases step_sim noShd zeroOK bodiesOK (c0 := c0 Try.prog) (K := [c0 Try.prog]) h hcs hw (fun _ _ => rfl) hn true true with hs | hf
  · obtain ⟨fr', cs', w', e, R', Fr', Cs', W', Es, E, f1, f2, f3, x, _, _⟩ := hs
    have e2 := e
    rw [E] at e2
    obtain ⟨rfl, rfl, rfl⟩ := G_inj e2
    have hnp : ∀ ch, Fr'.mode ≠ .panicking ch := fun ch hc => by rcases f1.modes with q | q <;> rw [q] at hc <;> cases hc
    refine .inl ⟨domR R', Fr', Cs', W', fun b hb => ⟨b, x.sub b b ⟨rfl, hb⟩⟩, fun b hb => ?_, fr_own f1, frs_own f2, wr_self f3, fun b hb hnD => ?_, e, hnp, step_co noShd zeroOK h hcs hw (fun _ _ => rfl) hn e hnp⟩
    · obtain ⟨B, hB⟩ := hb
      rcases x.new b B hB with q | q
      · exact .inl q.2
      · exact .inr q.1
    · exact x.keep b hb fun b' hb' => absurd (hb'.1 ▸ hb'.2) hnD
  · exact .inr hf

theorem sf_td {D : Nat → Prop} {w : World} (h : Sf D w) (τ : Nat → Question → Nat) (d : Nat) : Sf D (w.td τ d) := ⟨h.dom, h.inj, h.shd, h.low, h.glob⟩

theorem bt_any {rl : Rl} {fr fr' c : Frame} {cs : List Frame} (h : Bt rl fr (c :: cs)) : Bt rl fr' (c :: cs) := h

theorem ext_keep {Fo : FoT} {D D' : Nat → Prop} {w w' : World} (h : ExtOK Fo D w) (hn : ∀ b, D' b → D b ∨ w.heap.size ≤ b) (hs : w.heap.size ≤ w'.heap.size) (hk : ∀ b, b < w.heap.size → ¬ D b → w'.heap[b]? = w.heap[b]?) : ExtOK Fo D' w' := by
  intro A l c hA hl
  obtain ⟨h1, h2, h3⟩ := h A l c hA hl
  refine ⟨fun hD => (hn _ hD).elim h1 fun q => by omega, Nat.lt_of_lt_of_le h2 hs, fun j hj => ?_⟩
  obtain ⟨v, e, hv⟩ := h3 j hj
  refine ⟨v, ?_, hv⟩
  have hb : (A.add j).block = A.block := by unfold Addr.add; split <;> rfl
  rw [← e]
  unfold World.cell?
  rw [hb, hk A.block h2 h1]

section
variable {rl : Rl} {Fo : FoT} {Ks : List Item → Prop} {D : Nat → Prop} {sv : Nat → Value} {fr : Frame} {cs : List Frame} {w : World}

/-- A step of a frame above. -/
theorem stepX_above {c : Frame} {cs : List Frame} (h : InvX rl Fo D sv fr (c :: cs) w) :
    (∃ (D' : Nat → Prop) (fr' : Frame) (cs' : List Frame) (w' : World), (∀ b, D b → D' b) ∧ (∀ b, b < w.heap.size → ¬ D b → w'.heap[b]? = w.heap[b]?) ∧ InvX rl Fo D' sv fr' cs' w' ∧ CoX rl Ks sv fr (c :: cs) w sv fr' cs' w') ∨
    Fails Try.prog (c0 Try.prog) (xC rl sv [] (c :: cs)) (stepG Try.prog true (G (xF rl sv [] fr (c :: cs)) (xC rl sv [] (c :: cs) ++ [c0 Try.prog])) w) := by
  rcases self_step h.hfr h.hcs h.hw (fun _ q => by cases q) with ⟨D', fr', cs', w', s1, s2, f1, f2, f3, kp, e, hnp, co⟩ | hf
  · left
    have ext' := ext_keep h.ext s2 co.size kp
    have mk : Bt rl fr' cs' → (∀ k K main τ d es, stepG Try.prog main (G fr (c :: cs ++ K)) (w.td τ d) = .go (G fr' (cs' ++ K)) (w'.td τ (d + (w'.drawn - w.drawn))) es → stepG Try.prog main (G fr (xC rl sv k (c :: cs) ++ K)) (w.td τ d) = .go (G (xF rl sv k fr' cs') (xC rl sv k cs' ++ K)) (w'.td τ (d + (w'.drawn - w.drawn))) es) →
        ∃ (D' : Nat → Prop) (fr' : Frame) (cs' : List Frame) (w' : World), (∀ b, D b → D' b) ∧ (∀ b, b < w.heap.size → ¬ D b → w'.heap[b]? = w.heap[b]?) ∧ InvX rl Fo D' sv fr' cs' w' ∧ CoX rl Ks sv fr (c :: cs) w sv fr' cs' w' := by
      intro hb hgo
      refine ⟨D', fr', cs', w', s1, kp, ⟨f1, f2, f3, hb, h.hsv, ext'⟩, co.size, co.tape, co.drawn, fun k _ K main τ d hτ => ?_⟩
      obtain ⟨es, g1, g2⟩ := co.go K main τ d hτ
      exact ⟨es, hgo k K main τ d es g1, g2⟩
    rcases h.hfr.modes with hm | hm
    · by_cases hne : fr.todo = []
      · have e1 : ∀ main X W, stepG Try.prog main (G fr X) W = .go (G { fr with mode := .returning } X) W := fun main X W => by simp [stepG, stepG.exec, G, hm, hne, h.hfr.round]
        rw [e1] at e
        obtain ⟨rfl, q, rfl⟩ := G_inj e
        subst q
        refine mk h.bt fun k K main τ d es g => ?_
        rw [e1] at g ⊢
        obtain ⟨_, _, q3, q4⟩ := G_eq g
        rw [← q4, q3]
        rfl
      · -- which of the two it is
        obtain ⟨es0, g0, _⟩ := co.go [c0 Try.prog] true w.tape w.drawn fun _ _ _ => rfl
        have hall := fun (K : List Frame) (main : Bool) (τ : Nat → Question → Nat) (d : Nat) (es : Array Event) (g : stepG Try.prog main (G fr (c :: cs ++ K)) (w.td τ d) = .go (G fr' (cs' ++ K)) (w'.td τ (d + (w'.drawn - w.drawn))) es) =>
          own_ex noShd zeroOK (fun _ => 0) h.hfr (sf_td h.hw τ d) (fun _ _ => rfl) hm hne (fun it _ => itemR_zero it) (plainAt_zero fr) g hnp
        rcases hall _ _ _ _ _ g0 with ⟨q1, _⟩ | ⟨q1, ⟨ops, i, rest, l, hd, _⟩, _⟩
        · have : cs' = c :: cs := List.append_cancel_right q1
          subst this
          refine mk h.bt fun k K main τ d es g => ?_
          rcases hall _ _ _ _ _ g with ⟨_, _, q2⟩ | ⟨q2, _⟩
          · have := q2 sv [] (xC rl sv k (c :: cs) ++ K) main
            rw [ex_nil, ex_nil] at this
            exact this
          · have : c :: cs = fr :: c :: cs := List.append_cancel_right (bs := K) q2
            exact absurd (congrArg List.length this) (by simp)
        · have : cs' = fr :: c :: cs := List.append_cancel_right (bs := [c0 Try.prog]) q1
          subst this
          refine mk ⟨⟨ops, i, rest, l, hd, fun q => by cases q⟩, h.bt⟩ fun k K main τ d es g => ?_
          rcases hall _ _ _ _ _ g with ⟨q2, _⟩ | ⟨_, _, q2⟩
          · have : fr :: c :: cs = c :: cs := List.append_cancel_right (bs := K) q2
            exact absurd (congrArg List.length this) (by simp)
          · have := q2 sv [] (xC rl sv k (c :: cs) ++ K) main
            rw [ex_nil] at this
            exact this
    · obtain ⟨fn, hf⟩ := h.hfr.func
      have key : ∀ (main : Bool) (c : Frame) (X : List Frame) (v : Value) (W w1 : World), (results fn fr.tmps).run Try.prog W = .ok v w1 → stepG Try.prog main (G fr (c :: X)) W = .go (G (c.finish v) X) w1 (seen Try.prog fr.fn ((results fn fr.tmps).events Try.prog W #[])) := by
        intro main c X v W w1 hr
        simp [stepG, G, hm, unwind, h.hfr.defers, hf, hr, doReturn, h.hfr.kind, GStep.after]
      have bad : ∀ (main : Bool) (X : List Frame) (W w1 : World) (x : Halt), (results fn fr.tmps).run Try.prog W = .halt x w1 → ∃ o es2, stepG Try.prog main (G fr (c :: X)) W = .ended o w1 es2 := by
        intro main X W w1 x hr
        cases x with
        | stuck t => exact ⟨_, _, by simp [stepG, G, hm, unwind, h.hfr.defers, hf, hr, GStep.after]; exact ⟨rfl, rfl⟩⟩
        | _ => exact ⟨_, _, by simp [stepG, G, hm, unwind, h.hfr.defers, hf, hr, GStep.after]; exact ⟨rfl, rfl⟩⟩
      obtain ⟨⟨ops, i, rest, l, hd, hp⟩, hb2⟩ := h.bt
      cases hr : (results fn fr.tmps).run Try.prog w with
      | halt x w1 =>
        exfalso
        obtain ⟨o, es2, q⟩ := bad true (cs ++ [c0 Try.prog]) w w1 x hr
        rw [show c :: cs ++ [c0 Try.prog] = c :: (cs ++ [c0 Try.prog]) from rfl, q] at e
        cases e
      | ok v w1 =>
        have e2 := key true c (cs ++ [c0 Try.prog]) v w w1 hr
        rw [show c :: cs ++ [c0 Try.prog] = c :: (cs ++ [c0 Try.prog]) from rfl, e2] at e
        obtain ⟨rfl, rfl, rfl⟩ := G_inj e
        have hb3 : Bt rl (c.finish v) cs := by
          cases cs with
          | nil =>
            intro it hit
            have : (c.finish v).todo = .inRegion ops rest :: l := by simp [Frame.finish, hd]
            rw [this] at hit
            rcases List.mem_cons.1 hit with rfl | hit
            · exact hb2 (.inRegion ops (i :: rest)) (by rw [hd]; exact List.mem_cons_self ..)
            · exact hb2 it (by rw [hd]; exact List.mem_cons_of_mem _ hit)
          | cons d cs => exact hb2
        refine mk hb3 fun k K main τ d es g => ?_
        show stepG Try.prog main (G fr (xF rl sv k c cs :: (xC rl sv k cs ++ K))) (w.td τ d) = _
        rw [show c :: cs ++ K = c :: (cs ++ K) from rfl] at g
        cases hr2 : (results fn fr.tmps).run Try.prog (w.td τ d) with
        | halt x w2 =>
          obtain ⟨o, es2, q⟩ := bad main (cs ++ K) _ w2 x hr2
          rw [q] at g; cases g
        | ok u w2 =>
          rw [key main c (cs ++ K) u _ w2 hr2] at g
          rw [key main (xF rl sv k c cs) (xC rl sv k cs ++ K) u _ w2 hr2]
          obtain ⟨q1, _, q3, q4⟩ := G_eq g
          rw [← q4, q3]
          cases cs with
          | nil => simp only [xF]; rw [ex_finish hd (hp rfl), q1]
          | cons d cs => simp only [xF]; rw [q1]
  · right
    rcases h.hfr.modes with hm | hm
    · by_cases hne : fr.todo = []
      · exfalso
        have e1 : (stepG Try.prog true (G fr (c :: cs ++ [c0 Try.prog])) w).bare = .go (G { fr with mode := .returning } (c :: cs ++ [c0 Try.prog])) w := by simp [stepG, stepG.exec, G, hm, hne, h.hfr.round]
        rcases hf with ⟨fr1, w1, hs, ⟨ch, hp⟩, _⟩ | ⟨o, w1, hs⟩
        · rw [e1] at hs
          obtain ⟨rfl, _, _⟩ := G_inj hs
          cases hp
        · rw [e1] at hs; cases hs
      · have := fail_ex noShd zeroOK (cs2 := xC rl sv [] (c :: cs)) (fun _ => 0) sv [] h.hfr h.hw (fun _ _ => rfl) hm hne (fun it _ => itemR_zero it) (plainAt_zero fr) (fun _ => rfl) hf
        rw [ex_nil] at this
        exact this
    · obtain ⟨fn, hfn⟩ := h.hfr.func
      cases hr : (results fn fr.tmps).run Try.prog w with
      | halt x w1 =>
        right
        cases x with
        | stuck t => exact ⟨_, w1, by simp [xF, xC, stepG, G, hm, unwind, h.hfr.defers, hfn, hr]; rfl⟩
        | _ => exact ⟨_, w1, by simp [xF, xC, stepG, G, hm, unwind, h.hfr.defers, hfn, hr]; rfl⟩
      | ok v w1 =>
        exfalso
        have e1 : (stepG Try.prog true (G fr (c :: cs ++ [c0 Try.prog])) w).bare = .go (G (c.finish v) (cs ++ [c0 Try.prog])) w1 := by simp [stepG, G, hm, unwind, h.hfr.defers, hfn, hr, doReturn, h.hfr.kind]
        rcases hf with ⟨fr1, w1, hs, ⟨ch, hp⟩, _⟩ | ⟨o, w1, hs⟩
        · rw [e1] at hs
          obtain ⟨rfl, _, _⟩ := G_inj hs
          have : (c.finish v).mode = c.mode := by unfold Frame.finish; split <;> rfl
          rw [this, h.hcs.2.1] at hp
          cases hp
        · rw [e1] at hs; cases hs
end
end Go.Proofs.Ytlndinigbppafaa

/-
  The frame itself: each step.
-/
namespace Go.Proofs.Ytlndinigbppafaa
open Go.Sim Go.Conc Go.Fi

section
variable {rl : Rl} {Fo : FoT} {D : Nat → Prop} {sv : Nat → Value} {fr : Frame} {w : World}

theorem slot_one (hsv : SvOK rl Fo sv) {x : Nat} (hx : rl x = 1) : SlV Fo ((fr.ex rl sv []).eval (.tmp x)) := by
  show SlV Fo ((ov rl sv fr.tmps).getD x undef)
  rw [Array.getD_eq_getD_getElem?, ov_get]
  cases fr.tmps[x]? with
  | none => exact .inl rfl
  | some v => simp [hx]; exact (hsv x).1 hx
theorem slot_two (hsv : SvOK rl Fo sv) {x : Nat} (hx : rl x = 2) : PtV Fo ((fr.ex rl sv []).eval (.tmp x)) := by
  show PtV Fo ((ov rl sv fr.tmps).getD x undef)
  rw [Array.getD_eq_getD_getElem?, ov_get]
  cases fr.tmps[x]? with
  | none => exact .inl rfl
  | some v => simp [hx]; exact (hsv x).2 hx

theorem vs_el {v : Value} (h : El v) : Vs D v := by
  rcases h with ⟨s, rfl⟩ | ⟨k, n, rfl⟩
  · exact VR.string s
  · exact VR.int k n

set_option maxRecDepth 100000 in
/-- An operation on such slots: its result, or its failing. -/
theorem spec_run (o : Oper) (hs : SpcO Try.prog rl o) (hsv : SvOK rl Fo sv) (hext : ExtOK Fo D w) (hfr : FR Try.prog (idOn D) fr fr) :
    Fine Try.prog (execOp (fr.ex rl sv []).eval o) ∧
    ((∃ v, (execOp (fr.ex rl sv []).eval o).run Try.prog w = .ok (.value v) w ∧ ((pDst rl o.dst = true ∧ Vs D v) ∨ (∃ d, o.dst = some d ∧ rl d = 1 ∧ SlV Fo v) ∨ (∃ d, o.dst = some d ∧ rl d = 2 ∧ PtV Fo v))) ∨
      ∃ x w1, (execOp (fr.ex rl sv []).eval o).run Try.prog w = .halt x w1 ∧ HaltOK x) := by
  have dst : ∀ {n : Nat}, dstIs rl n o.dst = true → ∃ d, o.dst = some d ∧ rl d = n := by
    intro n h
    unfold dstIs at h
    cases hd : o.dst with
    | none => rw [hd] at h; cases h
    | some d => rw [hd] at h; exact ⟨d, rfl, by simpa using h⟩
  cases hs with
  | copy x hop hx hd =>
    obtain ⟨d, e1, e2⟩ := dst hd
    have : execOp (fr.ex rl sv []).eval o = pure (.value ((fr.ex rl sv []).eval (.tmp x))) := by
      unfold execOp
      rcases hop with hop | hop <;> rw [hop]
    rw [this]
    exact ⟨Fine.pure _, .inl ⟨_, rfl, .inr (.inl ⟨d, e1, e2, slot_one hsv hx⟩)⟩⟩
  | len x t hop hx ht hd =>
    obtain ⟨e, ht⟩ := ht
    have : execOp (fr.ex rl sv []).eval o = (do pure (.value (← Builtin.len_ #[t] o.type #[(fr.ex rl sv []).eval (.tmp x)]))) := by
      unfold execOp
      rw [hop]
      simp [resolve, invoke, builtin]
    rw [this]
    refine ⟨Fine.bind (fine_blen _ _ _) fun _ => Fine.pure _, ?_⟩
    have hu : ∀ w, (underlying t).run Try.prog w = .ok (.slice e) w := fun w => by simp [underlying, program, ht, bind, Sem.bind, Sem.run, pure]
    rcases slot_one (fr := fr) hsv hx with q | ⟨l, c, q⟩ | ⟨A, l, c, _, q⟩
    · right
      rw [q]
      exact ⟨.stuck _, w, by simp [Builtin.len_, hu, undef]; rfl, trivial⟩
    · left
      rw [q]
      exact ⟨.int .i64 l, by simp [Builtin.len_, hu, goInt], .inl ⟨hd, VR.int _ _⟩⟩
    · left
      rw [q]
      exact ⟨.int .i64 l, by simp [Builtin.len_, hu, goInt], .inl ⟨hd, VR.int _ _⟩⟩
  | adr t x y hop hx hy hyo h1 hd =>
    obtain ⟨d, e1, e2⟩ := dst hd
    have : execOp (fr.ex rl sv []).eval o = (do pure (.value (← Instr.indexAt t ((fr.ex rl sv []).eval (.tmp x)) ((fr.ex rl sv []).eval y)))) := by
      unfold execOp
      rw [hop]
    rw [this]
    refine ⟨Fine.bind (fine_indexAt _ _ _) fun _ => Fine.pure _, ?_⟩
    have hyv : VR Try.prog (idOn D) ((fr.ex rl sv []).eval y) ((fr.ex rl sv []).eval y) := by rw [ex_eval hy]; exact hfr.eval y hyo
    generalize (fr.ex rl sv []).eval y = yv at hyv ⊢
    obtain ⟨e, ht⟩ : ∃ e, Try.prog.underlying t = some (.slice e) := by
      unfold oneB at h1
      split at h1
      · exact ⟨_, by assumption⟩
      · cases h1
    unfold oneB at h1
    rw [ht] at h1
    dsimp only at h1
    have hi : ∃ i, Try.prog.info? e = some i ∧ i.size = 1 := by
      cases hh : Try.prog.info? e with
      | none => rw [hh] at h1; cases h1
      | some i => rw [hh] at h1; exact ⟨i, rfl, by simpa using h1⟩
    obtain ⟨i, hi, hi1⟩ := hi
    have hu : ∀ w, (underlying t).run Try.prog w = .ok (.slice e) w := fun w => by simp [underlying, program, ht, bind, Sem.bind, Sem.run, pure]
    have hz : ∀ w, (sizeOf e).run Try.prog w = .ok 1 w := fun w => by simp [sizeOf, typeInfo, hi, hi1]
    have hb : ∀ (α : Type) (k : IntKind) (a b : Int) (w : World), ∃ x w1, (boundsPanic k a b .index : Sem α).run Try.prog w = .halt x w1 ∧ HaltOK x := fun α k a b w => dead_boundsPanic k a b .index w
    by_cases hn : ∃ k n, yv = .int k n
    · obtain ⟨k, n, rfl⟩ := hn
      rcases slot_one (fr := fr) hsv hx with q | ⟨l, c, q⟩ | ⟨A, l, c, hA, q⟩
      · right
        rw [q]
        exact ⟨.stuck _, w, by simp [Instr.indexAt, asIntOf, hu, undef]; rfl, trivial⟩
      · right
        rw [q]
        obtain ⟨x, w1, q1, q2⟩ := hb Value k n 0 w
        exact ⟨x, w1, by simp [Instr.indexAt, asIntOf, hu, q1, Result.andThen], q2⟩
      · rw [q]
        by_cases hr : 0 ≤ n ∧ n < l
        · left
          refine ⟨.pointer (some (A.add n.toNat)), by simp [Instr.indexAt, asIntOf, hu, hz, hr], .inr (.inr ⟨d, e1, e2, .inr ⟨A, l, c, n.toNat, hA, by omega, rfl⟩⟩)⟩
        · right
          obtain ⟨x, w1, q1, q2⟩ := hb Value k n l w
          exact ⟨x, w1, by simp [Instr.indexAt, asIntOf, hu, hr, q1, Result.andThen], q2⟩
    · right
      have : ∃ x w1, (asIntOf yv).run Try.prog w = .halt x w1 ∧ HaltOK x := by
        cases hyv <;> first | exact absurd ⟨_, _, rfl⟩ hn | exact ⟨_, w, rfl, trivial⟩
      obtain ⟨x, w1, q1, q2⟩ := this
      exact ⟨x, w1, by simp [Instr.indexAt, q1, Result.andThen], q2⟩
  | get t x hop hx hsc hd =>
    have : execOp (fr.ex rl sv []).eval o = (do pure (.value (← Instr.loadAt t ((fr.ex rl sv []).eval (.tmp x))))) := by
      unfold execOp
      rw [hop]
    rw [this]
    refine ⟨Fine.bind (fine_loadAt _ _) fun _ => Fine.pure _, ?_⟩
    have ha : ∀ w, (isAgg t).run Try.prog w = .ok false w := by
      intro w
      unfold scalB at hsc
      cases ht : Try.prog.underlying t with
      | none => rw [ht] at hsc; cases hsc
      | some u =>
        have hu : (underlying t).run Try.prog w = .ok u w := by simp [underlying, program, ht, bind, Sem.bind, Sem.run, pure]
        rw [ht] at hsc
        cases u <;> first | (cases hsc; done) | simp [isAgg, hu]
    rcases slot_two (fr := fr) hsv hx with q | ⟨A, l, c, j, hA, hj, q⟩
    · right
      rw [q]
      exact ⟨.stuck _, w, by simp [Instr.loadAt, Instr.sureAddr, undef]; rfl, trivial⟩
    · left
      rw [q]
      obtain ⟨v, hv, hel⟩ := (hext A l c hA (by omega)).2.2 j hj
      exact ⟨v, by simp [Instr.loadAt, Instr.sureAddr, loadVar, ha, load, Sem.run, hv], .inl ⟨hd, vs_el hel⟩⟩
end
end Go.Proofs.Ytlndinigbppafaa

/-
  A frame some of whose slots hold slices from elsewhere: a piece of its code, or all that is left of it, by the lone walk: in company.
-/
namespace Go.Proofs.Ytlndinigbppafaa
open Go.Sim Go.Conc Go.Fi

section
variable {rl : Rl} {Fo : FoT} {Ks : List Item → Prop} {D : Nat → Prop} {sv : Nat → Value} {fr : Frame} {cs : List Frame} {w : World}

theorem svOK_upd (h : SvOK rl Fo sv) {d : Nat} {v : Value} (hv : (rl d = 1 → SlV Fo v) ∧ (rl d = 2 → PtV Fo v)) : SvOK rl Fo (upd sv d v) := by
  intro i
  unfold upd
  by_cases hi : i = d
  · subst hi; rw [if_pos rfl]; exact hv
  · rw [if_neg hi]; exact h i

theorem ex_eval_any (fr : Frame) (rl : Rl) (sv : Nat → Value) (k : List Item) : (fr.ex rl sv k).eval = (fr.ex rl sv []).eval := by funext x; cases x <;> rfl

/-- A step of the frame itself. -/
theorem stepX_low (h : InvX rl Fo D sv fr [] w) (hm : fr.mode = .run) (hend : fr.todo = [] → ∀ k, Ks k → k = []) :
    (∃ (D' : Nat → Prop) (sv' : Nat → Value) (fr' : Frame) (cs' : List Frame) (w' : World), (∀ b, D b → D' b) ∧ (∀ b, b < w.heap.size → ¬ D b → w'.heap[b]? = w.heap[b]?) ∧ InvX rl Fo D' sv' fr' cs' w' ∧ CoX rl Ks sv fr [] w sv' fr' cs' w') ∨
    Fails Try.prog (c0 Try.prog) (xC rl sv [] []) (stepG Try.prog true (G (xF rl sv [] fr []) (xC rl sv [] [] ++ [c0 Try.prog])) w) := by
  by_cases hne : fr.todo = []
  · left
    refine ⟨D, sv, { fr with mode := .returning }, [], w, fun _ q => q, fun _ _ _ => rfl, ⟨h.hfr.ret, trivial, h.hw, h.bt, h.hsv, h.ext⟩, Nat.le_refl _, rfl, Nat.le_refl _, fun k hk K main τ d _ => ⟨#[], ?_, fun e he => by simp at he⟩⟩
    have hk := hend hne k hk
    subst hk
    have h1 : (fr.ex rl sv []).mode = .run := hm
    have h2 : (fr.ex rl sv []).todo = [] := by simp [Frame.ex, hne]
    have h3 : (fr.ex rl sv []).roundOf = none := h.hfr.round
    have : stepG Try.prog main (G (fr.ex rl sv []) K) (w.td τ d) = .go (G { fr.ex rl sv [] with mode := .returning } K) (w.td τ d) := by simp [stepG, stepG.exec, G, h1, h2, h3]
    show stepG Try.prog main (G (fr.ex rl sv []) K) (w.td τ d) = _
    rw [this, Nat.sub_self, Nat.add_zero]
    rfl
  by_cases hpl : PlainAt rl fr
  · rcases self_step h.hfr (cs := []) trivial h.hw (fun q => by rw [hm] at q; cases q) with ⟨D', fr', cs', w', s1, s2, f1, f2, f3, kp, e, hnp, co⟩ | hf
    · left
      have ext' := ext_keep h.ext s2 co.size kp
      have hall := fun (K : List Frame) (main : Bool) (τ : Nat → Question → Nat) (d : Nat) (es : Array Event) (g : stepG Try.prog main (G fr ([] ++ K)) (w.td τ d) = .go (G fr' (cs' ++ K)) (w'.td τ (d + (w'.drawn - w.drawn))) es) =>
        own_ex noShd zeroOK rl h.hfr (sf_td h.hw τ d) (fun _ _ => rfl) hm hne h.bt hpl g hnp
      obtain ⟨es0, g0, _⟩ := co.go [c0 Try.prog] true w.tape w.drawn fun _ _ _ => rfl
      rcases hall _ _ _ _ _ g0 with ⟨q1, q2, _⟩ | ⟨q1, ⟨ops, i, rest, l, hd, hp⟩, _⟩
      · have : cs' = [] := List.append_cancel_right q1
        subst this
        refine ⟨D', sv, fr', [], w', s1, kp, ⟨f1, f2, f3, q2, h.hsv, ext'⟩, co.size, co.tape, co.drawn, fun k _ K main τ d hτ => ?_⟩
        obtain ⟨es, g1, g2⟩ := co.go K main τ d hτ
        refine ⟨es, ?_, g2⟩
        rcases hall _ _ _ _ _ g1 with ⟨_, _, q3⟩ | ⟨q3, _⟩
        · exact q3 sv k K main
        · have : ([] : List Frame) = [fr] := List.append_cancel_right (bs := K) q3
          cases this
      · have : cs' = [fr] := List.append_cancel_right (bs := [c0 Try.prog]) q1
        subst this
        refine ⟨D', sv, fr', [fr], w', s1, kp, ⟨f1, f2, f3, ⟨⟨ops, i, rest, l, hd, fun _ => hp⟩, h.bt⟩, h.hsv, ext'⟩, co.size, co.tape, co.drawn, fun k _ K main τ d hτ => ?_⟩
        obtain ⟨es, g1, g2⟩ := co.go K main τ d hτ
        refine ⟨es, ?_, g2⟩
        rcases hall _ _ _ _ _ g1 with ⟨q3, _⟩ | ⟨_, _, q3⟩
        · have : [fr] = ([] : List Frame) := List.append_cancel_right (bs := K) q3
          cases this
        · exact q3 sv k K main
    · right
      exact fail_ex noShd zeroOK (cs2 := []) rl sv [] h.hfr h.hw (fun _ _ => rfl) hm hne h.bt hpl (fun _ => rfl) hf
  · -- an operation on slots of a role
    obtain ⟨ops, i, rest, l, o, hd, ho, hnp⟩ : ∃ ops i rest l o, fr.todo = .inRegion ops (i :: rest) :: l ∧ ops[i]? = some o ∧ ¬ plainO rl o = true := by
      apply Classical.byContradiction
      intro hc
      apply hpl
      intro ops i rest l o hd ho
      apply Classical.byContradiction
      intro hq
      exact hc ⟨ops, i, rest, l, o, hd, ho, hq⟩
    have hR : OpsR Try.prog rl ops := h.bt (.inRegion ops (i :: rest)) (by rw [hd]; exact List.mem_cons_self ..)
    have hmem : o ∈ ops := Array.mem_of_getElem? ho
    have hg := (hR o hmem).1
    have hsp : SpcO Try.prog rl o := (hR o hmem).2.resolve_left hnp
    have hdst : (ops[i]?).bind (·.dst) = o.dst := by rw [ho]; rfl
    have hM : ∀ k, (fr.ex rl sv k).mode = .run := fun _ => hm
    have hRo : ∀ k, (fr.ex rl sv k).roundOf = none := fun _ => h.hfr.round
    have hK : ∀ k, (fr.ex rl sv k).kind = .normal := fun _ => h.hfr.kind
    have hfn : ∀ k, (fr.ex rl sv k).fn = fr.fn := fun _ => rfl
    have hD : ∀ k, (fr.ex rl sv k).todo = .inRegion ops (i :: rest) :: (l ++ k) := fun k => by simp [Frame.ex, hd]
    have eR : ∀ k, (fr.ex rl sv k).oper? = some o := fun k => by simp [Frame.oper?, hD, ho]
    have hev : ∀ k, execOp (fr.ex rl sv k).eval o = execOp (fr.ex rl sv []).eval o := fun k => by rw [ex_eval_any]
    have hfin : ∀ v, ∀ it ∈ (fr.finish v).todo, ItemR Try.prog rl it := by
      intro v it hit
      have : (fr.finish v).todo = .inRegion ops rest :: l := by simp [Frame.finish, hd]
      rw [this] at hit
      rcases List.mem_cons.1 hit with rfl | hit
      · exact hR
      · exact h.bt it (by rw [hd]; exact List.mem_cons_of_mem _ hit)
    -- behind it: the slot of a role, or any other
    have next : ∀ (v : Value), ((pDst rl o.dst = true ∧ Vs D v) ∨ (∃ d, o.dst = some d ∧ rl d = 1 ∧ SlV Fo v) ∨ (∃ d, o.dst = some d ∧ rl d = 2 ∧ PtV Fo v)) →
        ∃ sv' fr', InvX rl Fo D sv' fr' [] w ∧ ∀ k, (fr.ex rl sv k).finish v = fr'.ex rl sv' k := by
      intro v hv
      rcases hv with ⟨q1, q2⟩ | ⟨d, q1, q2, q3⟩ | ⟨d, q1, q2, q3⟩
      · exact ⟨sv, fr.finish v, ⟨h.hfr.finish q2, trivial, h.hw, hfin v, h.hsv, h.ext⟩, fun k => ex_finish hd (by rw [hdst]; exact q1) v⟩
      · exact ⟨upd sv d v, fr.finish undef, ⟨h.hfr.finish VR.undef, trivial, h.hw, hfin _, svOK_upd h.hsv ⟨fun _ => q3, fun q => (by rw [q2] at q; cases q)⟩, h.ext⟩, fun k => ex_finish2 hd (by rw [hdst]; exact q1) (by rw [q2]; decide) v⟩
      · exact ⟨upd sv d v, fr.finish undef, ⟨h.hfr.finish VR.undef, trivial, h.hw, hfin _, svOK_upd h.hsv ⟨fun q => (by rw [q2] at q; cases q), fun _ => q3⟩, h.ext⟩, fun k => ex_finish2 hd (by rw [hdst]; exact q1) (by rw [q2]; decide) v⟩
    cases hwt : Region.wanted o (yielded ops fr.tmps) with
    | false =>
      left
      have hwT : ∀ k, ((ops[i]?).map (Region.wanted · (yielded ops (fr.ex rl sv k).tmps))).getD false = false := fun k => by
        rw [ho]
        show Region.wanted o (yielded ops (ov rl sv fr.tmps)) = false
        rw [wanted_ex hg]; exact hwt
      have hu : (pDst rl o.dst = true ∧ Vs D undef) ∨ (∃ d, o.dst = some d ∧ rl d = 1 ∧ SlV Fo undef) ∨ (∃ d, o.dst = some d ∧ rl d = 2 ∧ PtV Fo undef) := by
        have dst : ∀ {n : Nat}, dstIs rl n o.dst = true → ∃ d, o.dst = some d ∧ rl d = n := by
          intro n h
          unfold dstIs at h
          cases hd : o.dst with
          | none => rw [hd] at h; cases h
          | some d => rw [hd] at h; exact ⟨d, rfl, by simpa using h⟩
        cases hsp with
        | copy x _ _ hd => obtain ⟨d, q1, q2⟩ := dst hd; exact .inr (.inl ⟨d, q1, q2, .inl rfl⟩)
        | len x t _ _ _ hd => exact .inl ⟨hd, VR.undef⟩
        | adr t x y _ _ _ _ _ hd => obtain ⟨d, q1, q2⟩ := dst hd; exact .inr (.inr ⟨d, q1, q2, .inl rfl⟩)
        | get t x _ _ _ hd => exact .inl ⟨hd, VR.undef⟩
      obtain ⟨sv', fr', hI, hF⟩ := next undef hu
      refine ⟨D, sv', fr', [], w, fun _ q => q, fun _ _ _ => rfl, hI, Nat.le_refl _, rfl, Nat.le_refl _, fun k _ K main τ d _ => ⟨#[], ?_, fun e he => by simp at he⟩⟩
      have : stepG Try.prog main (G (fr.ex rl sv k) K) (w.td τ d) = .go (G ((fr.ex rl sv k).finish undef) K) (w.td τ d) := by simp [stepG, stepG.exec, G, hM, hD, hwT]
      show stepG Try.prog main (G (fr.ex rl sv k) K) (w.td τ d) = _
      rw [this, hF k, Nat.sub_self, Nat.add_zero]
      rfl
    | true =>
      have hwT : ∀ k, ((ops[i]?).map (Region.wanted · (yielded ops (fr.ex rl sv k).tmps))).getD false = true := fun k => by
        rw [ho]
        show Region.wanted o (yielded ops (ov rl sv fr.tmps)) = true
        rw [wanted_ex hg]; exact hwt
      obtain ⟨hfine, hr⟩ := spec_run o hsp h.hsv h.ext h.hfr
      rcases hr with ⟨v, hr, hv⟩ | ⟨x, w1, hr, hx⟩
      · left
        obtain ⟨sv', fr', hI, hF⟩ := next v hv
        refine ⟨D, sv', fr', [], w, fun _ q => q, fun _ _ _ => rfl, hI, Nat.le_refl _, rfl, Nat.le_refl _, fun k _ K main τ d _ => ?_⟩
        obtain ⟨_, _, _, _, h5⟩ := hfine.shift hr
        have h6 := h5 τ d fun j q hj => by rw [Nat.sub_self] at hj; omega
        rw [Nat.sub_self, Nat.add_zero] at h6
        obtain ⟨_, s2⟩ := hfine.events h6
        refine ⟨seen Try.prog fr.fn ((execOp (fr.ex rl sv []).eval o).events Try.prog (w.td τ d) #[]), ?_, fun e he => s2 e (mem_seen he)⟩
        have : stepG Try.prog main (G (fr.ex rl sv k) K) (w.td τ d) = .go (G ((fr.ex rl sv k).finish v) K) (w.td τ d) (seen Try.prog fr.fn ((execOp (fr.ex rl sv []).eval o).events Try.prog (w.td τ d) #[])) := by
          simp [stepG, stepG.exec, G, hM, hD, hwT, stepG.oper, eR, hRo, stepG.apply, hev, hfn, h6, hK, GStep.after]
        show stepG Try.prog main (G (fr.ex rl sv k) K) (w.td τ d) = _
        rw [this, hF k, Nat.sub_self, Nat.add_zero]
        rfl
      · right
        show Fails Try.prog (c0 Try.prog) [] (stepG Try.prog true (G (fr.ex rl sv []) ([] ++ [c0 Try.prog])) w)
        cases x with
        | panic v =>
          refine .inl ⟨(fr.ex rl sv []).raise [{ v, recovered := false }], w1, by simp [stepG, stepG.exec, G, hM, hD, hwT, stepG.oper, eR, hRo, stepG.apply, hr, hK], raise_mode _ _, ?_, ?_⟩
          · rw [raise_defers]; exact h.hfr.defers
          · obtain ⟨f, hf⟩ := h.hfr.func
            exact ⟨f, by rw [raise_fn]; exact hf⟩
        | stuck t => exact .inr ⟨_, w1, by simp [stepG, stepG.exec, G, hM, hD, hwT, stepG.oper, eR, hRo, stepG.apply, hr, hK]; rfl⟩
        | unsupported u =>
          cases u with
          | initOrder _ => exact hx.elim
          | _ => exact .inr ⟨_, w1, by simp [stepG, stepG.exec, G, hM, hD, hwT, stepG.oper, eR, hRo, stepG.apply, hr, hK]; rfl⟩
        | _ => exact hx.elim
end
end Go.Proofs.Ytlndinigbppafaa

/-
  Frames some of whose slots hold slices from elsewhere: the run; a piece of code; the rest of a frame; a call.
-/
namespace Go.Proofs.Ytlndinigbppafaa
open Go.Sim Go.Conc Go.Fi

/-- A lone state of such frames. -/
def RlX (rl : Rl) (Fo : FoT) (fr : Frame) (cs : List Frame) (w : World) : Prop := ∃ D sv fr0 cs0, InvX rl Fo D sv fr0 cs0 w ∧ fr = xF rl sv [] fr0 cs0 ∧ cs = xC rl sv [] cs0

section
variable {rl : Rl} {Fo : FoT} {Ks : List Item → Prop} {D : Nat → Prop} {sv : Nat → Value} {fr : Frame} {cs : List Frame} {w : World}

theorem InvX.tp (h : InvX rl Fo D sv fr cs w) (τ : Nat → Question → Nat) : InvX rl Fo D sv fr cs (w.tp τ) := ⟨h.hfr, h.hcs, ⟨h.hw.dom, h.hw.inj, h.hw.shd, h.hw.low, h.hw.glob⟩, h.bt, h.hsv, h.ext⟩
theorem xF_mode {k : List Item} : (xF rl sv k fr cs).mode = fr.mode := by cases cs <;> rfl
theorem xF_fn {k : List Item} : (xF rl sv k fr cs).fn = fr.fn := by cases cs <;> rfl
theorem xF_defers {k : List Item} : (xF rl sv k fr cs).defers = fr.defers := by cases cs <;> rfl
theorem xF_kind {k : List Item} : (xF rl sv k fr cs).kind = fr.kind := by cases cs <;> rfl
theorem xF_todo : (xF rl sv [] fr cs).todo = fr.todo := by cases cs <;> simp [xF, Frame.ex]
theorem xC_nil {k : List Item} (h : xC rl sv k cs = []) : cs = [] := by cases cs with | nil => rfl | cons _ _ => cases h
theorem xC_bad : ∀ {cs : List Frame}, FRs Try.prog (idOn D) cs cs → ∀ c ∈ xC rl sv [] cs, c.defers = [] ∧ ∃ f, Try.prog.funcs[c.fn]? = some f
  | [], _, c, hc => by cases hc
  | a :: cs, h, c, hc => by
    rcases List.mem_cons.1 hc with rfl | hc
    · exact ⟨by rw [xF_defers]; exact h.1.defers, by rw [xF_fn]; exact h.1.func⟩
    · exact xC_bad h.2.2 c hc

theorem stepX (h : InvX rl Fo D sv fr cs w) (hn : fr.mode = .returning → cs ≠ []) (hend : cs = [] → fr.todo = [] → ∀ k, Ks k → k = []) :
    (∃ (D' : Nat → Prop) (sv' : Nat → Value) (fr' : Frame) (cs' : List Frame) (w' : World), (∀ b, D b → D' b) ∧ (∀ b, b < w.heap.size → ¬ D b → w'.heap[b]? = w.heap[b]?) ∧ InvX rl Fo D' sv' fr' cs' w' ∧ CoX rl Ks sv fr cs w sv' fr' cs' w') ∨
    Fails Try.prog (c0 Try.prog) (xC rl sv [] cs) (stepG Try.prog true (G (xF rl sv [] fr cs) (xC rl sv [] cs ++ [c0 Try.prog])) w) := by
  cases cs with
  | nil => exact stepX_low h (h.hfr.modes.resolve_right fun q => absurd rfl (hn q)) (hend rfl)
  | cons c cs =>
    rcases stepX_above (Ks := Ks) h with ⟨D', fr', cs', w', a, b, c, d⟩ | hf
    · exact .inl ⟨D', sv, fr', cs', w', a, b, c, d⟩
    · exact .inr hf

theorem CoX.bare {sv' : Nat → Value} {fr' : Frame} {cs' : List Frame} {w' : World} (h : CoX rl Ks sv fr cs w sv' fr' cs' w') (h0 : Ks []) (τ : Nat → Question → Nat) (hτ : ∀ j q, w.drawn ≤ j → j < w'.drawn → τ j q = w.tape j q) :
    (stepG Try.prog true (G (xF rl sv [] fr cs) (xC rl sv [] cs ++ [c0 Try.prog])) (w.tp τ)).bare = .go (G (xF rl sv' [] fr' cs') (xC rl sv' [] cs' ++ [c0 Try.prog])) (w'.tp τ) := by
  obtain ⟨es, g, _⟩ := h.go [] h0 [c0 Try.prog] true τ w.drawn fun j q hj => hτ _ q (by omega) (by omega)
  have e1 : w.td τ w.drawn = w.tp τ := rfl
  have e2 : w'.td τ (w.drawn + (w'.drawn - w.drawn)) = w'.tp τ := by
    rw [show w.drawn + (w'.drawn - w.drawn) = w'.drawn by have := h.drawn; omega]; rfl
  rw [e1, e2] at g
  rw [g]
  rfl

/-- These states' steps are known. -/
theorem relA {Nx : Frame → List Frame → Prop} (h1 : ∀ fr cs, Nx fr cs → fr.mode = .returning → cs ≠ []) (h2 : ∀ fr cs, Nx fr cs → cs = [] → fr.todo = [] → ∀ k, Ks k → k = []) (h0 : Ks []) : RelA Try.prog Nx (RlX rl Fo) := by
  refine ⟨fun {fr cs w} h τ => ?_, fun {fr cs w} h => ?_, fun {fr cs w} h hN => ?_⟩
  · obtain ⟨D, sv, fr0, cs0, h, rfl, rfl⟩ := h
    exact ⟨D, sv, fr0, cs0, h.tp τ, rfl, rfl⟩
  · obtain ⟨D, sv, fr0, cs0, h, rfl, rfl⟩ := h
    exact xC_bad h.hcs
  · obtain ⟨D, sv, fr0, cs0, h, rfl, rfl⟩ := h
    rcases stepX (Ks := Ks) h (fun hm hc => h1 _ _ hN (by rw [xF_mode]; exact hm) (by rw [hc]; rfl)) (fun hc ht => h2 _ _ hN (by rw [hc]; rfl) (by rw [xF_todo]; exact ht)) with ⟨D', sv', fr', cs', w', _, _, hI, co⟩ | hf
    · have hb := co.bare h0 w.tape fun _ _ _ _ => rfl
      rw [show w'.tp w.tape = w' by rw [← co.tape]; rfl] at hb
      exact .inl ⟨_, _, w', hb, ⟨D', sv', fr', cs', hI, rfl, rfl⟩, co.tape, co.drawn, fun τ hτ => co.bare h0 τ hτ⟩
    · exact .inr hf

variable {Gl : Array Goroutine → World → Option (Nat × Nat) → Trace → Prop} {n : Nat}

/-- The run, with more behind it, in company. -/
theorem Can.runX {Nx : Frame → List Frame → Prop} {St : Frame → List Frame → World → Prop} (h1 : ∀ fr cs, Nx fr cs → fr.mode = .returning → cs ≠ []) (h2 : ∀ fr cs, Nx fr cs → cs = [] → fr.todo = [] → ∀ k, Ks k → k = []) (h0 : Ks []) {k : List Item} (hk : Ks k) {K : List Frame}
    (hSt : ∀ fr cs w, St fr cs w → cs = []) (hSp : ∀ fr cs w ch, St fr cs w → fr.mode ≠ .panicking ch) {fr : Frame} {cs : List Frame} {w : World} (h : RunX Try.prog Nx St fr cs w) :
    ∀ {D : Nat → Prop} {sv : Nat → Value} {fr0 : Frame} {cs0 : List Frame}, InvX rl Fo D sv fr0 cs0 w → fr = xF rl sv [] fr0 cs0 → cs = xC rl sv [] cs0 →
      (∀ {D' : Nat → Prop} {sv' : Nat → Value} {fr' : Frame} {w' : World}, (∀ b, D b → D' b) → InvX rl Fo D' sv' fr' [] w' → St (fr'.ex rl sv' []) [] w' → Can Gl n (G (fr'.ex rl sv' k) K) w') → Can Gl n (G (xF rl sv k fr0 cs0) (xC rl sv k cs0 ++ K)) w := by
  induction h with
  | @fin fr cs w hf =>
    intro D sv fr0 cs0 hI e1 e2 hK
    subst e1; subst e2
    have : cs0 = [] := xC_nil (hSt _ _ _ hf)
    subst this
    exact hK (fun _ q => q) hI hf
  | @step fr cs w hns hN hex hst ih =>
    intro D sv fr0 cs0 hI e1 e2 hK
    subst e1; subst e2
    refine Can.step rfl fun w₁ hE => ?_
    have hww : (w.tp (Sim.mt w₁ w)).td w₁.tape w₁.drawn = w₁ := by rw [hE.td]; rfl
    rcases stepX (Ks := Ks) (hI.tp (Sim.mt w₁ w)) (fun hm hc => h1 _ _ hN (by rw [xF_mode]; exact hm) (by rw [hc]; rfl)) (fun hc ht => h2 _ _ hN (by rw [hc]; rfl) (by rw [xF_todo]; exact ht)) with ⟨D', sv', fr', cs', w', s1, _, hI', co⟩ | hf
    · obtain ⟨es, g1, g2⟩ := co.go k hk K true w₁.tape w₁.drawn fun j q _ => by
        show w₁.tape (w₁.drawn + j) q = Sim.mt w₁ w (w.drawn + j) q
        simp [Sim.mt]
      rw [hww] at g1
      refine ⟨_, _, es, g1, g2, ?_, ?_⟩
      · have := co.size
        show w₁.heap.size ≤ w'.heap.size
        rw [hE.heap]
        exact this
      · have e := co.bare h0 (Sim.mt w₁ w) fun _ _ _ _ => rfl
        have hI2 : InvX rl Fo D' sv' fr' cs' (w'.tp (Sim.mt w₁ w)) := hI'.tp _
        have e' : (stepG Try.prog true (G (xF rl sv [] fr0 cs0) (xC rl sv [] cs0 ++ [c0 Try.prog])) (w.tp (Sim.mt w₁ w))).bare = .go (G (xF rl sv' [] fr' cs') (xC rl sv' [] cs' ++ [c0 Try.prog])) (w'.tp (Sim.mt w₁ w)) := e
        exact (ih (Sim.mt w₁ w) _ _ _ e' hI2 rfl rfl fun s2 q1 q2 => hK (fun b hb => s2 b (s1 b hb)) q1 q2).eqv ⟨rfl, rfl, rfl⟩
    · exfalso
      rcases hf with ⟨fr1, w1, hs, hp, hd, hfn⟩ | ⟨o, w1, hs⟩
      · exact runX_bad hSp (hst (Sim.mt w₁ w) fr1 _ w1 hs) ⟨hp, hd, hfn, xC_bad hI.hcs⟩
      · obtain ⟨fr', cs', w', e⟩ := hex (Sim.mt w₁ w)
        rw [hs] at e
        cases e

theorem invX_start {f : FuncId} {fn : Func} {c : Code} {a : Act} (hf : Try.prog.funcs[f]? = some fn) (hc : CodeOK Try.prog c) (hr : CodeR Try.prog rl c) (htm : ∀ v ∈ a.tmps, Vs D v) (hd : a.defers = []) (hw : Sf D w) (hsv : SvOK rl Fo sv) (hext : ExtOK Fo D w) : InvX rl Fo D sv ((base f).at a [.code c]) [] w :=
  ⟨fr_self hf hc htm hd, trivial, hw, fun it hit => by
    have : it = .code c := by simpa [Frame.at] using hit
    subst this
    exact hr, hsv, hext⟩

/-- A PIECE OF CODE, BY THE LONE WALK. -/
theorem Can.pieceX {f : FuncId} {fn : Func} {c : Code} {a : Act} {k : List Item} {K : List Frame} {Q : Act → World → Prop} (hf : Try.prog.funcs[f]? = some fn) (hc : CodeOK Try.prog c) (hr : CodeR Try.prog rl c) (htm : ∀ v ∈ a.tmps, Vs D v) (hd : a.defers = []) (hw : Sf D w) (hsv : SvOK rl Fo sv) (hext : ExtOK Fo D w)
    (hQ : ∀ a w τ, Q a w → Q a (w.tp τ)) (hwp : ∀ τ, c.wp Try.prog (fun e a' w' => e = .normal ∧ Q a' w') ⟨ov rl sv a.tmps, []⟩ (w.tp τ))
    (hK : ∀ {D' : Nat → Prop} {sv' : Nat → Value} {t' : Array Value} {w' : World}, (∀ b, D b → D' b) → (∀ v ∈ t', Vs D' v) → Sf D' w' → SvOK rl Fo sv' → ExtOK Fo D' w' → Q ⟨ov rl sv' t', []⟩ w' → Can Gl n (G ((base f).at ⟨ov rl sv' t', []⟩ k) K) w') : Can Gl n (G ((base f).at ⟨ov rl sv a.tmps, []⟩ (.code c :: k)) K) w := by
  have hI := invX_start (sv := sv) hf hc hr htm hd hw hsv hext
  have hx : ∀ k', ((base f).at a [.code c]).ex rl sv k' = (base f).at ⟨ov rl sv a.tmps, []⟩ (.code c :: k') := fun k' => by simp [Frame.ex, Frame.at, hd]
  let Nx : Frame → List Frame → Prop := fun fr cs => (fr.mode = .returning → cs ≠ []) ∧ (cs = [] → fr.todo ≠ [])
  let St : Frame → List Frame → World → Prop := fun fr cs w => cs = [] ∧ ∃ a', fr = (base f).at a' [] ∧ Q a' w
  have n1 : ∀ fr cs, Nx fr cs → fr.mode = .returning → cs ≠ [] := fun _ _ h => h.1
  have n2 : ∀ fr cs, Nx fr cs → cs = [] → fr.todo = [] → ∀ k : List Item, True → k = [] := fun _ _ h hc ht => absurd ht (h.2 hc)
  have sp : ∀ fr cs w ch, St fr cs w → fr.mode ≠ .panicking ch := by
    rintro fr cs w ch ⟨_, a', rfl, _⟩ hp
    cases hp
  have A := relA (rl := rl) (Fo := Fo) (Ks := fun _ => True) n1 n2 trivial
  have hRel : RlX rl Fo ((base f).at ⟨ov rl sv a.tmps, []⟩ [.code c]) [] w := ⟨D, sv, _, [], hI, (hx []).symm, rfl⟩
  have hrun : RunX Try.prog Nx St ((base f).at ⟨ov rl sv a.tmps, []⟩ [.code c]) [] w := by
    refine runX_of_good A sp (fun fr cs w τ q => ?_) hRel fun τ => ?_
    · obtain ⟨q1, a', q2, q3⟩ := q
      exact ⟨q1, a', q2, hQ _ _ _ q3⟩
    · obtain ⟨e, a', w', hq, harr⟩ := hwp τ (base f) [] [c0 Try.prog]
      obtain ⟨rfl, hq⟩ := hq
      obtain ⟨m, hm⟩ := harr
      refine ⟨m, endsX_of_run A sp (fr' := (base f).at a' []) (w' := w') ⟨rfl, a', rfl, hq⟩ (fun {fr cs w} n hr e => ?_) m (A.tp hRel τ) hm⟩
      obtain ⟨D1, sv1, fr1, cs1, hI1, rfl, rfl⟩ := hr
      obtain ⟨fn1, hf1⟩ := hI1.hfr.func
      have fo : ∀ {w : World} (n : Nat), cs1 = [] → ∀ fr2 : Frame, fr2.mode = .returning → fr2.defers = [] → fr2.kind = .normal → fr2.fn = fr1.fn → runN Try.prog (n + 1) (lone fr2 [c0 Try.prog] w) ≠ .next (lone ((base f).at a' []) [c0 Try.prog] w') :=
        fun n _ fr2 hm2 hd2 hk2 hfn2 => fin_over' (fn := fn1) hd2 hk2 (by rw [hfn2]; exact hf1) hm2 n
      refine ⟨fun hm hc => ?_, fun hc ht => ?_⟩
      · have := xC_nil hc
        subst this
        exact fo n rfl _ hm (by rw [xF_defers]; exact hI1.hfr.defers) (by rw [xF_kind]; exact hI1.hfr.kind) xF_fn e
      · have := xC_nil hc
        subst this
        rw [xF_todo] at ht
        have hm1 : (xF rl sv1 [] fr1 []).mode = .run ∨ (xF rl sv1 [] fr1 []).mode = .returning := by rw [xF_mode]; exact hI1.hfr.modes
        rcases hm1 with hm1 | hm1
        · have hs : Go.step Try.prog (lone (xF rl sv1 [] fr1 []) ([] ++ [c0 Try.prog]) w) = .next (lone { xF rl sv1 [] fr1 [] with mode := .returning } ([] ++ [c0 Try.prog]) w) := by
            have h2 : (xF rl sv1 [] fr1 []).todo = [] := by rw [xF_todo]; exact ht
            have h3 : (xF rl sv1 [] fr1 []).roundOf = none := hI1.hfr.round
            exact step_lone_go (by simp [stepG, stepG.exec, hm1, h2, h3])
          show False
          have e' := e
          rw [show xC rl sv1 [] [] ++ [c0 Try.prog] = [] ++ [c0 Try.prog] from rfl, runN, hs] at e'
          cases n with
          | zero =>
            simp only [runN, Stepped.next.injEq] at e'
            obtain ⟨q, _, _⟩ := lone_inj e'
            have := congrArg Frame.mode q
            cases this
          | succ n => exact fo n rfl { xF rl sv1 [] fr1 [] with mode := .returning } rfl hI1.hfr.defers hI1.hfr.kind rfl e'
        · exact fo n rfl _ hm1 (by rw [xF_defers]; exact hI1.hfr.defers) (by rw [xF_kind]; exact hI1.hfr.kind) xF_fn e
  rw [← hx k]
  refine Can.runX (Ks := fun _ => True) n1 n2 trivial (k := k) trivial (K := K) (fun _ _ _ q => q.1) sp hrun hI (hx []).symm rfl ?_
  intro D' sv' fr' w' s1 hI' q
  obtain ⟨_, a', e, hq⟩ := q
  have e1 : fr'.ex rl sv' k = (base f).at ⟨ov rl sv' fr'.tmps, []⟩ k := by
    have t1 := congrArg Frame.todo e
    have t2 := congrArg Frame.fn e
    have t3 := congrArg Frame.mode e
    simp only [Frame.ex, Frame.at, List.append_nil] at t1 t2 t3
    simp only [Frame.ex, Frame.at, t1, t2, t3, hI'.hfr.defers, hI'.hfr.kind, hI'.hfr.round, List.nil_append]
    rfl
  have e2 : a' = ⟨ov rl sv' fr'.tmps, []⟩ := by
    have t1 := congrArg Frame.tmps e
    have t2 := congrArg Frame.defers e
    simp only [Frame.ex, Frame.at] at t1 t2
    rw [hI'.hfr.defers] at t2
    cases a'
    simp only at t1 t2
    rw [t1, t2]
  rw [e1]
  rw [e2] at hq
  refine hK s1 (fun v hv => ?_) hI'.hw hI'.hsv hI'.ext hq
  obtain ⟨i, hi, rfl⟩ := Array.mem_iff_getElem.1 hv
  exact hI'.hfr.tmps.2 i _ _ (Array.getElem?_eq_getElem hi) (Array.getElem?_eq_getElem hi)
end
end Go.Proofs.Ytlndinigbppafaa

/-
  Frames some of whose slots hold slices from elsewhere: to the return; the closed check of their code.
-/
namespace Go.Proofs.Ytlndinigbppafaa
open Go.Sim Go.Conc Go.Fi

section
variable {rl : Rl} {Fo : FoT} {D : Nat → Prop} {sv : Nat → Value} {w : World}
variable {Gl : Array Goroutine → World → Option (Nat × Nat) → Trace → Prop} {n : Nat}

/-- It stands at its return. -/
def RetX (f : FuncId) (fn : Func) (Q : Value → World → Prop) (fr : Frame) (cs : List Frame) (w : World) : Prop := cs = [] ∧ fr.mode = .returning ∧ fr.fn = f ∧ ∃ v, results fn fr.tmps = pure v ∧ Q v w

theorem Can.retX {f : FuncId} {fn : Func} {c : Code} {a : Act} {K : List Frame} {Q : Value → World → Prop} (hf : Try.prog.funcs[f]? = some fn) (hc : CodeOK Try.prog c) (hr : CodeR Try.prog rl c) (htm : ∀ v ∈ a.tmps, Vs D v) (hd : a.defers = []) (hw : Sf D w) (hsv : SvOK rl Fo sv) (hext : ExtOK Fo D w)
    (hQ : ∀ v w τ, Q v w → Q v (w.tp τ)) (hrn : ∀ τ, ∃ m fr' w', runN Try.prog m (lone ((base f).at ⟨ov rl sv a.tmps, []⟩ [.code c]) [c0 Try.prog] (w.tp τ)) = .next (lone fr' [c0 Try.prog] w') ∧ RetX f fn Q fr' [] w')
    (hK : ∀ {D' : Nat → Prop} {sv' : Nat → Value} {fr' : Frame} {w' : World}, (∀ b, D b → D' b) → InvX rl Fo D' sv' fr' [] w' → RetX f fn Q (fr'.ex rl sv' []) [] w' → Can Gl n (G (fr'.ex rl sv' []) K) w') : Can Gl n (G ((base f).at ⟨ov rl sv a.tmps, []⟩ [.code c]) K) w := by
  have hI := invX_start (sv := sv) hf hc hr htm hd hw hsv hext
  have hx : ((base f).at a [.code c]).ex rl sv [] = (base f).at ⟨ov rl sv a.tmps, []⟩ [.code c] := by simp [Frame.ex, Frame.at, hd]
  have n2 : ∀ (fr : Frame) (cs : List Frame), (fr.mode = .returning → cs ≠ []) → cs = [] → fr.todo = [] → ∀ k : List Item, k = [] → k = [] := fun _ _ _ _ _ _ h => h
  have sp : ∀ fr cs w ch, RetX f fn Q fr cs w → fr.mode ≠ .panicking ch := by
    rintro fr cs w ch ⟨_, hm, _⟩ hp
    rw [hm] at hp; cases hp
  have A := relA (rl := rl) (Fo := Fo) (Ks := fun k => k = []) (Nx := fun fr cs => fr.mode = .returning → cs ≠ []) (fun _ _ h => h) n2 rfl
  have hRel : RlX rl Fo ((base f).at ⟨ov rl sv a.tmps, []⟩ [.code c]) [] w := ⟨D, sv, _, [], hI, hx.symm, rfl⟩
  have hrun : RunX Try.prog (fun fr cs => fr.mode = .returning → cs ≠ []) (RetX f fn Q) ((base f).at ⟨ov rl sv a.tmps, []⟩ [.code c]) [] w := by
    refine runX_of_good A sp (fun fr cs w τ q => ?_) hRel fun τ => ?_
    · obtain ⟨q1, q2, q3, v, q4, q5⟩ := q
      exact ⟨q1, q2, q3, v, q4, hQ _ _ _ q5⟩
    · obtain ⟨m, fr', w', hm, hq⟩ := hrn τ
      refine ⟨m, endsX_of_run A sp (fr' := fr') (w' := w') hq (fun {fr cs w} n hr e hm hc => ?_) m (A.tp hRel τ) hm⟩
      obtain ⟨D1, sv1, fr1, cs1, hI1, rfl, rfl⟩ := hr
      obtain ⟨fn1, hf1⟩ := hI1.hfr.func
      have := xC_nil hc
      subst this
      exact fin_over' (fn := fn1) (by rw [xF_defers]; exact hI1.hfr.defers) (by rw [xF_kind]; exact hI1.hfr.kind) (by rw [xF_fn]; exact hf1) hm n e
  rw [← hx]
  exact Can.runX (Ks := fun k => k = []) (Nx := fun fr cs => fr.mode = .returning → cs ≠ []) (fun _ _ h => h) n2 rfl (k := []) rfl (K := K) (fun _ _ _ q => q.1) sp hrun hI hx.symm rfl hK

/-- From the walk of what is left. -/
theorem run_of_wp {f : FuncId} {fn : Func} {c : Code} {a : Act} {Q : Value → World → Prop} (hres : ∀ r ∈ fn.results, ∃ t, r = .tmp t) (hwp : c.wp Try.prog (bodyPost Try.prog fn fun e w' => match e with | .returned v => Q v w' | _ => False) a w) :
    ∃ m fr' w', runN Try.prog m (lone ((base f).at a [.code c]) [c0 Try.prog] w) = .next (lone fr' [c0 Try.prog] w') ∧ RetX f fn Q fr' [] w' := by
  obtain ⟨e, a', w', hq, harr⟩ := hwp (base f) [] [c0 Try.prog]
  have fin : ∀ {todo : List Item} {v : Value}, Steps Try.prog (lone ((base f).at a [.code c]) [c0 Try.prog] w) (lone { (base f).at a' todo with mode := .returning } [c0 Try.prog] w') → (results fn a'.tmps).run Try.prog w' = .ok v w' → Q v w' →
      ∃ m fr' w', runN Try.prog m (lone ((base f).at a [.code c]) [c0 Try.prog] w) = .next (lone fr' [c0 Try.prog] w') ∧ RetX f fn Q fr' [] w' := by
    intro todo v hs hr hp
    obtain ⟨m, hm⟩ := hs
    obtain ⟨v', hv'⟩ := results_pure hres a'.tmps
    rw [hv'] at hr
    cases hr
    exact ⟨m, _, w', hm, rfl, rfl, rfl, _, hv', hp⟩
  cases e with
  | normal =>
    obtain ⟨_, v, hr, hp⟩ := hq
    exact fin (Steps.trans harr (.one step_end)) hr hp
  | ret =>
    obtain ⟨_, v, hr, hp⟩ := hq
    obtain ⟨todo, hs⟩ := harr
    exact fin hs hr hp
  | panic ch => exact hq.2.elim
  | outgrown => exact hq.elim
  | exit _ => exact hq.elim
  | goto _ => exact hq.elim

theorem results_ov {fn : Func} (hr : ∀ r ∈ fn.results, ∃ t, r = .tmp t ∧ rl t = 0) (t : Array Value) : results fn (ov rl sv t) = results fn t := by
  rw [results_eq, results_eq]
  congr 1
  rw [Array.mapM_eq_mapM_toList, Array.mapM_eq_mapM_toList]
  congr 1
  have K : ∀ l : List ResultVar, (∀ r ∈ l, ∃ t, r = .tmp t ∧ rl t = 0) → l.mapM (rdv (ov rl sv t)) = l.mapM (rdv t) := by
    intro l
    induction l with
    | nil => intro _; rfl
    | cons r l ih =>
      intro hl
      obtain ⟨x, rfl, h0⟩ := hl r (List.mem_cons_self ..)
      rw [List.mapM_cons, List.mapM_cons, ih fun r hr => hl r (List.mem_cons_of_mem _ hr)]
      have : rdv (ov rl sv t) (.tmp x) = rdv t (.tmp x) := by
        show pure ((ov rl sv t).getD x Go.undef) = pure (t.getD x Go.undef)
        rw [ov_getD h0]
      rw [this]
  exact K _ fun r h => hr r (by simpa using h)

/-- THE REST OF THE LAST FRAME. -/
theorem Can.restX {f : FuncId} {fn : Func} {c : Code} {a : Act} {Post : Value → World → Prop} (hf : Try.prog.funcs[f]? = some fn) (hc : CodeOK Try.prog c) (hr : CodeR Try.prog rl c) (htm : ∀ v ∈ a.tmps, Vs D v) (hd : a.defers = []) (hw : Sf D w) (hsv : SvOK rl Fo sv) (hext : ExtOK Fo D w)
    (hres : ∀ r ∈ fn.results, ∃ t, r = .tmp t) (hin : Try.prog.inits.idxOf? f = none) (hP : ∀ v w w₁, Post v w → Eqv w w₁ → Post v w₁)
    (hwp : ∀ τ, c.wp Try.prog (bodyPost Try.prog fn fun e w' => match e with | .returned v => Post v w' | _ => False) ⟨ov rl sv a.tmps, []⟩ (w.tp τ)) : Can (Done Post) n (G ((base f).at ⟨ov rl sv a.tmps, []⟩ [.code c]) []) w := by
  refine Can.retX (Q := Post) hf hc hr htm hd hw hsv hext (fun v w τ h => hP v w _ h ⟨rfl, rfl, rfl⟩) (fun τ => run_of_wp hres (hwp τ)) ?_
  intro D' sv' fr' w' _ hI hR
  obtain ⟨_, hm, hfn, v, hv, hq⟩ := hR
  refine Can.done (v := v) rfl fun w₁ hE => ⟨?_, hP v w' w₁ hq hE⟩
  exact stepG_done hm hI.hfr.defers hI.hfr.kind (by rw [hfn]; exact hf) hv (by rw [hfn]; exact hin) w₁

/-- A CALL, SOME OF WHOSE ARGUMENTS ARE FROM ELSEWHERE. -/
theorem Can.callX {b : Frame} {a : Act} {k : List Item} {cs : List Frame} {ops : Array Oper} {i : Nat} {rest : List Nat} {o : Oper} {f : FuncId} {fn : Func} {c : Code} {args : Array Operand} {ats : Array TypeId} {vs : List Value} {t0 : Array Value} {Q : Value → World → Prop} (hk : b.kind ≠ .early) (ho : ops[i]? = some o) (hwt : Region.wanted o (yielded ops a.tmps) = true) (hop : o.op = .call { callee := .value (.func f), args, argTypes := ats })
    (hf : Try.prog.funcs[f]? = some fn) (hname : fn.name ∈ names) (hb : fn.body = some c) (hr : CodeR Try.prog rl c) (hres : ∀ r ∈ fn.results, ∃ t, r = .tmp t ∧ rl t = 0) (hargs : args.map a.eval = vs.toArray)
    (hov : vs.toArray ++ Array.replicate (fn.ntmps - vs.toArray.size) undef = ov rl sv t0) (ht0 : ∀ v ∈ t0, Vs D v) (hw : Sf D w) (hsv : SvOK rl Fo sv) (hext : ExtOK Fo D w) (hQ : ∀ v w τ, Q v w → Q v (w.tp τ))
    (hc : ∀ τ, Calls Try.prog f vs.toArray (w.tp τ) fun e w' => match e with | .returned v => Q v w' | _ => False)
    (hK : ∀ {D' : Nat → Prop} {v : Value} {w' : World}, (∀ b, D b → D' b) → Vs D' v → Sf D' w' → ExtOK Fo D' w' → Q v w' → Can Gl n (G (b.at (a.put o.dst v) (.inRegion ops rest :: k)) cs) w') :
    Can Gl n (G (b.at a (.inRegion ops (i :: rest) :: k)) cs) w := by
  have hn : (fn.name == "runtime.NumGoroutine") = false := by
    have : fn.name ≠ "runtime.NumGoroutine" := fun x => by rw [x] at hname; revert hname; decide
    simpa using this
  refine Can.enter hk ho hwt hop hf hn hb ?_
  rw [hargs, hov]
  have hres' : ∀ r ∈ fn.results, ∃ t, r = .tmp t := fun r hr => (hres r hr).imp fun _ q => q.1
  refine Can.retX (a := ⟨t0, []⟩) (Q := Q) hf (bodiesOK f fn c hf hname hb) hr ht0 rfl hw hsv hext hQ (fun τ => ?_) ?_
  · obtain ⟨e, w', fr, hp, hs, h1, h2⟩ := hc τ [c0 Try.prog]
    rw [enter_at _ hf hb] at hs
    rw [hov] at hs
    cases e with
    | returned v =>
      obtain ⟨m, hm⟩ := hs
      obtain ⟨hmd, _, _, fn', hf', hr'⟩ := h2
      have : fn' = fn := by rw [h1, hf] at hf'; cases hf'; rfl
      subst this
      obtain ⟨v', hv'⟩ := results_pure hres' fr.tmps
      rw [hv'] at hr'
      cases hr'
      exact ⟨m, fr, w', hm, rfl, hmd, h1, _, hv', hp⟩
    | panicked ch => exact hp.elim
    | outgrown => exact hp.elim
  · intro D' sv' fr' w' s1 hI hR
    obtain ⟨_, hm, hfn, v, hv, hq⟩ := hR
    have hv2 : results fn fr'.tmps = Pure.pure v := by rw [← results_ov (sv := sv') hres]; exact hv
    obtain ⟨v2, V, hvv, e3, _⟩ := results_run hres' hI.hfr.tmps
    rw [hv2] at e3
    cases e3
    refine Can.pure (g' := G (b.at (a.put o.dst v) (.inRegion ops rest :: k)) cs) rfl (fun w => ?_) (hK s1 (by have := vr_self hvv; exact this.mono (idOn_mono fun b hb => by obtain ⟨B, h⟩ := hb; exact h.2)) hI.hw hI.ext hq)
    have hfin : (b.at a (.inRegion ops (i :: rest) :: k)).finish v = b.at (a.put o.dst v) (.inRegion ops rest :: k) := by rw [Frame.finish_at, ho]; rfl
    rw [← hfin]
    have hd : (fr'.ex rl sv' []).defers = [] := hI.hfr.defers
    have hkd : (fr'.ex rl sv' []).kind = .normal := hI.hfr.kind
    have hfn' : Try.prog.funcs[(fr'.ex rl sv' []).fn]? = some fn := by rw [hfn]; exact hf
    simp [stepG, G, hm, unwind, hd, hfn', hv, doReturn, hkd, seen, GStep.after]

theorem ov_zero (sv : Nat → Value) (t : Array Value) : ov (fun _ => 0) sv t = t := by
  apply Array.ext_getElem?
  intro i
  rw [ov_get]
  cases t[i]? <;> simp
/-- A CALL OF PLAIN ARGUMENTS, what lies elsewhere kept in mind. -/
theorem Can.callE {b : Frame} {a : Act} {k : List Item} {cs : List Frame} {ops : Array Oper} {i : Nat} {rest : List Nat} {o : Oper} {f : FuncId} {fn : Func} {c : Code} {args : Array Operand} {ats : Array TypeId} {vs : List Value} {Q : Value → World → Prop} (hk : b.kind ≠ .early) (ho : ops[i]? = some o) (hwt : Region.wanted o (yielded ops a.tmps) = true) (hop : o.op = .call { callee := .value (.func f), args, argTypes := ats })
    (hf : Try.prog.funcs[f]? = some fn) (hname : fn.name ∈ names) (hb : fn.body = some c) (hres : ∀ r ∈ fn.results, ∃ t, r = .tmp t) (hargs : args.map a.eval = vs.toArray)
    (hA : ∀ v ∈ vs, Vs D v) (hw : Sf D w) (hext : ExtOK Fo D w) (hQ : ∀ v w τ, Q v w → Q v (w.tp τ))
    (hc : ∀ τ, Calls Try.prog f vs.toArray (w.tp τ) fun e w' => match e with | .returned v => Q v w' | _ => False)
    (hK : ∀ {D' : Nat → Prop} {v : Value} {w' : World}, (∀ b, D b → D' b) → Vs D' v → Sf D' w' → ExtOK Fo D' w' → Q v w' → Can Gl n (G (b.at (a.put o.dst v) (.inRegion ops rest :: k)) cs) w') :
    Can Gl n (G (b.at a (.inRegion ops (i :: rest) :: k)) cs) w := by
  refine Can.callX (rl := fun _ => 0) (sv := fun _ => undef) (t0 := vs.toArray ++ Array.replicate (fn.ntmps - vs.toArray.size) undef) hk ho hwt hop hf hname hb (codeR_zero c) (fun r hr => (hres r hr).imp fun _ q => ⟨q, rfl⟩) hargs (ov_zero _ _).symm (fun v hv => ?_) hw (fun i => ⟨fun q => (by cases q), fun q => (by cases q)⟩) hext hQ hc hK
  rcases Array.mem_append.1 hv with hv | hv
  · exact hA v (by simpa using hv)
  · rw [Array.mem_replicate] at hv
    rw [hv.2]
    exact VR.undef

def spcB (P : Program) (rl : Rl) (o : Oper) : Bool := match o.op with
  | .move (.tmp x) | .assign (.tmp x) => rl x == 1 && dstIs rl 1 o.dst
  | .indexAddr t (.tmp x) (.tmp y) => rl x == 1 && (rl y == 0 && (oneB P t && dstIs rl 2 o.dst))
  | .load t (.tmp x) => rl x == 2 && (scalB P t && pDst rl o.dst)
  | .call c => (match c.callee, c.args, c.argTypes with
    | .builtin .len, ⟨[.tmp x]⟩, ⟨[t]⟩ => rl x == 1 && (sliceB P t && pDst rl o.dst)
    | _, _, _ => false)
  | _ => false
theorem spcB_ok {P : Program} {o : Oper} (h : spcB P rl o = true) : SpcO P rl o := by
  unfold spcB at h
  split at h
  · rename_i x hop
    rw [Bool.and_eq_true] at h
    exact .copy x (.inl hop) (by simpa using h.1) h.2
  · rename_i x hop
    rw [Bool.and_eq_true] at h
    exact .copy x (.inr hop) (by simpa using h.1) h.2
  · rename_i t x y hop
    simp only [Bool.and_eq_true] at h
    exact .adr t x (.tmp y) hop (by simpa using h.1) h.2.1 trivial h.2.2.1 h.2.2.2
  · rename_i t x hop
    simp only [Bool.and_eq_true] at h
    exact .get t x hop (by simpa using h.1) h.2.1 h.2.2
  · rename_i c hop
    split at h
    · rename_i x t h1 h2 h3
      simp only [Bool.and_eq_true] at h
      refine .len x t ?_ (by simpa using h.1) (sliceB_ok h.2.1) h.2.2
      rw [hop]
      cases c
      simp only at h1 h2 h3
      rw [h1, h2, h3]
    · cases h
  · cases h
def opsRB (P : Program) (rl : Rl) (ops : Array Oper) : Bool := ops.all fun o => guardOK rl ops o && (plainO rl o || spcB P rl o)
def codeRB (P : Program) (rl : Rl) : Code → Bool
  | .region _ ops _ => opsRB P rl ops
  | .seq a b => codeRB P rl a && codeRB P rl b
  | .cond c a b => pOpd rl c && (codeRB P rl a && codeRB P rl b)
  | .block _ c | .loop c | .scope c => codeRB P rl c
  | _ => true
theorem codeRB_ok {P : Program} : ∀ {c : Code}, codeRB P rl c = true → CodeR P rl c := by
  have O : ∀ {ops : Array Oper}, opsRB P rl ops = true → OpsR P rl ops := by
    intro ops h o ho
    unfold opsRB at h
    rw [Array.all_eq_true_iff_forall_mem] at h
    have := h o ho
    simp only [Bool.and_eq_true, Bool.or_eq_true] at this
    exact ⟨this.1, this.2.imp id spcB_ok⟩
  intro c
  induction c with
  | region i ops d => exact O
  | seq a b ha hb => intro h; simp only [codeRB, Bool.and_eq_true] at h; exact ⟨ha h.1, hb h.2⟩
  | cond c a b ha hb => intro h; simp only [codeRB, Bool.and_eq_true] at h; exact ⟨h.1, ha h.2.1, hb h.2.2⟩
  | block i c ih => exact ih
  | loop c ih => exact ih
  | scope c ih => exact ih
  | _ => intro _; trivial
end
end Go.Proofs.Ytlndinigbppafaa
