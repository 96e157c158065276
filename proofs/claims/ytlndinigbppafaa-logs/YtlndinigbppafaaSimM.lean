/-
  From a contract of the lone walk to company: a run that comes to its return alone, on every tape, never fails; whatever the tape's answers, it goes on to the return.
-/
import Derived.Test.YtlndinigbppafaaSimL
import Derived.KernelRfl
namespace Go.Sim
open Go.Conc (G)
variable {P : Program} {Shd : Nat → Prop} {R : BR}

/-- A frame beneath, at which a panic ends the run. -/
def c0 (P : Program) : Frame := { fn := P.funcs.size, tmps := #[], todo := [.call { target := .nil, args := #[] } false "fmt's door" #[]], defers := [], mode := .run, kind := .normal }

theorem door : "fmt's door".startsWith "fmt's door" = true := by kernel_rfl
theorem catches0 : (c0 P).catches P = true := by
  have : P.funcs[P.funcs.size]? = none := by simp
  unfold Frame.catches c0
  simp only [this]
  exact door

/-- A panic on its way: no frame defers anything. -/
structure Bad (fr : Frame) (cs : List Frame) : Prop where
  mode : ∃ ch, fr.mode = .panicking ch
  defers : fr.defers = []
  func : ∃ f, P.funcs[fr.fn]? = some f
  callers : ∀ c ∈ cs, c.defers = [] ∧ ∃ f, P.funcs[c.fn]? = some f

theorem raise_mode (fr : Frame) (l : List PanicEntry) : ∃ ch, (fr.raise l).mode = .panicking ch := by unfold Frame.raise; split <;> exact ⟨_, rfl⟩
theorem raise_defers (fr : Frame) (l : List PanicEntry) : (fr.raise l).defers = fr.defers := by unfold Frame.raise; split <;> rfl
theorem raise_fn (fr : Frame) (l : List PanicEntry) : (fr.raise l).fn = fr.fn := by unfold Frame.raise; split <;> rfl

theorem lone_inj {fr fr' : Frame} {cs cs' : List Frame} {w w' : World} (h : lone fr cs w = lone fr' cs' w') : fr = fr' ∧ cs = cs' ∧ w = w' := by
  simp only [lone, Machine.mk.injEq, Array.mk.injEq, List.cons.injEq, Goroutine.mk.injEq] at h
  exact ⟨h.2.1.1.1, h.2.1.1.2.1, h.1⟩

theorem bad_run : ∀ (n : Nat) {fr fr' : Frame} {cs : List Frame} {w w' : World}, Bad (P := P) fr cs → runN P n (lone fr (cs ++ [c0 P]) w) = .next (lone fr' [c0 P] w') → fr'.mode ≠ .returning
  | 0, fr, fr', cs, w, w', hb, e => by
    simp only [runN, Stepped.next.injEq] at e
    obtain ⟨rfl, _, _⟩ := lone_inj e
    obtain ⟨ch, h⟩ := hb.mode
    rw [h]; intro x; cases x
  | n + 1, fr, fr', cs, w, w', hb, e => by
    obtain ⟨ch, hm⟩ := hb.mode
    obtain ⟨f, hf⟩ := hb.func
    have hc : fr.catches P = false := by unfold Frame.catches; simp [hf]
    cases cs with
    | cons c cs =>
      have hs : step P (lone fr (c :: cs ++ [c0 P]) w) = .next (lone (c.raise ch) (cs ++ [c0 P]) w) := step_lone_go (by simp [stepG, hm, unwind, hb.defers, hc])
      rw [runN, hs] at e
      have hcc := hb.callers c (List.mem_cons_self ..)
      exact bad_run n ⟨raise_mode _ _, by rw [raise_defers]; exact hcc.1, by rw [raise_fn]; exact hcc.2, fun x hx => hb.callers x (List.mem_cons_of_mem _ hx)⟩ e
    | nil =>
      have hs : step P (lone fr ([] ++ [c0 P]) w) = .next (lone ((c0 P).raise ch) [] w) := step_lone_go (by simp [stepG, hm, unwind, hb.defers, hc])
      rw [runN, hs] at e
      cases n with
      | zero =>
        simp only [runN, Stepped.next.injEq] at e
        obtain ⟨_, h, _⟩ := lone_inj e
        cases h
      | succ n =>
        have hx : ((c0 P).raise ch).catches P = true := by
          have := catches0 (P := P)
          unfold Frame.raise c0 at *
          exact this
        have hs2 : ∃ o w2, step P (lone ((c0 P).raise ch) [] w) = .ended o w2 := by
          obtain ⟨ch', h1⟩ := raise_mode (c0 P) ch
          have h2 : ((c0 P).raise ch).defers = [] := by rw [raise_defers]; rfl
          exact ⟨_, w, step_lone_ended (by simp [stepG, h1, unwind, h2, hx]; rfl)⟩
        obtain ⟨o, w2, hs2⟩ := hs2
        simp only [runN, hs2] at e
        cases e

/-- The run comes to its return. -/
def Ends (P : Program) (Fin : Frame → World → Prop) (fr : Frame) (cs : List Frame) (w : World) (n : Nat) : Prop :=
  ∃ fr' w', runN P n (lone fr (cs ++ [c0 P]) w) = .next (lone fr' [c0 P] w') ∧ fr'.mode = .returning ∧ Fin fr' w'
def Good (P : Program) (Fin : Frame → World → Prop) (fr : Frame) (cs : List Frame) (w : World) : Prop := ∀ τ, ∃ n, Ends P Fin fr cs (w.tp τ) n

def IsFin (fr : Frame) (cs : List Frame) : Prop := fr.mode = .returning ∧ cs = []

/-- The lone state stands for something in company. -/
def Rel (P : Program) (Shd : Nat → Prop) (fr : Frame) (cs : List Frame) (w : World) : Prop := ∃ R Fr Cs W, FR P R fr Fr ∧ FRs P R cs Cs ∧ WR P Shd R w W

theorem WR.tp {w W : World} (h : WR P Shd R w W) (τ τ' : Nat → Question → Nat) : WR P Shd R (w.tp τ) (W.tp τ') := ⟨h.dom, h.inj, h.shd, h.low, h.glob⟩

theorem FRs.bad {cs Cs : List Frame} : FRs P R cs Cs → ∀ c ∈ cs, c.defers = [] ∧ ∃ f, P.funcs[c.fn]? = some f := by
  intro h
  induction cs generalizing Cs with
  | nil => intro c hc; cases hc
  | cons a cs ih =>
    cases Cs with
    | nil => exact h.elim
    | cons b Cs =>
      intro c hc
      rcases List.mem_cons.1 hc with rfl | hc
      · obtain ⟨f, hf⟩ := h.1.func
        exact ⟨h.1.defers, f, hf⟩
      · exact ih h.2.2 c hc

/-- A run that comes to its return does not fail. -/
theorem not_fails {Fin : Frame → World → Prop} {fr : Frame} {cs : List Frame} {w : World} {n : Nat} (hr : Rel P Shd fr cs w) (hn : ¬ IsFin fr cs) (h : Ends P Fin fr cs w n) : ¬ Fails P (c0 P) cs (stepG P true (G fr (cs ++ [c0 P])) w) := by
  obtain ⟨R, Fr, Cs, W, h1, h2, _⟩ := hr
  obtain ⟨fr', w', e, hm, _⟩ := h
  intro hf
  cases n with
  | zero =>
    simp only [runN, Stepped.next.injEq] at e
    obtain ⟨rfl, hc, _⟩ := lone_inj e
    exact hn ⟨hm, by simpa using congrArg List.length hc |> fun x => List.eq_nil_of_length_eq_zero (by simpa using x)⟩
  | succ n =>
    rcases hf with ⟨fr1, w1, hs, hp, hd, hfn⟩ | ⟨o, w1, hs⟩
    · have := step_lone_go (P := P) (fr := fr) (cs := cs ++ [c0 P]) (w := w) (by exact hs)
      rw [runN, this] at e
      exact bad_run n ⟨hp, hd, hfn, h2.bad⟩ e hm
    · have := step_lone_ended (P := P) (fr := fr) (cs := cs ++ [c0 P]) (w := w) (by exact hs)
      rw [runN, this] at e
      cases e

theorem G_inj {fr fr' : Frame} {cs cs' : List Frame} {c : Frame} {w w' : World} (h : GStep.go (G fr (cs ++ [c])) w = GStep.go (G fr' (cs' ++ [c])) w') : fr = fr' ∧ cs = cs' ∧ w = w' := by
  simp only [GStep.go.injEq, G, Goroutine.mk.injEq] at h
  exact ⟨h.1.1, List.append_cancel_right h.1.2.1, h.2.1⟩

/-- The run comes to its return, told step by step. -/
def EndsG (P : Program) (Fin : Frame → World → Prop) : Nat → Frame → List Frame → World → Prop
  | 0, fr, cs, w => IsFin fr cs ∧ Fin fr w
  | n + 1, fr, cs, w => (IsFin fr cs ∧ Fin fr w) ∨ (¬ IsFin fr cs ∧ ∃ fr' cs' w', (stepG P true (G fr (cs ++ [c0 P])) w).bare = .go (G fr' (cs' ++ [c0 P])) w' ∧ EndsG P Fin n fr' cs' w')

theorem endsG_bad {Fin : Frame → World → Prop} : ∀ (n : Nat) {fr : Frame} {cs : List Frame} {w : World}, Bad (P := P) fr cs → ¬ EndsG P Fin n fr cs w
  | 0, fr, cs, w, hb, h => by
    obtain ⟨ch, hm⟩ := hb.mode
    have := h.1.1
    rw [hm] at this; cases this
  | n + 1, fr, cs, w, hb, h => by
    obtain ⟨ch, hm⟩ := hb.mode
    obtain ⟨f, hf⟩ := hb.func
    have hc : fr.catches P = false := by unfold Frame.catches; simp [hf]
    rcases h with h | ⟨_, fr', cs', w', e, h⟩
    · have := h.1.1
      rw [hm] at this; cases this
    cases cs with
    | cons c cs =>
      have hs : (stepG P true (G fr (c :: cs ++ [c0 P])) w).bare = .go (G (c.raise ch) (cs ++ [c0 P])) w := by simp [stepG, G, hm, unwind, hb.defers, hc]
      rw [hs] at e
      obtain ⟨rfl, rfl, rfl⟩ := G_inj e
      have hcc := hb.callers c (List.mem_cons_self ..)
      exact endsG_bad n ⟨raise_mode _ _, by rw [raise_defers]; exact hcc.1, by rw [raise_fn]; exact hcc.2, fun x hx => hb.callers x (List.mem_cons_of_mem _ hx)⟩ h
    | nil =>
      have hs : (stepG P true (G fr ([] ++ [c0 P])) w).bare = .go (G ((c0 P).raise ch) []) w := by simp [stepG, G, hm, unwind, hb.defers, hc]
      rw [hs] at e
      simp only [GStep.go.injEq, G, Goroutine.mk.injEq] at e
      have := e.1.2.1
      simp at this

/-- The tape of the other world that answers as the lone one's. -/
def mt (w W : World) : Nat → Question → Nat := fun j q => w.tape (w.drawn + (j - W.drawn)) q


/-- A step of a lone state that stands for something. -/
theorem rel_step (hS : ∀ b, ¬ Shd b) (hZ : ZeroOK P) (hB : BodiesOK P) {fr : Frame} {cs : List Frame} {w : World} (hr : Rel P Shd fr cs w) (hn : ¬ IsFin fr cs) :
    (∃ fr' cs' w', (stepG P true (G fr (cs ++ [c0 P])) w).bare = .go (G fr' (cs' ++ [c0 P])) w' ∧ Rel P Shd fr' cs' w' ∧ w'.tape = w.tape ∧ w.drawn ≤ w'.drawn ∧
      ∀ τ, (∀ j q, w.drawn ≤ j → j < w'.drawn → τ j q = w.tape j q) → (stepG P true (G fr (cs ++ [c0 P])) (w.tp τ)).bare = .go (G fr' (cs' ++ [c0 P])) (w'.tp τ)) ∨
    Fails P (c0 P) cs (stepG P true (G fr (cs ++ [c0 P])) w) := by
  obtain ⟨R, Fr, Cs, W, h1, h2, h3⟩ := hr
  rcases step_sim hS hZ hB (c0 := c0 P) (K := []) (W := W.tp (mt w W)) h1 h2 (h3.tp w.tape (mt w W)) (fun j q => by show _ = mt w W (W.drawn + j) q; simp [mt, World.tp]) (fun hm hc => hn ⟨hm, hc⟩) true true with h | h
  · obtain ⟨fr', cs', w', e, R', Fr', Cs', W', Es, _, f1, f2, f3, x, _, tp⟩ := h
    obtain ⟨k, k1, _⟩ := x.drawn
    exact .inl ⟨fr', cs', w', e, ⟨R', Fr', Cs', W', f1, f2, f3⟩, x.ltape, by rw [k1]; exact Nat.le_add_right _ _, tp⟩
  · exact .inr h

theorem endsG_step (hS : ∀ b, ¬ Shd b) (hZ : ZeroOK P) (hB : BodiesOK P) {Fin : Frame → World → Prop} {n : Nat} {fr : Frame} {cs : List Frame} {w : World} (hr : Rel P Shd fr cs w) (hn : ¬ IsFin fr cs) (h : EndsG P Fin n fr cs w) :
    ∃ m fr' cs' w', n = m + 1 ∧ (stepG P true (G fr (cs ++ [c0 P])) w).bare = .go (G fr' (cs' ++ [c0 P])) w' ∧ EndsG P Fin m fr' cs' w' ∧ Rel P Shd fr' cs' w' ∧ w'.tape = w.tape ∧ w.drawn ≤ w'.drawn ∧
      ∀ τ, (∀ j q, w.drawn ≤ j → j < w'.drawn → τ j q = w.tape j q) → (stepG P true (G fr (cs ++ [c0 P])) (w.tp τ)).bare = .go (G fr' (cs' ++ [c0 P])) (w'.tp τ) := by
  cases n with
  | zero => exact absurd h.1 hn
  | succ n =>
    rcases h with h | ⟨_, fr', cs', w', e, h⟩
    · exact absurd h.1 hn
    rcases rel_step hS hZ hB hr hn with ⟨fr1, cs1, w1, e1, r1, x1, x2, tp⟩ | hf
    · rw [e1] at e
      obtain ⟨rfl, rfl, rfl⟩ := G_inj e
      exact ⟨n, _, _, _, rfl, e1, h, r1, x1, x2, tp⟩
    · exfalso
      obtain ⟨R, Fr, Cs, W, h1, h2, _⟩ := hr
      rcases hf with ⟨fr1, w1, hs, hp, hd, hfn⟩ | ⟨o, w1, hs⟩
      · rw [hs] at e
        obtain ⟨rfl, rfl, rfl⟩ := G_inj e
        exact endsG_bad n ⟨hp, hd, hfn, h2.bad⟩ h
      · rw [hs] at e; cases e

theorem endsG_tape (hS : ∀ b, ¬ Shd b) (hZ : ZeroOK P) (hB : BodiesOK P) {Fin : Frame → World → Prop} (hF : ∀ fr w τ, Fin fr w → Fin fr (w.tp τ)) : ∀ (n : Nat) {fr : Frame} {cs : List Frame} {w : World}, Rel P Shd fr cs w → EndsG P Fin n fr cs w →
    ∀ τ, (∀ j q, w.drawn ≤ j → τ j q = w.tape j q) → EndsG P Fin n fr cs (w.tp τ)
  | 0, fr, cs, w, _, h, τ, _ => ⟨h.1, hF _ _ _ h.2⟩
  | n + 1, fr, cs, w, hr, h, τ, hτ => by
    by_cases hn : IsFin fr cs
    · rcases h with h | h
      · exact .inl ⟨h.1, hF _ _ _ h.2⟩
      · exact absurd hn h.1
    · obtain ⟨m, fr', cs', w', em, e, h', r', x1, x2, tp⟩ := endsG_step hS hZ hB hr hn h
      cases em
      refine .inr ⟨hn, fr', cs', _, tp τ fun j q h1 _ => hτ j q h1, endsG_tape hS hZ hB hF n r' h' τ fun j q h1 => ?_⟩
      rw [x1]; exact hτ j q (Nat.le_trans x2 h1)

/-- On every tape the run comes to its return. -/
def GoodG (P : Program) (Fin : Frame → World → Prop) (fr : Frame) (cs : List Frame) (w : World) : Prop := ∀ τ, ∃ n, EndsG P Fin n fr cs (w.tp τ)

theorem Rel.tp {fr : Frame} {cs : List Frame} {w : World} (h : Rel P Shd fr cs w) (τ : Nat → Question → Nat) : Rel P Shd fr cs (w.tp τ) := by
  obtain ⟨R, Fr, Cs, W, h1, h2, h3⟩ := h
  exact ⟨R, Fr, Cs, W, h1, h2, h3.tp τ W.tape⟩

theorem good_step (hS : ∀ b, ¬ Shd b) (hZ : ZeroOK P) (hB : BodiesOK P) {Fin : Frame → World → Prop} (hF : ∀ fr w τ, Fin fr w → Fin fr (w.tp τ)) {fr : Frame} {cs : List Frame} {w : World} (hr : Rel P Shd fr cs w) (hn : ¬ IsFin fr cs) (h : GoodG P Fin fr cs w) (τ : Nat → Question → Nat) :
    ∃ fr' cs' w', (stepG P true (G fr (cs ++ [c0 P])) (w.tp τ)).bare = .go (G fr' (cs' ++ [c0 P])) w' ∧ GoodG P Fin fr' cs' w' ∧ Rel P Shd fr' cs' w' ∧ w'.tape = τ ∧ w.drawn ≤ w'.drawn ∧
      ∀ τ2, (∀ j q, w.drawn ≤ j → j < w'.drawn → τ2 j q = τ j q) → (stepG P true (G fr (cs ++ [c0 P])) (w.tp τ2)).bare = .go (G fr' (cs' ++ [c0 P])) (w'.tp τ2) := by
  obtain ⟨n, hE⟩ := h τ
  obtain ⟨m, fr', cs', w', em, e, h', r', x1, x2, tp⟩ := endsG_step hS hZ hB (hr.tp τ) hn hE
  refine ⟨fr', cs', w', e, fun τ3 => ?_, r', x1, x2, fun τ2 h2 => tp τ2 h2⟩
  obtain ⟨n2, hE2⟩ := h (fun j q => if j < w'.drawn then τ j q else τ3 j q)
  obtain ⟨m2, fr2, cs2, w2, em2, e2, h2, r2, y1, y2, tp2⟩ := endsG_step hS hZ hB (hr.tp _) hn hE2
  have e3 := tp (fun j q => if j < w'.drawn then τ j q else τ3 j q) (fun j q h1 h2 => by rw [if_pos h2]; rfl)
  have : (w.tp τ).tp (fun j q => if j < w'.drawn then τ j q else τ3 j q) = w.tp (fun j q => if j < w'.drawn then τ j q else τ3 j q) := rfl
  rw [this, e2] at e3
  obtain ⟨rfl, rfl, rfl⟩ := G_inj e3
  refine ⟨m2, ?_⟩
  have := endsG_tape hS hZ hB hF m2 r2 h2 τ3 fun j q h1 => ?_
  · exact this
  · have h1' : w'.drawn ≤ j := h1
    show τ3 j q = if j < w'.drawn then τ j q else τ3 j q
    rw [if_neg (by omega)]

/-- Whatever the tape answers, step by step: the run comes to its return. -/
inductive Run (P : Program) (Fin : Frame → World → Prop) : Frame → List Frame → World → Prop
  | fin {fr : Frame} {cs : List Frame} {w : World} : IsFin fr cs → Fin fr w → Run P Fin fr cs w
  | step {fr : Frame} {cs : List Frame} {w : World} : ¬ IsFin fr cs →
      (∀ τ, ∃ fr' cs' w', (stepG P true (G fr (cs ++ [c0 P])) (w.tp τ)).bare = .go (G fr' (cs' ++ [c0 P])) w') →
      (∀ τ fr' cs' w', (stepG P true (G fr (cs ++ [c0 P])) (w.tp τ)).bare = .go (G fr' (cs' ++ [c0 P])) w' → Run P Fin fr' cs' w') → Run P Fin fr cs w

theorem run_of_good (hS : ∀ b, ¬ Shd b) (hZ : ZeroOK P) (hB : BodiesOK P) {Fin : Frame → World → Prop} (hF : ∀ fr w τ, Fin fr w → Fin fr (w.tp τ)) {fr : Frame} {cs : List Frame} {w : World} (hr : Rel P Shd fr cs w) (h : GoodG P Fin fr cs w) : Run P Fin fr cs w := by
  apply Classical.byContradiction
  intro hnot
  let S := { σ : Frame × List Frame × World // Rel P Shd σ.1 σ.2.1 σ.2.2 ∧ GoodG P Fin σ.1 σ.2.1 σ.2.2 ∧ ¬ Run P Fin σ.1 σ.2.1 σ.2.2 }
  have nofin : ∀ σ : S, ¬ IsFin σ.1.1 σ.1.2.1 := by
    intro σ hf
    obtain ⟨n, hE⟩ := σ.2.2.1 σ.1.2.2.tape
    refine σ.2.2.2 (.fin hf ?_)
    cases n with
    | zero => exact hE.2
    | succ n =>
      rcases hE with hE | hE
      · exact hE.2
      · exact absurd hf hE.1
  have nx : ∀ σ : S, ∃ (τ : Nat → Question → Nat) (σ' : S), σ.1.2.2.drawn ≤ σ'.1.2.2.drawn ∧
      ∀ τ2, (∀ j q, σ.1.2.2.drawn ≤ j → j < σ'.1.2.2.drawn → τ2 j q = τ j q) → (stepG P true (G σ.1.1 (σ.1.2.1 ++ [c0 P])) (σ.1.2.2.tp τ2)).bare = .go (G σ'.1.1 (σ'.1.2.1 ++ [c0 P])) (σ'.1.2.2.tp τ2) := by
    intro σ
    have hn := nofin σ
    have : ∃ τ, ∀ fr' cs' w', (stepG P true (G σ.1.1 (σ.1.2.1 ++ [c0 P])) (σ.1.2.2.tp τ)).bare = .go (G fr' (cs' ++ [c0 P])) w' → ¬ Run P Fin fr' cs' w' := by
      apply Classical.byContradiction
      intro hc
      refine σ.2.2.2 (.step hn (fun τ => ?_) fun τ fr' cs' w' e => ?_)
      · obtain ⟨fr', cs', w', e, _⟩ := good_step hS hZ hB hF σ.2.1 hn σ.2.2.1 τ
        exact ⟨fr', cs', w', e⟩
      · apply Classical.byContradiction
        intro hc2
        refine hc ⟨τ, fun fr2 cs2 w2 e2 => ?_⟩
        rw [e] at e2
        obtain ⟨rfl, rfl, rfl⟩ := G_inj e2
        exact hc2
    obtain ⟨τ, hτ⟩ := this
    obtain ⟨fr', cs', w', e, hg, hr', _, hd, tp⟩ := good_step hS hZ hB hF σ.2.1 hn σ.2.2.1 τ
    exact ⟨τ, ⟨(fr', cs', w'), hr', hg, hτ _ _ _ e⟩, hd, tp⟩
  let s0 : S := ⟨(fr, cs, w), hr, h, hnot⟩
  let seq : Nat → S := fun n => Nat.rec s0 (fun _ σ => (nx σ).choose_spec.choose) n
  let ts : Nat → (Nat → Question → Nat) := fun i => (nx (seq i)).choose
  have hseq : ∀ i, (seq i).1.2.2.drawn ≤ (seq (i + 1)).1.2.2.drawn ∧
      ∀ τ2, (∀ j q, (seq i).1.2.2.drawn ≤ j → j < (seq (i + 1)).1.2.2.drawn → τ2 j q = ts i j q) →
        (stepG P true (G (seq i).1.1 ((seq i).1.2.1 ++ [c0 P])) ((seq i).1.2.2.tp τ2)).bare = .go (G (seq (i + 1)).1.1 ((seq (i + 1)).1.2.1 ++ [c0 P])) ((seq (i + 1)).1.2.2.tp τ2) :=
    fun i => (nx (seq i)).choose_spec.choose_spec
  have mono : ∀ i k, (seq i).1.2.2.drawn ≤ (seq (i + k)).1.2.2.drawn := by
    intro i k
    induction k with
    | zero => exact Nat.le_refl _
    | succ k ih => exact Nat.le_trans ih (hseq (i + k)).1
  let D : Nat → Nat := fun i => (seq i).1.2.2.drawn
  let star : Nat → Question → Nat := fun j q => open Classical in if h : ∃ i, D i ≤ j ∧ j < D (i + 1) then ts h.choose j q else 0
  have hstar : ∀ i j q, D i ≤ j → j < D (i + 1) → star j q = ts i j q := by
    intro i j q h1 h2
    have hex : ∃ i, D i ≤ j ∧ j < D (i + 1) := ⟨i, h1, h2⟩
    have hc := hex.choose_spec
    have heq : hex.choose = i := by
      rcases Nat.lt_trichotomy hex.choose i with hlt | heq | hgt
      · have := mono (hex.choose + 1) (i - (hex.choose + 1))
        rw [show hex.choose + 1 + (i - (hex.choose + 1)) = i by omega] at this
        have h3 : D (hex.choose + 1) ≤ D i := this
        omega
      · exact heq
      · have := mono (i + 1) (hex.choose - (i + 1))
        rw [show i + 1 + (hex.choose - (i + 1)) = hex.choose by omega] at this
        have h3 : D (i + 1) ≤ D hex.choose := this
        omega
    have e1 : star j q = ts hex.choose j q := dif_pos hex
    rw [e1, heq]
  have stepS : ∀ i, (stepG P true (G (seq i).1.1 ((seq i).1.2.1 ++ [c0 P])) ((seq i).1.2.2.tp star)).bare = .go (G (seq (i + 1)).1.1 ((seq (i + 1)).1.2.1 ++ [c0 P])) ((seq (i + 1)).1.2.2.tp star) :=
    fun i => (hseq i).2 star fun j q h1 h2 => hstar i j q h1 h2
  have no : ∀ n i, ¬ EndsG P Fin n (seq i).1.1 (seq i).1.2.1 ((seq i).1.2.2.tp star) := by
    intro n
    induction n with
    | zero => intro i hE; exact nofin _ hE.1
    | succ n ih =>
      intro i hE
      rcases hE with hE | ⟨_, fr', cs', w', e, hE⟩
      · exact nofin _ hE.1
      · rw [stepS i] at e
        obtain ⟨rfl, rfl, rfl⟩ := G_inj e
        exact ih (i + 1) hE
  obtain ⟨n, hE⟩ := h star
  exact no n 0 hE
end Go.Sim
