/-
  A child in company: what the others may do meanwhile, what it may do, and how it comes to its send.
-/
import Derived.Test.YtlndinigbppafaaSimN
import Derived.Conc.CrowdComm
namespace Go.Sim
open Go.Conc (G scase rcase)
variable {P : Program} {Shd : Nat → Prop} {R : BR}

/-- The others leave alone what is mine and what I read. -/
structure RelyC (O Rd : Nat → Prop) (W W₁ : World) : Prop where
  size : W.heap.size ≤ W₁.heap.size
  keep : ∀ b, O b ∨ Rd b → W₁.heap[b]? = W.heap[b]?
theorem RelyC.refl (O Rd : Nat → Prop) (W : World) : RelyC O Rd W W := ⟨Nat.le_refl _, fun _ _ => rfl⟩
theorem RelyC.trans {O Rd : Nat → Prop} {W W₁ W₂ : World} (h : RelyC O Rd W W₁) (k : RelyC O Rd W₁ W₂) : RelyC O Rd W W₂ := ⟨Nat.le_trans h.size k.size, fun b hb => (k.keep b hb).trans (h.keep b hb)⟩

/-- What is mine behind a step: what was, and what the step made. -/
def grow (O : Nat → Prop) (W₁ W' : World) (b : Nat) : Prop := O b ∨ (W₁.heap.size ≤ b ∧ b < W'.heap.size)

/-- A plain touch of a block that is mine, or a read of one that I may read. -/
def EvC (O Rd : Nat → Prop) (e : Event) : Prop := e.loc = .mark .noRoom ∨ (e.sync = false ∧ ∃ b, ((∃ A : Addr, e.loc = .cell A ∧ A.block = b) ∨ e.loc = .obj b) ∧ (O b ∨ (Rd b ∧ e.write = false)))

structure GuarC (O Rd : Nat → Prop) (W₁ W' : World) (es : Array Event) : Prop where
  size : W₁.heap.size ≤ W'.heap.size
  keep : ∀ b, b < W₁.heap.size → ¬ O b → W'.heap[b]? = W₁.heap[b]?
  tape : W'.tape = W₁.tape
  os : W'.os = W₁.os
  output : W'.output = W₁.output
  ev : ∀ e ∈ es, EvC (grow O W₁ W') Rd e

/-- It stands at its send, with a value that holds what is asked, whatever the others do; behind it 'Then'. -/
def AtSend (P : Program) (c : Nat) (Post : Value → World → Prop) (Then : Goroutine → Prop) (O : Nat → Prop) (g : Goroutine) (W : World) : Prop :=
  ∃ g₂ V z, stepG P false g W = .comm g₂ #[scase c V z] true .send W #[] ∧ (∀ W', (∀ b, O b → W'.heap[b]? = W.heap[b]?) → Post V W') ∧ Then (Go.Conc.served g₂ undef)

/-- A CHILD ON ITS WAY TO ITS SEND. -/
inductive Ch (P : Program) (c : Nat) (Rd : Nat → Prop) (Post : Value → World → Prop) (Then : Goroutine → Prop) : (Nat → Prop) → Goroutine → World → Prop
  | go {O : Nat → Prop} {g : Goroutine} {W : World} : g.status = .running → (∀ W₁, RelyC O Rd W W₁ → ∃ g' W' es, stepG P false g W₁ = .go g' W' es ∧ GuarC O Rd W₁ W' es) →
      (∀ W₁ g' W' es, RelyC O Rd W W₁ → stepG P false g W₁ = .go g' W' es → Ch P c Rd Post Then (grow O W₁ W') g' W') → Ch P c Rd Post Then O g W
  | send {O : Nat → Prop} {g : Goroutine} {W : World} : g.status = .running → (∀ W₁, RelyC O Rd W W₁ → AtSend P c Post Then O g W₁) → Ch P c Rd Post Then O g W

theorem Ch.running {c : Nat} {Rd : Nat → Prop} {Post : Value → World → Prop} {Then : Goroutine → Prop} {O : Nat → Prop} {g : Goroutine} {W : World} (h : Ch P c Rd Post Then O g W) : g.status = .running := by cases h <;> assumption
theorem Ch.rely {c : Nat} {Rd : Nat → Prop} {Post : Value → World → Prop} {Then : Goroutine → Prop} {O : Nat → Prop} {g : Goroutine} {W W₁ : World} (h : Ch P c Rd Post Then O g W) (hr : RelyC O Rd W W₁) : Ch P c Rd Post Then O g W₁ := by
  cases h with
  | go h1 h2 h3 => exact .go h1 (fun W₂ k => h2 W₂ (hr.trans k)) fun W₂ g' W' es k e => h3 W₂ g' W' es (hr.trans k) e
  | send h1 h2 => exact .send h1 fun W₂ k => h2 W₂ (hr.trans k)

/-- One step that is the same whatever the others did. -/
theorem Ch.one {c : Nat} {Rd : Nat → Prop} {Post : Value → World → Prop} {Then : Goroutine → Prop} {O : Nat → Prop} {g : Goroutine} {W : World} (h1 : g.status = .running)
    (h : ∀ W₁, RelyC O Rd W W₁ → ∃ g' W' es, stepG P false g W₁ = .go g' W' es ∧ GuarC O Rd W₁ W' es ∧ Ch P c Rd Post Then (grow O W₁ W') g' W') : Ch P c Rd Post Then O g W := by
  refine .go h1 (fun W₁ k => ?_) fun W₁ g' W' es k e => ?_
  · obtain ⟨g', W', es, e, hg, _⟩ := h W₁ k
    exact ⟨g', W', es, e, hg⟩
  · obtain ⟨g2, W2, es2, e2, _, hc⟩ := h W₁ k
    rw [e] at e2
    cases e2
    exact hc

theorem run_bad {Fin : Frame → World → Prop} {fr : Frame} {cs : List Frame} {w : World} (h : Run P Fin fr cs w) : ¬ Bad (P := P) fr cs := by
  induction h with
  | fin hf _ =>
    intro hb
    obtain ⟨ch, hm⟩ := hb.mode
    have := hf.1
    rw [hm] at this; cases this
  | @step fr cs w hn hex hst ih =>
    intro hb
    obtain ⟨ch, hm⟩ := hb.mode
    obtain ⟨f, hf⟩ := hb.func
    have hc : fr.catches P = false := by unfold Frame.catches; simp [hf]
    cases cs with
    | cons c cs =>
      have hs : (stepG P true (G fr (c :: cs ++ [c0 P])) (w.tp w.tape)).bare = .go (G (c.raise ch) (cs ++ [c0 P])) (w.tp w.tape) := by simp [stepG, G, hm, unwind, hb.defers, hc]
      have hcc := hb.callers c (List.mem_cons_self ..)
      exact ih w.tape _ _ _ hs ⟨raise_mode _ _, by rw [raise_defers]; exact hcc.1, by rw [raise_fn]; exact hcc.2, fun x hx => hb.callers x (List.mem_cons_of_mem _ hx)⟩
    | nil =>
      obtain ⟨fr', cs', w', e⟩ := hex w.tape
      have hs : (stepG P true (G fr ([] ++ [c0 P])) (w.tp w.tape)).bare = .go (G ((c0 P).raise ch) []) (w.tp w.tape) := by simp [stepG, G, hm, unwind, hb.defers, hc]
      rw [hs] at e
      simp only [GStep.go.injEq, G, Goroutine.mk.injEq] at e
      have := e.1.2.1
      simp at this

theorem WR.rely {O Rd : Nat → Prop} {w W W₁ : World} (h : WR P Shd R w W) (hO : ∀ b B, R b B → (Shd b ∧ Rd B) ∨ (¬ Shd b ∧ O B)) (hr : RelyC O Rd W W₁) : WR P Shd R w W₁ := by
  refine ⟨fun b B hb => ?_, h.inj, h.shd, h.low, h.glob.1, Nat.le_trans h.glob.2 hr.size⟩
  obtain ⟨o, O', h1, h2, h3⟩ := h.dom b B hb
  refine ⟨o, O', h1, ?_, h3⟩
  rw [hr.keep B ((hO b B hb).elim (fun x => .inr x.2) fun x => .inl x.2), h2]

/-- A CALL IN COMPANY, BY ITS LONE RUN. -/
theorem ch_run (hS : ∀ b, ¬ Shd b) (hZ : ZeroOK P) (hB : BodiesOK P) {c : Nat} {Rd : Nat → Prop} {Post : Value → World → Prop} {Then : Goroutine → Prop} {Fin : Frame → World → Prop} {K : List Frame} {fr : Frame} {cs : List Frame} {w : World} (h : Run P Fin fr cs w) :
    ∀ {R : BR} {O : Nat → Prop} {Fr : Frame} {Cs : List Frame} {W : World}, FR P R fr Fr → FRs P R cs Cs → WR P Shd R w W → (∀ b B, R b B → (Shd b ∧ Rd B) ∨ (¬ Shd b ∧ O B)) → (∀ b, Rd b → b < W.heap.size ∧ ¬ O b) →
      (∀ {R' : BR} {O' : Nat → Prop} {fr' Fr' : Frame} {w' W' : World}, FR P R' fr' Fr' → fr'.mode = .returning → Fin fr' w' → WR P Shd R' w' W' → (∀ b B, R' b B → (Shd b ∧ Rd B) ∨ (¬ Shd b ∧ O' B)) → (∀ b, O b → O' b) → RelyC (fun _ => False) Rd W W' → (∀ b, Rd b → ¬ O' b) →
        Ch P c Rd Post Then O' (G Fr' K) W') → Ch P c Rd Post Then O (G Fr (Cs ++ K)) W := by
  induction h with
  | @fin fr cs w hf hF =>
    intro R O Fr Cs W h1 h2 h3 h4 h5 hk
    obtain ⟨hm, rfl⟩ := hf
    cases Cs with
    | nil => exact hk h1 hm hF h3 h4 (fun _ h => h) (RelyC.refl _ _ _) fun b hb => (h5 b hb).2
    | cons _ _ => exact h2.elim
  | @step fr cs w hn hex hst ih =>
    intro R O Fr Cs W h1 h2 h3 h4 h5 hk
    refine Ch.one rfl fun W₁ hr => ?_
    have hw1 := h3.rely h4 hr
    have hs := step_sim hS hZ hB (c0 := c0 P) (K := K) (w := w.tp (mt W₁ w)) h1 h2 (hw1.tp (mt W₁ w) W₁.tape) (fun j q => by show mt W₁ w (w.drawn + j) q = _; simp [mt, World.tp]) (fun hm hc => hn ⟨hm, hc⟩) true false
    rcases hs with hs | hf
    · obtain ⟨fr', cs', w', e, R', Fr', Cs', W', Es, E, f1, f2, f3, x, ev, _⟩ := hs
      have hO' : ∀ b B, R' b B → (Shd b ∧ Rd B) ∨ (¬ Shd b ∧ grow O W₁ W' B) := by
        intro b B hb
        rcases x.new b B hb with hb' | ⟨y1, y2⟩
        · rcases h4 b B hb' with h | h
          · exact .inl h
          · exact .inr ⟨h.1, .inl h.2⟩
        · refine .inr ⟨fun hS => ?_, .inr ⟨y2, (f3.old hb).2⟩⟩
          have := h3.shd b hS
          have y1' : w.heap.size ≤ b := y1
          omega
      refine ⟨_, W', Es, E, ?_, ?_⟩
      · refine ⟨x.size, fun b hb hno => x.keep b hb fun b' hb' => ?_, x.tape, x.os, x.output, fun e he => ?_⟩
        · rcases h4 b' b hb' with h | h
          · exact h.1
          · exact absurd h.2 hno
        · rcases ev e he with h | ⟨h0, b, B, hb, ht, hwr⟩
          · exact .inl h
          · refine .inr ⟨h0, B, ht, ?_⟩
            rcases hO' b B hb with h | h
            · refine .inr ⟨h.2, ?_⟩
              cases hx : e.write with
              | false => rfl
              | true => exact absurd h.1 (hwr hx)
            · exact .inl h.2
      · have h5' : ∀ b, Rd b → b < W'.heap.size ∧ ¬ grow O W₁ W' b := by
          intro b hb
          have := h5 b hb
          have s1 := hr.size
          have s2 : W₁.heap.size ≤ W'.heap.size := x.size
          refine ⟨by omega, fun hg => hg.elim this.2 fun y => ?_⟩
          omega
        refine ih (mt W₁ w) fr' cs' w' e f1 f2 f3 hO' h5' ?_
        intro R2 O2 fr2 Fr2 w2 W2 g1 g2 g3 g4 g5 g6 g7 g8
        refine hk g1 g2 g3 g4 g5 (fun b hb => g6 b (.inl hb)) ⟨Nat.le_trans hr.size (Nat.le_trans x.size g7.size), fun b hb => ?_⟩ g8
        have hb' : Rd b := hb.elim False.elim id
        rw [g7.keep b hb, x.keep b ?_ ?_, ← hr.keep b (.inr hb')]
        · rfl
        · have := (h5 b hb').1
          exact Nat.lt_of_lt_of_le this hr.size
        · intro b' hb2
          rcases h4 b' b hb2 with h | h
          · exact h.1
          · exact absurd h.2 (h5 b hb').2
    · exfalso
      rcases hf with ⟨fr1, w1, hs, hp, hd, hfn⟩ | ⟨o, w1, hs⟩
      · exact run_bad (hst (mt W₁ w) fr1 cs w1 hs) ⟨hp, hd, hfn, h2.bad⟩
      · obtain ⟨fr', cs', w', e⟩ := hex (mt W₁ w)
        rw [hs] at e
        cases e
end Go.Sim
