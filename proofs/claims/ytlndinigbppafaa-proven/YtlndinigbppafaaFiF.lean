/-
  A goroutine's own step that the simulation bears: the same in whatever company, on whatever tape that answers alike.
-/
import Derived.Test.YtlndinigbppafaaFiE
namespace Go.Fi
open Go.Sim
open Go.Conc (G)
variable {P : Program} {Shd : Nat → Prop} {R : BR}

/-- What is known of an own step. -/
structure Co (P : Program) (fr : Frame) (cs : List Frame) (w : World) (fr' : Frame) (cs' : List Frame) (w' : World) : Prop where
  size : w.heap.size ≤ w'.heap.size
  tape : w'.tape = w.tape
  os : w'.os = w.os
  output : w'.output = w.output
  drawn : w.drawn ≤ w'.drawn
  go : ∀ K main τ d, (∀ j q, j < w'.drawn - w.drawn → τ (d + j) q = w.tape (w.drawn + j) q) → ∃ es, stepG P main (G fr (cs ++ K)) (w.td τ d) = .go (G fr' (cs' ++ K)) (w'.td τ (d + (w'.drawn - w.drawn))) es ∧ ∀ e ∈ es, EvF w'.heap.size e

theorem bare_go {s : GStep} {g : Goroutine} {w : World} (h : s.bare = .go g w) : ∃ es, s = .go g w es := by
  cases s <;> simp [GStep.bare] at h
  obtain ⟨rfl, rfl⟩ := h
  exact ⟨_, rfl⟩

theorem Co.pure {fr fr' : Frame} {cs cs' : List Frame} {w : World} (h : ∀ K main (w : World), stepG P main (G fr (cs ++ K)) w = .go (G fr' (cs' ++ K)) w) : Co P fr cs w fr' cs' w :=
  ⟨Nat.le_refl _, rfl, rfl, rfl, Nat.le_refl _, fun K main τ d _ => ⟨#[], by rw [h]; simp, fun e he => by simp at he⟩⟩

theorem step_co (hS : ∀ b, ¬ Shd b) (hZ : ZeroOK P) {fr Fr c0 : Frame} {cs Cs : List Frame} {w W : World} (h : FR P R fr Fr) (hcs : FRs P R cs Cs) (hw : WR P Shd R w W)
    (ht : ∀ j q, w.tape (w.drawn + j) q = W.tape (W.drawn + j) q) (hn : fr.mode = .returning → cs ≠ []) {fr' : Frame} {cs' : List Frame} {w' : World}
    (hs : (stepG P true (G fr (cs ++ [c0])) w).bare = .go (G fr' (cs' ++ [c0])) w') (hp : ∀ ch, fr'.mode ≠ .panicking ch) : Co P fr cs w fr' cs' w' := by
  have same : ∀ (fr2 : Frame), (∀ K main (w : World), stepG P main (G fr (cs ++ K)) w = .go (G fr2 (cs ++ K)) w) → Co P fr cs w fr' cs' w' := by
    intro fr2 e
    rw [e] at hs
    obtain ⟨rfl, rfl, rfl⟩ := G_inj hs
    exact Co.pure e
  have dead : ∀ {o : Outcome} {w2 : World}, (stepG P true (G fr (cs ++ [c0])) w).bare = .ended o w2 → Co P fr cs w fr' cs' w' := by
    intro o w2 e
    rw [e] at hs; cases hs
  rcases h.modes with hm | hm
  · have hi := h.items
    cases hd : fr.todo with
    | nil => exact same { fr with mode := .returning } fun K main w => by simp [stepG, stepG.exec, G, hm, hd, h.round]
    | cons it k =>
      rw [hd] at hi
      have h0 := hi it (List.mem_cons_self ..)
      cases it with
      | inBlock i => exact same { fr with todo := k } fun K main w => by simp [stepG, stepG.exec, G, hm, hd]
      | inScope c => exact same { fr with todo := k } fun K main w => by simp [stepG, stepG.exec, G, hm, hd]
      | inLoop c => exact same { fr with todo := .code c :: .inLoop c :: k } fun K main w => by simp [stepG, stepG.exec, G, hm, hd]
      | code c =>
        cases c with
        | ret => exact same { fr with mode := .returning } fun K main w => by simp [stepG, stepG.exec, G, hm, hd, h.round]
        | skip => exact same { fr with todo := k } fun K main w => by simp [stepG, stepG.exec, G, hm, hd]
        | label l => exact same { fr with todo := k } fun K main w => by simp [stepG, stepG.exec, G, hm, hd]
        | seq a b => exact same { fr with todo := .code a :: .code b :: k } fun K main w => by simp [stepG, stepG.exec, G, hm, hd]
        | block i c => exact same { fr with todo := .code c :: .inBlock i :: k } fun K main w => by simp [stepG, stepG.exec, G, hm, hd]
        | scope c => exact same { fr with todo := .code c :: .inScope c :: k } fun K main w => by simp [stepG, stepG.exec, G, hm, hd]
        | loop c => exact same { fr with todo := .code c :: .inLoop c :: k } fun K main w => by simp [stepG, stepG.exec, G, hm, hd]
        | exit i =>
          cases he : exitTo i k with
          | some k' => exact same { fr with todo := k' } fun K main w => by simp [stepG, stepG.exec, G, hm, hd, he]
          | none => exact dead (w2 := w) (by simp [stepG, stepG.exec, G, hm, hd, he, h.round]; rfl)
        | cond c a b =>
          have hv := h.eval c h0.1
          generalize hx : fr.eval c = v at hv
          generalize Fr.eval c = V at hv
          cases hv with
          | bool t => exact same { fr with todo := .code (if t then a else b) :: k } fun K main w => by simp [stepG, stepG.exec, G, hm, hd, hx]
          | _ => exact dead (w2 := w) (by simp [stepG, stepG.exec, G, hm, hd, hx]; rfl)
        | region i ops draw =>
          cases draw with
          | false => exact same { fr with todo := .inRegion ops (List.range ops.size) :: k } fun K main w => by simp [stepG, stepG.exec, G, hm, hd]
          | true =>
            have e : ∀ K main (w : World), stepG P main (G fr (cs ++ K)) w = .go (G { fr with todo := .inRegion ops (Region.schedule (P.follows .mixedOrders) ops (w.tape w.drawn (.order fr.fn i))) :: k } (cs ++ K)) { w with drawn := w.drawn + 1 } := by
              intro K main w
              simp [stepG, stepG.exec, G, hm, hd, choose, Sem.run, Question.forced, Question.cut]
            rw [e] at hs
            obtain ⟨rfl, rfl, rfl⟩ := G_inj hs
            refine ⟨Nat.le_refl _, rfl, rfl, rfl, Nat.le_succ _, fun K main τ d hτ => ⟨#[], ?_, fun e he => by simp at he⟩⟩
            have t0 := hτ 0 (.order fr.fn i) (by show 0 < w.drawn + 1 - w.drawn; omega)
            simp only [Nat.add_zero] at t0
            rw [e]
            have e2 : (w.td τ d).tape (w.td τ d).drawn (.order fr.fn i) = w.tape w.drawn (.order fr.fn i) := t0
            rw [e2]
            congr 1
            show ({ w.td τ d with drawn := d + 1 } : World) = ({ w with drawn := w.drawn + 1 } : World).td τ (d + (w.drawn + 1 - w.drawn))
            rw [show d + (w.drawn + 1 - w.drawn) = d + 1 by omega]
            rfl
        | _ => exact h0.elim
      | inRegion ops todo =>
        cases todo with
        | nil => exact same { fr with todo := k } fun K main w => by simp [stepG, stepG.exec, G, hm, hd]
        | cons i rest =>
          cases hwt : ((ops[i]?).map (Region.wanted · (yielded ops fr.tmps))).getD false with
          | false => exact same (fr.finish Go.undef) fun K main w => by simp [stepG, stepG.exec, G, hm, hd, hwt]
          | true =>
            cases ho : ops[i]? with
            | none => rw [ho] at hwt; cases hwt
            | some o =>
              have hop : OpOK P o.op := h0 o (Array.mem_of_getElem? ho)
              have er : fr.oper? = some o := by simp [Frame.oper?, hd, ho]
              have hfk := fk_execOp (f := fr.eval) (g := Fr.eval) (fun x hx => h.eval x hx) o hop hw ht
              have fin : ∀ {a : Next} {w1 : World} {fr2 : Frame} {cs2 : List Frame}, (execOp fr.eval o).run P w = .ok a w1 →
                  (∀ K main (w w1 : World), (execOp fr.eval o).run P w = .ok a w1 → stepG P main (G fr (cs ++ K)) w = .go (G fr2 (cs2 ++ K)) w1 (seen P fr.fn ((execOp fr.eval o).events P w #[]))) → Co P fr cs w fr' cs' w' := by
                intro a w1 fr2 cs2 hr e
                rw [e _ _ _ _ hr] at hs
                obtain ⟨rfl, rfl, rfl⟩ := G_inj hs
                have q := hfk a w1 hr
                refine ⟨q.size, q.tape, q.os, q.output, q.drawn, fun K main τ d hτ => ?_⟩
                obtain ⟨r1, r2⟩ := q.shift τ d hτ
                exact ⟨_, e K main _ _ r1, fun ev he => r2 ev (Conc.mem_seen he)⟩
              have hsm := sim_execOp (Shd := Shd) hS hZ (f := fr.eval) (g := Fr.eval) (fun x hx => h.eval x hx) (fun _ => rfl) (fun _ => rfl) o hop w W hw ht
              cases hr : (execOp fr.eval o).run P w with
              | halt x w1 =>
                have hx := hsm.1 _ _ hr
                cases x with
                | panic v =>
                  have e : (stepG P true (G fr (cs ++ [c0])) w).bare = .go (G (fr.raise [{ v, recovered := false }]) (cs ++ [c0])) w1 := by simp [stepG, stepG.exec, G, hm, hd, hwt, stepG.oper, er, h.round, stepG.apply, hr, h.kind]
                  rw [e] at hs
                  obtain ⟨rfl, rfl, rfl⟩ := G_inj hs
                  obtain ⟨ch, hc⟩ := raise_mode fr [{ v, recovered := false }]
                  exact absurd hc (hp ch)
                | stuck t => exact dead (w2 := w1) (by simp [stepG, stepG.exec, G, hm, hd, hwt, stepG.oper, er, h.round, stepG.apply, hr, h.kind]; rfl)
                | unsupported u =>
                  cases u with
                  | initOrder _ => exact hx.elim
                  | _ => exact dead (w2 := w1) (by simp [stepG, stepG.exec, G, hm, hd, hwt, stepG.oper, er, h.round, stepG.apply, hr, h.kind]; rfl)
                | _ => exact hx.elim
              | ok a w1 =>
                obtain ⟨R', b, W', -, q, -⟩ := hsm.2 _ _ hr
                cases q with
                | value hv =>
                  rename_i v V
                  exact fin (fr2 := fr.finish v) (cs2 := cs) hr fun K main w w1 hr => by simp [stepG, stepG.exec, G, hm, hd, hwt, stepG.oper, er, h.round, stepG.apply, hr, h.kind, GStep.after]
                | skip => exact fin (fr2 := fr.finish Go.undef) (cs2 := cs) hr fun K main w w1 hr => by simp [stepG, stepG.exec, G, hm, hd, hwt, stepG.oper, er, h.round, stepG.apply, hr, h.kind, GStep.after]
                | enter f hf hv =>
                  rename_i x X
                  exact fin (fr2 := Frame.enter P f x .normal) (cs2 := fr :: cs) hr fun K main w w1 hr => by simp [stepG, stepG.exec, G, hm, hd, hwt, stepG.oper, er, h.round, stepG.apply, hr, h.kind, GStep.after]
      | _ => exact h0.elim
  · obtain ⟨fn, hf⟩ := h.func
    cases cs with
    | nil => exact absurd rfl (hn hm)
    | cons c cs =>
      have hfk := Fine.fk (P := P) (fine_results fn fr.tmps) w
      cases hr : (results fn fr.tmps).run P w with
      | halt x w1 =>
        cases x with
        | stuck t => exact dead (w2 := w1) (by simp [stepG, G, hm, unwind, h.defers, hf, hr]; rfl)
        | _ => exact dead (w2 := w1) (by simp [stepG, G, hm, unwind, h.defers, hf, hr]; rfl)
      | ok v w1 =>
        have e : ∀ K main (w w1 : World), (results fn fr.tmps).run P w = .ok v w1 → stepG P main (G fr (c :: cs ++ K)) w = .go (G (c.finish v) (cs ++ K)) w1 (seen P fr.fn ((results fn fr.tmps).events P w #[])) := fun K main w w1 hr => by simp [stepG, G, hm, unwind, h.defers, hf, hr, doReturn, h.kind, GStep.after]
        rw [e _ _ _ _ hr] at hs
        obtain ⟨rfl, rfl, rfl⟩ := G_inj hs
        have q := hfk v w1 hr
        refine ⟨q.size, q.tape, q.os, q.output, q.drawn, fun K main τ d hτ => ?_⟩
        obtain ⟨r1, r2⟩ := q.shift τ d hτ
        exact ⟨_, e K main _ _ r1, fun ev he => r2 ev (Conc.mem_seen he)⟩
end Go.Fi
