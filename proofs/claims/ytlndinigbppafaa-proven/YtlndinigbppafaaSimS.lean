/-
  An own step of such a frame on its other slots: the same step.
-/
import Derived.Test.YtlndinigbppafaaSimR
namespace Go.Sim
open Go.Conc (G)
variable {P : Program} {Shd : Nat → Prop} {R : BR}

/-- The operation that stands ahead touches no slot of a role. -/
def PlainAt (rl : Rl) (fr : Frame) : Prop := ∀ ops i rest l o, fr.todo = .inRegion ops (i :: rest) :: l → ops[i]? = some o → plainO rl o = true

theorem plainO_opd {rl : Rl} {o : Oper} (h : plainO rl o = true) : ∀ x ∈ opnds o.op, pOpd rl x = true := by
  unfold plainO at h
  rw [Bool.and_eq_true, List.all_eq_true] at h
  exact h.1
theorem plainO_dst {rl : Rl} {o : Oper} (h : plainO rl o = true) : pDst rl o.dst = true := by
  unfold plainO at h
  rw [Bool.and_eq_true] at h
  exact h.2

/-- An own step, and what there is to do behind it. -/
theorem own_ex (hS : ∀ b, ¬ Shd b) (hZ : ZeroOK P) {fr Fr fr' : Frame} {cs cs1 : List Frame} {w W w' : World} {es : Array Event} {main : Bool} (rl : Rl) (h : FR P R fr Fr) (hw : WR P Shd R w W) (ht : ∀ j q, w.tape (w.drawn + j) q = W.tape (W.drawn + j) q)
    (hm : fr.mode = .run) (hne : fr.todo ≠ []) (hit : ∀ it ∈ fr.todo, ItemR P rl it) (hpl : PlainAt rl fr) (e : stepG P main (G fr cs) w = .go (G fr' cs1) w' es) (hp : ∀ ch, fr'.mode ≠ .panicking ch) :
    (cs1 = cs ∧ (∀ it ∈ fr'.todo, ItemR P rl it) ∧ ∀ sv k cs2 main, stepG P main (G (fr.ex rl sv k) cs2) w = .go (G (fr'.ex rl sv k) cs2) w' es) ∨
    (cs1 = fr :: cs ∧ (∃ ops i rest l, fr.todo = .inRegion ops (i :: rest) :: l ∧ pDst rl ((ops[i]?).bind (·.dst)) = true) ∧ ∀ sv k cs2 main, stepG P main (G (fr.ex rl sv k) cs2) w = .go (G fr' (fr.ex rl sv k :: cs2)) w' es) := by
  have same : ∀ (l : List Item), (∀ it ∈ l, ItemR P rl it) → stepG P main (G fr cs) w = .go (G { fr with todo := l } cs) w → (∀ sv k cs2 main, stepG P main (G (fr.ex rl sv k) cs2) w = .go (G { fr.ex rl sv k with todo := l ++ k } cs2) w) →
      (cs1 = cs ∧ (∀ it ∈ fr'.todo, ItemR P rl it) ∧ ∀ sv k cs2 main, stepG P main (G (fr.ex rl sv k) cs2) w = .go (G (fr'.ex rl sv k) cs2) w' es) ∨
      (cs1 = fr :: cs ∧ (∃ ops i rest l, fr.todo = .inRegion ops (i :: rest) :: l ∧ pDst rl ((ops[i]?).bind (·.dst)) = true) ∧ ∀ sv k cs2 main, stepG P main (G (fr.ex rl sv k) cs2) w = .go (G fr' (fr.ex rl sv k :: cs2)) w' es) := by
    intro l hl e1 e2
    rw [e1] at e
    obtain ⟨rfl, rfl, rfl, rfl⟩ := G_eq e
    exact .inl ⟨rfl, hl, fun sv k cs2 main => by rw [e2]; rfl⟩
  have hi := h.items
  have hM : ∀ sv k, (fr.ex rl sv k).mode = .run := fun _ _ => hm
  have hR : ∀ sv k, (fr.ex rl sv k).roundOf = none := fun _ _ => h.round
  have hK : ∀ sv k, (fr.ex rl sv k).kind = .normal := fun _ _ => h.kind
  have hfn : ∀ sv k, (fr.ex rl sv k).fn = fr.fn := fun _ _ => rfl
  cases hd : fr.todo with
  | nil => exact absurd hd hne
  | cons it l =>
    have hD : ∀ sv k, (fr.ex rl sv k).todo = it :: (l ++ k) := fun sv k => by simp [Frame.ex, hd]
    rw [hd] at hi
    have hit' := hit
    rw [hd] at hit'
    have h0 := hi it (List.mem_cons_self ..)
    have r0 := hit' it (List.mem_cons_self ..)
    have rl' : ∀ x ∈ l, ItemR P rl x := fun x hx => hit' x (List.mem_cons_of_mem _ hx)
    have cons : ∀ {a : Item} {l : List Item}, ItemR P rl a → (∀ x ∈ l, ItemR P rl x) → ∀ x ∈ a :: l, ItemR P rl x := by
      intro a l ha hl x hx
      rcases List.mem_cons.1 hx with rfl | hx
      · exact ha
      · exact hl x hx
    rw [← hd]
    cases it with
    | inBlock i => exact same l rl' (by simp [stepG, stepG.exec, G, hm, hd]) fun sv k cs2 main => (by simp [stepG, stepG.exec, G, hM, hD])
    | inScope c => exact same l rl' (by simp [stepG, stepG.exec, G, hm, hd]) fun sv k cs2 main => (by simp [stepG, stepG.exec, G, hM, hD])
    | inLoop c => exact same (.code c :: .inLoop c :: l) (cons r0 (cons r0 rl')) (by simp [stepG, stepG.exec, G, hm, hd]) fun sv k cs2 main => (by simp [stepG, stepG.exec, G, hM, hD])
    | code c =>
      cases c with
      | ret =>
        have e1 : stepG P main (G fr cs) w = .go (G { fr with mode := .returning } cs) w := by simp [stepG, stepG.exec, G, hm, hd, h.round]
        rw [e1] at e
        obtain ⟨rfl, rfl, rfl, rfl⟩ := G_eq e
        refine .inl ⟨rfl, hit, fun sv k cs2 main => ?_⟩
        have e2 : stepG P main (G (fr.ex rl sv k) cs2) w = .go (G { fr.ex rl sv k with mode := .returning } cs2) w := by simp [stepG, stepG.exec, G, hM, hD, hR]
        rw [e2]; rfl
      | skip => exact same l rl' (by simp [stepG, stepG.exec, G, hm, hd]) fun sv k cs2 main => (by simp [stepG, stepG.exec, G, hM, hD])
      | label _ => exact same l rl' (by simp [stepG, stepG.exec, G, hm, hd]) fun sv k cs2 main => (by simp [stepG, stepG.exec, G, hM, hD])
      | seq a b => exact same (.code a :: .code b :: l) (cons r0.1 (cons r0.2 rl')) (by simp [stepG, stepG.exec, G, hm, hd]) fun sv k cs2 main => (by simp [stepG, stepG.exec, G, hM, hD])
      | block i c => exact same (.code c :: .inBlock i :: l) (cons r0 (cons trivial rl')) (by simp [stepG, stepG.exec, G, hm, hd]) fun sv k cs2 main => (by simp [stepG, stepG.exec, G, hM, hD])
      | scope c => exact same (.code c :: .inScope c :: l) (cons r0 (cons trivial rl')) (by simp [stepG, stepG.exec, G, hm, hd]) fun sv k cs2 main => (by simp [stepG, stepG.exec, G, hM, hD])
      | loop c => exact same (.code c :: .inLoop c :: l) (cons r0 (cons r0 rl')) (by simp [stepG, stepG.exec, G, hm, hd]) fun sv k cs2 main => (by simp [stepG, stepG.exec, G, hM, hD])
      | exit i =>
        cases he : exitTo i l with
        | some l' => exact same l' (fun x hx => rl' x (exitTo_mem he x hx)) (by simp [stepG, stepG.exec, G, hm, hd, he]) fun sv k cs2 main => (by simp [stepG, stepG.exec, G, hM, hD, exitTo_more k he])
        | none =>
          have : ∃ o w2, stepG P main (G fr cs) w = .ended o w2 := ⟨_, w, by simp [stepG, stepG.exec, G, hm, hd, he, h.round]; rfl⟩
          obtain ⟨o, w2, q⟩ := this
          rw [q] at e; cases e
      | cond c a b =>
        have hX : ∀ sv k, (fr.ex rl sv k).eval c = fr.eval c := fun sv k => ex_eval r0.1
        generalize hx : fr.eval c = v at hX
        have nope : (∀ t, v ≠ .bool t) → ∃ o w2, stepG P main (G fr cs) w = .ended o w2 := by
          intro hb
          cases v <;> first | exact absurd rfl (hb _) | exact ⟨_, w, by simp [stepG, stepG.exec, G, hm, hd, hx]; rfl⟩
        by_cases hb : ∃ t, v = .bool t
        · obtain ⟨t, rfl⟩ := hb
          exact same (.code (if t then a else b) :: l) (cons (by cases t; exact r0.2.2; exact r0.2.1) rl') (by simp [stepG, stepG.exec, G, hm, hd, hx]) fun sv k cs2 main => (by simp [stepG, stepG.exec, G, hM, hD, hX])
        · obtain ⟨o, w2, q⟩ := nope fun t q => hb ⟨t, q⟩
          rw [q] at e; cases e
      | region i ops draw =>
        cases draw with
        | false => exact same (.inRegion ops (List.range ops.size) :: l) (cons r0 rl') (by simp [stepG, stepG.exec, G, hm, hd]) fun sv k cs2 main => (by simp [stepG, stepG.exec, G, hM, hD])
        | true =>
          have e1 : stepG P main (G fr cs) w = .go (G { fr with todo := .inRegion ops (Region.schedule (P.follows .mixedOrders) ops (w.tape w.drawn (.order fr.fn i))) :: l } cs) { w with drawn := w.drawn + 1 } := by simp [stepG, stepG.exec, G, hm, hd, choose, Sem.run, Question.forced, Question.cut]
          rw [e1] at e
          obtain ⟨rfl, rfl, rfl, rfl⟩ := G_eq e
          refine .inl ⟨rfl, cons r0 rl', fun sv k cs2 main => ?_⟩
          have e2 : stepG P main (G (fr.ex rl sv k) cs2) w = .go (G { fr.ex rl sv k with todo := .inRegion ops (Region.schedule (P.follows .mixedOrders) ops (w.tape w.drawn (.order fr.fn i))) :: (l ++ k) } cs2) { w with drawn := w.drawn + 1 } := by
            simp [stepG, stepG.exec, G, hM, hD, hfn, choose, Sem.run, Question.forced, Question.cut]
          rw [e2]; rfl
      | _ => exact h0.elim
    | inRegion ops todo =>
      cases todo with
      | nil => exact same l rl' (by simp [stepG, stepG.exec, G, hm, hd]) fun sv k cs2 main => (by simp [stepG, stepG.exec, G, hM, hD])
      | cons i rest =>
        have hfi : ∀ v, ∀ it ∈ (fr.finish v).todo, ItemR P rl it := by
          intro v
          have : (fr.finish v).todo = .inRegion ops rest :: l := by simp [Frame.finish, hd]
          rw [this]
          exact cons r0 rl'
        cases hwt : ((ops[i]?).map (Region.wanted · (yielded ops fr.tmps))).getD false with
        | false =>
          have e1 : stepG P main (G fr cs) w = .go (G (fr.finish Go.undef) cs) w := by simp [stepG, stepG.exec, G, hm, hd, hwt]
          rw [e1] at e
          obtain ⟨rfl, rfl, rfl, rfl⟩ := G_eq e
          have hdst : pDst rl ((ops[i]?).bind (·.dst)) = true := by
            cases ho : ops[i]? with
            | none => rfl
            | some o => exact plainO_dst (hpl ops i rest l o hd ho)
          have hwT : ∀ sv k, ((ops[i]?).map (Region.wanted · (yielded ops (fr.ex rl sv k).tmps))).getD false = false := fun sv k => by
            cases ho : ops[i]? with
            | none => rfl
            | some o =>
              rw [ho] at hwt
              show Region.wanted o (yielded ops (ov rl sv fr.tmps)) = false
              rw [wanted_ex (r0 o (Array.mem_of_getElem? ho)).1]
              exact hwt
          refine .inl ⟨rfl, hfi _, fun sv k cs2 main => ?_⟩
          rw [← ex_finish hd hdst]
          simp [stepG, stepG.exec, G, hM, hD, hwT]
        | true =>
          cases ho : ops[i]? with
          | none => rw [ho] at hwt; cases hwt
          | some o =>
            have hwo : Region.wanted o (yielded ops fr.tmps) = true := by rw [ho] at hwt; exact hwt
            have hmem : o ∈ ops := Array.mem_of_getElem? ho
            have hpo := hpl ops i rest l o hd ho
            have hdst : pDst rl ((ops[i]?).bind (·.dst)) = true := by rw [ho]; exact plainO_dst hpo
            have hwT : ∀ sv k, ((ops[i]?).map (Region.wanted · (yielded ops (fr.ex rl sv k).tmps))).getD false = true := fun sv k => by
              rw [ho]
              show Region.wanted o (yielded ops (ov rl sv fr.tmps)) = true
              rw [wanted_ex (r0 o hmem).1]
              exact hwo
            have hop : OpOK P o.op := h0 o hmem
            have er : fr.oper? = some o := by simp [Frame.oper?, hd, ho]
            have eR : ∀ sv k, (fr.ex rl sv k).oper? = some o := fun sv k => by simp [Frame.oper?, hD, ho]
            have hev : ∀ sv k, execOp (fr.ex rl sv k).eval o = execOp fr.eval o := fun sv k => execOp_congr o hop fun x hx => ex_eval (plainO_opd hpo x hx)
            have hsm := sim_execOp (Shd := Shd) hS hZ (f := fr.eval) (g := Fr.eval) (fun x hx => h.eval x hx) (fun _ => rfl) (fun _ => rfl) o hop w W hw ht
            have dead : ∀ {o2 : Outcome} {w2 : World} {es2 : Array Event}, stepG P main (G fr cs) w ≠ .ended o2 w2 es2 := fun q => by rw [q] at e; cases e
            cases hr : (execOp fr.eval o).run P w with
            | halt x w1 =>
              have hx := hsm.1 _ _ hr
              cases x with
              | panic v =>
                have e1 : stepG P main (G fr cs) w = .go (G (fr.raise [{ v, recovered := false }]) cs) w1 (seen P fr.fn ((execOp fr.eval o).events P w #[])) := by simp [stepG, stepG.exec, G, hm, hd, hwt, stepG.oper, er, h.round, stepG.apply, hr, h.kind, GStep.after]
                rw [e1] at e
                obtain ⟨rfl, rfl, rfl, rfl⟩ := G_eq e
                obtain ⟨ch, hc⟩ := raise_mode fr [{ v, recovered := false }]
                exact absurd hc (hp ch)
              | stuck t => exact (dead (w2 := w1) (es2 := seen P fr.fn ((execOp fr.eval o).events P w #[])) (by simp [stepG, stepG.exec, G, hm, hd, hwt, stepG.oper, er, h.round, stepG.apply, hr, h.kind, GStep.after]; rfl)).elim
              | unsupported u =>
                cases u with
                | initOrder _ => exact hx.elim
                | _ => exact (dead (w2 := w1) (es2 := seen P fr.fn ((execOp fr.eval o).events P w #[])) (by simp [stepG, stepG.exec, G, hm, hd, hwt, stepG.oper, er, h.round, stepG.apply, hr, h.kind, GStep.after]; rfl)).elim
              | _ => exact hx.elim
            | ok a w1 =>
              obtain ⟨R', b, W', -, q, -⟩ := hsm.2 _ _ hr
              cases q with
              | value hv =>
                rename_i v V
                have e1 : stepG P main (G fr cs) w = .go (G (fr.finish v) cs) w1 (seen P fr.fn ((execOp fr.eval o).events P w #[])) := by simp [stepG, stepG.exec, G, hm, hd, hwt, stepG.oper, er, h.round, stepG.apply, hr, h.kind, GStep.after]
                rw [e1] at e
                obtain ⟨rfl, rfl, rfl, rfl⟩ := G_eq e
                refine .inl ⟨rfl, hfi v, fun sv k cs2 main => ?_⟩
                rw [← ex_finish hd hdst]
                simp [stepG, stepG.exec, G, hM, hD, hwT, stepG.oper, eR, hR, stepG.apply, hev, hfn, hr, hK, GStep.after]
              | skip =>
                have e1 : stepG P main (G fr cs) w = .go (G (fr.finish Go.undef) cs) w1 (seen P fr.fn ((execOp fr.eval o).events P w #[])) := by simp [stepG, stepG.exec, G, hm, hd, hwt, stepG.oper, er, h.round, stepG.apply, hr, h.kind, GStep.after]
                rw [e1] at e
                obtain ⟨rfl, rfl, rfl, rfl⟩ := G_eq e
                refine .inl ⟨rfl, hfi _, fun sv k cs2 main => ?_⟩
                rw [← ex_finish hd hdst]
                simp [stepG, stepG.exec, G, hM, hD, hwT, stepG.oper, eR, hR, stepG.apply, hev, hfn, hr, hK, GStep.after]
              | enter f hf hv =>
                rename_i x X
                have e1 : stepG P main (G fr cs) w = .go (G (Frame.enter P f x .normal) (fr :: cs)) w1 (seen P fr.fn ((execOp fr.eval o).events P w #[])) := by simp [stepG, stepG.exec, G, hm, hd, hwt, stepG.oper, er, h.round, stepG.apply, hr, h.kind, GStep.after]
                rw [e1] at e
                obtain ⟨rfl, rfl, rfl, rfl⟩ := G_eq e
                refine .inr ⟨rfl, ⟨ops, i, rest, l, hd, hdst⟩, fun sv k cs2 main => ?_⟩
                simp [stepG, stepG.exec, G, hM, hD, hwT, stepG.oper, eR, hR, stepG.apply, hev, hfn, hr, hK, GStep.after]
    | _ => exact h0.elim
end Go.Sim
