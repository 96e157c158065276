/-
  The simulation of a goroutine's own step: the law.
-/
import Derived.Test.YtlndinigbppafaaSimK
namespace Go.Sim
open Go.Conc (G)
variable {P : Program} {Shd : Nat → Prop} {R : BR}

/-- What a step comes to, in the lone world and in the other. -/
def StepTo (P : Program) (Shd : Nat → Prop) (R : BR) (c0 : Frame) (K : List Frame) (w W : World) (s S : GStep) (t : (Nat → Question → Nat) → GStep) : Prop :=
  ∃ fr' cs' w', s.bare = .go (G fr' (cs' ++ [c0])) w' ∧ ∃ R' Fr' Cs' W' Es, S = .go (G Fr' (Cs' ++ K)) W' Es ∧ FR P R' fr' Fr' ∧ FRs P R' cs' Cs' ∧ WR P Shd R' w' W' ∧ EX Shd R R' w W w' W' ∧ (∀ e ∈ Es, EvOK Shd R' e) ∧
    ∀ τ, (∀ j q, w.drawn ≤ j → j < w'.drawn → τ j q = w.tape j q) → (t τ).bare = .go (G fr' (cs' ++ [c0])) (w'.tp τ)
def Fails (P : Program) (c0 : Frame) (cs : List Frame) (s : GStep) : Prop :=
  (∃ fr' w', s.bare = .go (G fr' (cs ++ [c0])) w' ∧ (∃ ch, fr'.mode = .panicking ch) ∧ fr'.defers = [] ∧ ∃ f, P.funcs[fr'.fn]? = some f) ∨ ∃ o w', s.bare = .ended o w'

theorem yielded_eq {ops : Array Oper} {t T : Array Value} (h : VRs P R t T) : yielded ops t = yielded ops T := by
  funext j
  unfold yielded
  cases hd : (ops[j]?).bind (·.dst) with
  | none => rfl
  | some d =>
    simp only [Option.bind_some]
    cases ht : t[d]? with
    | none =>
      have : T[d]? = none := by
        have := h.1
        rw [Array.getElem?_eq_none_iff] at ht ⊢
        omega
      rw [this]
    | some v =>
      obtain ⟨V, hV, hv⟩ := h.get ht
      rw [hV]
      cases hv <;> rfl

/-- What a result's place holds. -/
def rdv (t : Array Value) : ResultVar → Sem Value
  | .tmp x => pure (t.getD x Go.undef)
  | .cell a ty => do loadVar ty (← asAddr (t.getD a Go.undef))
theorem results_eq (fn : Func) (t : Array Value) : results fn t = (fn.results.mapM (rdv t) >>= fun vs => pure (if h : vs.size = 1 then vs[0] else .tuple vs)) := by
  unfold results
  congr 1

theorem results_run {fn : Func} (hr : ∀ r ∈ fn.results, ∃ t, r = .tmp t) {t T : Array Value} (h : VRs P R t T) :
    ∃ v V, VR P R v V ∧ results fn t = pure v ∧ results fn T = pure V := by
  have K : ∀ (l : List ResultVar), (∀ r ∈ l, ∃ t, r = .tmp t) → ∃ vs Vs : List Value, VRs P R vs.toArray Vs.toArray ∧
      l.mapM (rdv t) = pure vs ∧ l.mapM (rdv T) = pure Vs := by
    intro l
    induction l with
    | nil => exact fun _ => ⟨[], [], VRs.nil, rfl, rfl⟩
    | cons r l ih =>
      intro hl
      obtain ⟨x, rfl⟩ := hl r (List.mem_cons_self ..)
      obtain ⟨vs, Vs, h1, h2, h3⟩ := ih fun r hr => hl r (List.mem_cons_of_mem _ hr)
      refine ⟨t.getD x Go.undef :: vs, T.getD x Go.undef :: Vs, ?_, ?_, ?_⟩
      · have := (VRs.one (h.getD x VR.undef)).append h1
        simpa using this
      · rw [List.mapM_cons, h2]; rfl
      · rw [List.mapM_cons, h3]; rfl
  obtain ⟨vs, Vs, h1, h2, h3⟩ := K fn.results.toList (fun r hr' => hr r (by simpa using hr'))
  have e1 := h1.1
  simp only [List.size_toArray] at e1
  refine ⟨if h : vs.toArray.size = 1 then vs.toArray[0] else .tuple vs.toArray, if h : Vs.toArray.size = 1 then Vs.toArray[0] else .tuple Vs.toArray, ?_, ?_, ?_⟩
  · by_cases hs : vs.length = 1
    · rw [dif_pos (by simpa using hs), dif_pos (by simpa using e1 ▸ hs)]
      exact h1.2 0 _ _ (by simp [hs]) (by simp [e1 ▸ hs])
    · rw [dif_neg (by simpa using hs), dif_neg (by simpa [← e1] using hs)]
      exact .tuple h1.1 h1.2
  · rw [results_eq, Array.mapM_eq_mapM_toList, h2]
    rfl
  · rw [results_eq, Array.mapM_eq_mapM_toList, h3]
    rfl

theorem sim_rdv {t T : Array Value} (h : VRs P R t T) (r : ResultVar) : Sim P Shd (VR P) R (rdv t r) (rdv T r) := by
  cases r with
  | tmp x => exact Sim.pure (h.getD x VR.undef)
  | cell a ty => exact Sim.bind (sim_asAddr (h.getD a VR.undef)) fun _ _ _ _ q => sim_loadVar ty q
theorem sim_rdvs {t T : Array Value} : ∀ (l : List ResultVar) {R : BR}, VRs P R t T → Sim P Shd (LR P) R (l.mapM (rdv t)) (l.mapM (rdv T))
  | [], _, _ => Sim.pure ⟨rfl, fun i v V h => by simp at h⟩
  | r :: l, R, h => by
    rw [List.mapM_cons, List.mapM_cons]
    refine Sim.bind (sim_rdv h r) fun R1 v V s1 q => Sim.bind (sim_rdvs l (h.mono s1)) fun R2 x X s2 q2 => Sim.pure ⟨by simp [q2.1], fun i a A h1 h2 => ?_⟩
    cases i with
    | zero => simp at h1 h2; subst h1; subst h2; exact q.mono s2
    | succ i => exact q2.2 i a A (by simpa using h1) (by simpa using h2)
theorem sim_results (fn : Func) {t T : Array Value} (h : VRs P R t T) : Sim P Shd (VR P) R (results fn t) (results fn T) := by
  rw [results_eq, results_eq, Array.mapM_eq_mapM_toList, Array.mapM_eq_mapM_toList]
  refine Sim.bind (Q := fun R' a b => VRs P R' a b) ?_ fun R2 a b s2 q => Sim.pure ?_
  · exact Sim.bind (sim_rdvs _ h) fun _ _ _ _ q => Sim.pure ⟨by simpa using q.1, fun i v V h1 h2 => q.2 i v V (by simpa using h1) (by simpa using h2)⟩
  · by_cases hs : a.size = 1
    · have hS : b.size = 1 := q.1 ▸ hs
      rw [dif_pos hs, dif_pos hS]
      exact q.2 0 _ _ (Array.getElem?_eq_getElem (by omega)) (Array.getElem?_eq_getElem (by omega))
    · rw [dif_neg hs, dif_neg (fun x => hs (q.1 ▸ x))]
      exact .tuple q.1 q.2

theorem cons_ok {a : Item} {k : List Item} (h : ItemOK P a) (hk : ∀ x ∈ k, ItemOK P x) : ∀ x ∈ a :: k, ItemOK P x := by
  intro x hx
  rcases List.mem_cons.1 hx with rfl | hx
  · exact h
  · exact hk x hx

theorem step_sim (hS : ∀ b, ¬ Shd b) (hZ : ZeroOK P) (hB : BodiesOK P) {fr Fr c0 : Frame} {cs Cs K : List Frame} {w W : World} (h : FR P R fr Fr) (hcs : FRs P R cs Cs) (hw : WR P Shd R w W)
    (ht : ∀ j q, w.tape (w.drawn + j) q = W.tape (W.drawn + j) q) (hn : fr.mode = .returning → cs ≠ []) (main main' : Bool) :
    StepTo P Shd R c0 K w W (stepG P main (G fr (cs ++ [c0])) w) (stepG P main' (G Fr (Cs ++ K)) W) (fun τ => stepG P main (G fr (cs ++ [c0])) (w.tp τ)) ∨ Fails P c0 cs (stepG P main (G fr (cs ++ [c0])) w) := by
  have same : ∀ (l : List Item), (∀ it ∈ l, ItemOK P it) → stepG P main (G fr (cs ++ [c0])) w = .go (G { fr with todo := l } (cs ++ [c0])) w → stepG P main' (G Fr (Cs ++ K)) W = .go (G { Fr with todo := l } (Cs ++ K)) W →
      (∀ w, stepG P main (G fr (cs ++ [c0])) w = .go (G { fr with todo := l } (cs ++ [c0])) w) →
      StepTo P Shd R c0 K w W (stepG P main (G fr (cs ++ [c0])) w) (stepG P main' (G Fr (Cs ++ K)) W) (fun τ => stepG P main (G fr (cs ++ [c0])) (w.tp τ)) := by
    intro l hl e1 e2 e3
    rw [e1, e2]
    exact ⟨_, cs, w, rfl, R, _, Cs, W, #[], rfl, h.at l hl, hcs, hw, EX.refl _ _ _ _, by simp, fun τ _ => by dsimp only; rw [e3]; rfl⟩
  rcases h.modes with hm | hm
  · have hM : Fr.mode = .run := h.mode ▸ hm
    have hT := h.todo
    have hi := h.items
    have ret : stepG P main (G fr (cs ++ [c0])) w = .go (G { fr with mode := .returning } (cs ++ [c0])) w → stepG P main' (G Fr (Cs ++ K)) W = .go (G { Fr with mode := .returning } (Cs ++ K)) W →
        (∀ w, stepG P main (G fr (cs ++ [c0])) w = .go (G { fr with mode := .returning } (cs ++ [c0])) w) →
        StepTo P Shd R c0 K w W (stepG P main (G fr (cs ++ [c0])) w) (stepG P main' (G Fr (Cs ++ K)) W) (fun τ => stepG P main (G fr (cs ++ [c0])) (w.tp τ)) := by
      intro e1 e2 e3
      rw [e1, e2]
      exact ⟨_, cs, w, rfl, R, _, Cs, W, #[], rfl, h.ret, hcs, hw, EX.refl _ _ _ _, by simp, fun τ _ => by dsimp only; rw [e3]; rfl⟩
    cases hd : fr.todo with
    | nil =>
      have hD : Fr.todo = [] := hT ▸ hd
      exact .inl (ret (by simp [stepG, stepG.exec, G, hm, hd, h.round]) (by simp [stepG, stepG.exec, G, hM, hD, h.round']) (fun _ => by simp [stepG, stepG.exec, G, hm, hd, h.round]))
    | cons it k =>
      rw [hd] at hi
      have h0 := hi it (List.mem_cons_self ..)
      have hk : ∀ x ∈ k, ItemOK P x := fun x hx => hi x (List.mem_cons_of_mem _ hx)
      have hD : Fr.todo = it :: k := hT ▸ hd
      cases it with
      | inBlock i => exact .inl (same k hk (by simp [stepG, stepG.exec, G, hm, hd]) (by simp [stepG, stepG.exec, G, hM, hD]) (fun _ => by simp [stepG, stepG.exec, G, hm, hd]))
      | inScope c => exact .inl (same k hk (by simp [stepG, stepG.exec, G, hm, hd]) (by simp [stepG, stepG.exec, G, hM, hD]) (fun _ => by simp [stepG, stepG.exec, G, hm, hd]))
      | inLoop c =>
        exact .inl (same (.code c :: .inLoop c :: k) (cons_ok h0 (cons_ok h0 hk)) (by simp [stepG, stepG.exec, G, hm, hd]) (by simp [stepG, stepG.exec, G, hM, hD]) (fun _ => by simp [stepG, stepG.exec, G, hm, hd]))
      | code c =>
        cases c with
        | ret => exact .inl (ret (by simp [stepG, stepG.exec, G, hm, hd, h.round]) (by simp [stepG, stepG.exec, G, hM, hD, h.round']) (fun _ => by simp [stepG, stepG.exec, G, hm, hd, h.round]))
        | skip => exact .inl (same k hk (by simp [stepG, stepG.exec, G, hm, hd]) (by simp [stepG, stepG.exec, G, hM, hD]) (fun _ => by simp [stepG, stepG.exec, G, hm, hd]))
        | label l => exact .inl (same k hk (by simp [stepG, stepG.exec, G, hm, hd]) (by simp [stepG, stepG.exec, G, hM, hD]) (fun _ => by simp [stepG, stepG.exec, G, hm, hd]))
        | seq a b =>
          exact .inl (same (.code a :: .code b :: k) (cons_ok h0.1 (cons_ok h0.2 hk)) (by simp [stepG, stepG.exec, G, hm, hd]) (by simp [stepG, stepG.exec, G, hM, hD]) (fun _ => by simp [stepG, stepG.exec, G, hm, hd]))
        | block i c =>
          exact .inl (same (.code c :: .inBlock i :: k) (cons_ok h0 (cons_ok trivial hk)) (by simp [stepG, stepG.exec, G, hm, hd]) (by simp [stepG, stepG.exec, G, hM, hD]) (fun _ => by simp [stepG, stepG.exec, G, hm, hd]))
        | scope c =>
          exact .inl (same (.code c :: .inScope c :: k) (cons_ok h0 (cons_ok trivial hk)) (by simp [stepG, stepG.exec, G, hm, hd]) (by simp [stepG, stepG.exec, G, hM, hD]) (fun _ => by simp [stepG, stepG.exec, G, hm, hd]))
        | loop c =>
          exact .inl (same (.code c :: .inLoop c :: k) (cons_ok h0 (cons_ok h0 hk)) (by simp [stepG, stepG.exec, G, hm, hd]) (by simp [stepG, stepG.exec, G, hM, hD]) (fun _ => by simp [stepG, stepG.exec, G, hm, hd]))
        | exit i =>
          cases he : exitTo i k with
          | some k' => exact .inl (same k' (fun x hx => hk x (exitTo_mem he x hx)) (by simp [stepG, stepG.exec, G, hm, hd, he]) (by simp [stepG, stepG.exec, G, hM, hD, he]) (fun _ => by simp [stepG, stepG.exec, G, hm, hd, he]))
          | none => exact .inr (.inr ⟨_, w, by simp [stepG, stepG.exec, G, hm, hd, he, h.round]; rfl⟩)
        | cond c a b =>
          have hv := h.eval c h0.1
          generalize hx : fr.eval c = v at hv
          generalize hX : Fr.eval c = V at hv
          cases hv with
          | bool t =>
            exact .inl (same (.code (if t then a else b) :: k) (cons_ok (by cases t; exact h0.2.2; exact h0.2.1) hk) (by simp [stepG, stepG.exec, G, hm, hd, hx]) (by simp [stepG, stepG.exec, G, hM, hD, hX]) (fun _ => by simp [stepG, stepG.exec, G, hm, hd, hx]))
          | _ => exact .inr (.inr ⟨_, w, by simp [stepG, stepG.exec, G, hm, hd, hx]; rfl⟩)
        | region i ops draw =>
          cases draw with
          | false => exact .inl (same (.inRegion ops (List.range ops.size) :: k) (cons_ok h0 hk) (by simp [stepG, stepG.exec, G, hm, hd]) (by simp [stepG, stepG.exec, G, hM, hD]) (fun _ => by simp [stepG, stepG.exec, G, hm, hd]))
          | true =>
            obtain ⟨R', b, W', r1, q, hw', x, ev, _⟩ := ((sim_choose (P := P) (Shd := Shd) (R := R) (.order fr.fn i)) w W hw ht).2 (w.tape w.drawn (.order fr.fn i)) { w with drawn := w.drawn + 1 } (by simp [choose, Sem.run, Question.forced, Question.cut])
            refine .inl ⟨{ fr with todo := .inRegion ops (Region.schedule (P.follows .mixedOrders) ops (w.tape w.drawn (.order fr.fn i))) :: k }, cs, { w with drawn := w.drawn + 1 }, ?_, R', { Fr with todo := .inRegion ops (Region.schedule (P.follows .mixedOrders) ops b) :: k }, Cs, W', #[], ?_, ?_, hcs.mono x.sub, hw', x, by simp, fun τ hτ => ?_⟩
            · simp [stepG, stepG.exec, G, hm, hd, choose, Sem.run, Question.forced, Question.cut]
            · rw [h.fn] at r1
              simp [stepG, stepG.exec, G, hM, hD, r1]
            · rw [← q]
              exact (h.mono x.sub).at _ (cons_ok h0 hk)
            · have := hτ w.drawn (.order fr.fn i) (Nat.le_refl _) (Nat.lt_succ_self _)
              simp [stepG, stepG.exec, G, hm, hd, choose, Sem.run, Question.forced, Question.cut, World.tp, this]
        | _ => exact h0.elim
      | inRegion ops todo =>
        cases todo with
        | nil => exact .inl (same k hk (by simp [stepG, stepG.exec, G, hm, hd]) (by simp [stepG, stepG.exec, G, hM, hD]) (fun _ => by simp [stepG, stepG.exec, G, hm, hd]))
        | cons i rest =>
          have hy := yielded_eq (ops := ops) h.tmps
          have pass : ((ops[i]?).map (Region.wanted · (yielded ops fr.tmps))).getD false = false → StepTo P Shd R c0 K w W (stepG P main (G fr (cs ++ [c0])) w) (stepG P main' (G Fr (Cs ++ K)) W) (fun τ => stepG P main (G fr (cs ++ [c0])) (w.tp τ)) := by
            intro hf
            have hF := hf
            rw [hy] at hF
            refine ⟨fr.finish Go.undef, cs, w, by simp [stepG, stepG.exec, G, hm, hd, hf], R, Fr.finish Go.undef, Cs, W, #[], by simp [stepG, stepG.exec, G, hM, hD, hF], h.finish VR.undef, hcs, hw, EX.refl _ _ _ _, by simp, fun τ _ => by simp [stepG, stepG.exec, G, hm, hd, hf]⟩
          cases hwt : ((ops[i]?).map (Region.wanted · (yielded ops fr.tmps))).getD false with
          | false => exact .inl (pass hwt)
          | true =>
            cases ho : ops[i]? with
            | none => rw [ho] at hwt; cases hwt
            | some o =>
              have hwT := hwt
              rw [hy] at hwT
              have hop : OpOK P o.op := h0 o (Array.mem_of_getElem? ho)
              have hs := sim_execOp (Shd := Shd) hS hZ (f := fr.eval) (g := Fr.eval) (fun x hx => h.eval x hx) (fun _ => rfl) (fun _ => rfl) o hop w W hw ht
              have er : fr.oper? = some o := by simp [Frame.oper?, hd, ho]
              have eR : Fr.oper? = some o := by simp [Frame.oper?, hD, ho]
              cases hr : (execOp fr.eval o).run P w with
              | halt x w' =>
                have hx := hs.1 _ _ hr
                right
                cases x with
                | panic v => exact .inl ⟨fr.raise [{ v, recovered := false }], w', by simp [stepG, stepG.exec, G, hm, hd, hwt, stepG.oper, er, h.round, stepG.apply, hr, h.kind], by simp [Frame.raise, hm], by simp [Frame.raise, hm, h.defers], by obtain ⟨f, hf⟩ := h.func; exact ⟨f, by simpa [Frame.raise, hm] using hf⟩⟩
                | stuck t => exact .inr ⟨_, w', by simp [stepG, stepG.exec, G, hm, hd, hwt, stepG.oper, er, h.round, stepG.apply, hr, h.kind]; rfl⟩
                | unsupported u =>
                  cases u with
                  | initOrder _ => exact hx.elim
                  | _ => exact .inr ⟨_, w', by simp [stepG, stepG.exec, G, hm, hd, hwt, stepG.oper, er, h.round, stepG.apply, hr, h.kind]; rfl⟩
                | _ => exact hx.elim
              | ok a w' =>
                obtain ⟨R', b, W', r1, q, hw', x, ev, tp⟩ := hs.2 _ _ hr
                left
                have ev' : ∀ e ∈ seen P Fr.fn ((execOp Fr.eval o).events P W #[]), EvOK Shd R' e := fun e he => ev e (Conc.mem_seen he)
                cases q with
                | value hv =>
                  rename_i v V
                  refine ⟨fr.finish v, cs, w', ?_, R', Fr.finish V, Cs, W', seen P Fr.fn ((execOp Fr.eval o).events P W #[]), ?_, (h.mono x.sub).finish hv, hcs.mono x.sub, hw', x, ev', fun τ hτ => ?_⟩
                  · simp [stepG, stepG.exec, G, hm, hd, hwt, stepG.oper, er, h.round, stepG.apply, hr, h.kind]
                  · simp [stepG, stepG.exec, G, hM, hD, hwT, stepG.oper, eR, h.round', stepG.apply, r1, h.kind', GStep.after]
                  · simp [stepG, stepG.exec, G, hm, hd, hwt, stepG.oper, er, h.round, stepG.apply, tp τ hτ, h.kind]
                | skip =>
                  refine ⟨fr.finish Go.undef, cs, w', ?_, R', Fr.finish Go.undef, Cs, W', seen P Fr.fn ((execOp Fr.eval o).events P W #[]), ?_, (h.mono x.sub).finish VR.undef, hcs.mono x.sub, hw', x, ev', fun τ hτ => ?_⟩
                  · simp [stepG, stepG.exec, G, hm, hd, hwt, stepG.oper, er, h.round, stepG.apply, hr, h.kind]
                  · simp [stepG, stepG.exec, G, hM, hD, hwT, stepG.oper, eR, h.round', stepG.apply, r1, h.kind', GStep.after]
                  · simp [stepG, stepG.exec, G, hm, hd, hwt, stepG.oper, er, h.round, stepG.apply, tp τ hτ, h.kind]
                | enter f hf hv =>
                  rename_i a A
                  refine ⟨Frame.enter P f a .normal, fr :: cs, w', ?_, R', Frame.enter P f A .normal, Fr :: Cs, W', seen P Fr.fn ((execOp Fr.eval o).events P W #[]), ?_, FR.enter hB hf hv, ⟨h.mono x.sub, hm, hcs.mono x.sub⟩, hw', x, ev', fun τ hτ => ?_⟩
                  · simp [stepG, stepG.exec, G, hm, hd, hwt, stepG.oper, er, h.round, stepG.apply, hr, h.kind]
                  · simp [stepG, stepG.exec, G, hM, hD, hwT, stepG.oper, eR, h.round', stepG.apply, r1, h.kind', GStep.after]
                  · simp [stepG, stepG.exec, G, hm, hd, hwt, stepG.oper, er, h.round, stepG.apply, tp τ hτ, h.kind]
      | _ => exact h0.elim
  · obtain ⟨fn, hf⟩ := h.func
    have hF : P.funcs[Fr.fn]? = some fn := h.fn ▸ hf
    have hM : Fr.mode = .returning := h.mode ▸ hm
    cases cs with
    | nil => exact absurd rfl (hn hm)
    | cons c cs =>
      cases Cs with
      | nil => exact hcs.elim
      | cons C Cs =>
        obtain ⟨h1, h2, h3⟩ := hcs
        have hs := sim_results (Shd := Shd) fn h.tmps w W hw ht
        cases hr : (results fn fr.tmps).run P w with
        | halt x w' =>
          right
          cases x with
          | stuck t => exact .inr ⟨_, w', by simp [stepG, G, hm, unwind, h.defers, hf, hr]; rfl⟩
          | _ => exact .inr ⟨_, w', by simp [stepG, G, hm, unwind, h.defers, hf, hr]; rfl⟩
        | ok v w' =>
          obtain ⟨R', V, W', r1, hv, hw', x, ev, tp⟩ := hs.2 _ _ hr
          refine .inl ⟨c.finish v, cs, w', ?_, R', C.finish V, Cs, W', seen P Fr.fn ((results fn Fr.tmps).events P W #[]), ?_, (h1.mono x.sub).finish hv, h3.mono x.sub, hw', x, fun e he => ev e (Conc.mem_seen he), fun τ hτ => ?_⟩
          · simp [stepG, G, hm, unwind, h.defers, hf, hr, doReturn, h.kind]
          · simp [stepG, G, hM, unwind, h.defers', hF, r1, doReturn, h.kind', GStep.after]
          · simp [stepG, G, hm, unwind, h.defers, hf, tp τ hτ, doReturn, h.kind]
end Go.Sim
