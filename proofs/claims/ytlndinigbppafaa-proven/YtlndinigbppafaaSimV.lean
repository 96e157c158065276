/-
  A step that fails fails with more behind it, and slots from elsewhere, as well.
-/
import Derived.Test.YtlndinigbppafaaSimU
namespace Go.Sim
open Go.Conc (G)
variable {P : Program} {Shd : Nat → Prop} {R : BR}

theorem pDst_zero (d : Option Tmp) : pDst (fun _ => 0) d = true := by cases d <;> rfl
theorem codeR_zero : ∀ c : Code, CodeR P (fun _ => 0) c := by
  have O : ∀ ops, OpsR P (fun _ => 0) ops := by
    intro ops o ho
    refine ⟨?_, .inl ?_⟩
    · unfold guardOK
      split
      · rfl
      · exact pDst_zero _
    · unfold plainO
      rw [Bool.and_eq_true, List.all_eq_true]
      refine ⟨fun x hx => by cases x <;> rfl, by cases o.dst <;> rfl⟩
  intro c
  induction c with
  | region i ops d => exact O ops
  | seq a b ha hb => exact ⟨ha, hb⟩
  | cond c a b ha hb => exact ⟨by cases c <;> rfl, ha, hb⟩
  | block i c h => exact h
  | loop c h => exact h
  | scope c h => exact h
  | _ => trivial
theorem itemR_zero (it : Item) : ItemR P (fun _ => 0) it := by
  cases it with
  | code c => exact codeR_zero c
  | inLoop c => exact codeR_zero c
  | inRegion ops l => have := codeR_zero (P := P) (.region 0 ops false); exact this
  | _ => trivial
theorem plainAt_zero (fr : Frame) : PlainAt (fun _ => 0) fr := by
  intro ops i rest l o _ _
  unfold plainO
  rw [Bool.and_eq_true, List.all_eq_true]
  exact ⟨fun x hx => by cases x <;> rfl, by cases o.dst <;> rfl⟩

theorem fail_ex (hS : ∀ b, ¬ Shd b) (hZ : ZeroOK P) {fr Fr c0 : Frame} {cs cs2 : List Frame} {w W : World} (rl : Rl) (sv : Nat → Value) (k : List Item) (h : FR P R fr Fr) (hw : WR P Shd R w W) (ht : ∀ j q, w.tape (w.drawn + j) q = W.tape (W.drawn + j) q)
    (hm : fr.mode = .run) (hne : fr.todo ≠ []) (hit : ∀ it ∈ fr.todo, ItemR P rl it) (hpl : PlainAt rl fr) (hk : (∃ i l, fr.todo = .code (.exit i) :: l) → k = []) (e : Fails P c0 cs (stepG P true (G fr (cs ++ [c0])) w)) :
    Fails P c0 cs2 (stepG P true (G (fr.ex rl sv k) (cs2 ++ [c0])) w) := by
  have good : ∀ {fr' : Frame} {cs' : List Frame} {w' : World}, (stepG P true (G fr (cs ++ [c0])) w).bare = .go (G fr' (cs' ++ [c0])) w' → (∀ ch, fr'.mode ≠ .panicking ch) → Fails P c0 cs2 (stepG P true (G (fr.ex rl sv k) (cs2 ++ [c0])) w) := by
    intro fr' cs' w' q hq
    exfalso
    rcases e with ⟨fr1, w1, hs, ⟨ch, hp⟩, _⟩ | ⟨o, w1, hs⟩
    · rw [q] at hs
      obtain ⟨rfl, _, _⟩ := G_inj hs
      exact hq ch hp
    · rw [q] at hs; cases hs
  have run : ∀ {l : List Item}, (stepG P true (G fr (cs ++ [c0])) w).bare = .go (G { fr with todo := l } (cs ++ [c0])) w → Fails P c0 cs2 (stepG P true (G (fr.ex rl sv k) (cs2 ++ [c0])) w) := fun q => good q fun ch hc => by
    have hc' : fr.mode = .panicking ch := hc
    rw [hm] at hc'; cases hc'
  have hi := h.items
  have hM : (fr.ex rl sv k).mode = .run := hm
  have hR : (fr.ex rl sv k).roundOf = none := h.round
  have hK : (fr.ex rl sv k).kind = .normal := h.kind
  have hfn : (fr.ex rl sv k).fn = fr.fn := rfl
  cases hd : fr.todo with
  | nil => exact absurd hd hne
  | cons it l =>
    have hD : (fr.ex rl sv k).todo = it :: (l ++ k) := by simp [Frame.ex, hd]
    rw [hd] at hi
    have r0 := hit it (by rw [hd]; exact List.mem_cons_self ..)
    have h0 := hi it (List.mem_cons_self ..)
    cases it with
    | inBlock i => exact run (l := l) (by simp [stepG, stepG.exec, G, hm, hd])
    | inScope c => exact run (l := l) (by simp [stepG, stepG.exec, G, hm, hd])
    | inLoop c => exact run (l := .code c :: .inLoop c :: l) (by simp [stepG, stepG.exec, G, hm, hd])
    | code c =>
      cases c with
      | ret => exact good (fr' := { fr with mode := .returning }) (cs' := cs) (w' := w) (by simp [stepG, stepG.exec, G, hm, hd, h.round]) fun ch hc => by cases hc
      | skip => exact run (l := l) (by simp [stepG, stepG.exec, G, hm, hd])
      | label _ => exact run (l := l) (by simp [stepG, stepG.exec, G, hm, hd])
      | seq a b => exact run (l := .code a :: .code b :: l) (by simp [stepG, stepG.exec, G, hm, hd])
      | block i c => exact run (l := .code c :: .inBlock i :: l) (by simp [stepG, stepG.exec, G, hm, hd])
      | scope c => exact run (l := .code c :: .inScope c :: l) (by simp [stepG, stepG.exec, G, hm, hd])
      | loop c => exact run (l := .code c :: .inLoop c :: l) (by simp [stepG, stepG.exec, G, hm, hd])
      | exit i =>
        cases he : exitTo i l with
        | some l' => exact run (l := l') (by simp [stepG, stepG.exec, G, hm, hd, he])
        | none =>
          have hkn := hk ⟨i, l, hd⟩
          subst hkn
          rw [List.append_nil] at hD
          exact .inr ⟨_, w, by simp [stepG, stepG.exec, G, hM, hD, he, hR]; rfl⟩
      | cond c a b =>
        have hX : (fr.ex rl sv k).eval c = fr.eval c := ex_eval r0.1
        generalize hx : fr.eval c = v at hX
        by_cases hb : ∃ t, v = .bool t
        · obtain ⟨t, rfl⟩ := hb
          exact run (l := .code (if t then a else b) :: l) (by simp [stepG, stepG.exec, G, hm, hd, hx])
        · have : ∃ o, (stepG P true (G (fr.ex rl sv k) (cs2 ++ [c0])) w).bare = .ended o w := by
            cases v <;> first | exact absurd ⟨_, rfl⟩ hb | exact ⟨_, by simp [stepG, stepG.exec, G, hM, hD, hX]; rfl⟩
          obtain ⟨o, q⟩ := this
          exact .inr ⟨o, w, q⟩
      | region i ops draw =>
        cases draw with
        | false => exact run (l := .inRegion ops (List.range ops.size) :: l) (by simp [stepG, stepG.exec, G, hm, hd])
        | true =>
          exact good (fr' := { fr with todo := .inRegion ops (Region.schedule (P.follows .mixedOrders) ops (w.tape w.drawn (.order fr.fn i))) :: l }) (cs' := cs) (w' := { w with drawn := w.drawn + 1 }) (by simp [stepG, stepG.exec, G, hm, hd, choose, Sem.run, Question.forced, Question.cut]) fun ch hc => by
            have hc' : fr.mode = .panicking ch := hc
            rw [hm] at hc'; cases hc'
      | _ => exact h0.elim
    | inRegion ops todo =>
      have hfm : ∀ v ch, (fr.finish v).mode ≠ .panicking ch := fun v ch hc => by
        have : (fr.finish v).mode = fr.mode := by unfold Frame.finish; split <;> rfl
        rw [this, hm] at hc; cases hc
      cases todo with
      | nil => exact run (l := l) (by simp [stepG, stepG.exec, G, hm, hd])
      | cons i rest =>
        cases hwt : ((ops[i]?).map (Region.wanted · (yielded ops fr.tmps))).getD false with
        | false => exact good (fr' := fr.finish Go.undef) (cs' := cs) (w' := w) (by simp [stepG, stepG.exec, G, hm, hd, hwt]) (hfm _)
        | true =>
          cases ho : ops[i]? with
          | none => rw [ho] at hwt; cases hwt
          | some o =>
            have hwo : Region.wanted o (yielded ops fr.tmps) = true := by rw [ho] at hwt; exact hwt
            have hmem : o ∈ ops := Array.mem_of_getElem? ho
            have hpo := hpl ops i rest l o hd ho
            have hwT : ((ops[i]?).map (Region.wanted · (yielded ops (fr.ex rl sv k).tmps))).getD false = true := by
              rw [ho]
              show Region.wanted o (yielded ops (ov rl sv fr.tmps)) = true
              rw [wanted_ex (r0 o hmem).1]
              exact hwo
            have hop : OpOK P o.op := h0 o hmem
            have er : fr.oper? = some o := by simp [Frame.oper?, hd, ho]
            have eR : (fr.ex rl sv k).oper? = some o := by simp [Frame.oper?, hD, ho]
            have hev : execOp (fr.ex rl sv k).eval o = execOp fr.eval o := execOp_congr o hop fun x hx => ex_eval (plainO_opd hpo x hx)
            have hsm := sim_execOp (Shd := Shd) hS hZ (f := fr.eval) (g := Fr.eval) (fun x hx => h.eval x hx) (fun _ => rfl) (fun _ => rfl) o hop w W hw ht
            cases hr : (execOp fr.eval o).run P w with
            | halt x w1 =>
              have hx := hsm.1 _ _ hr
              cases x with
              | panic v =>
                refine .inl ⟨(fr.ex rl sv k).raise [{ v, recovered := false }], w1, by simp [stepG, stepG.exec, G, hM, hD, hwT, stepG.oper, eR, hR, stepG.apply, hev, hr, hK], raise_mode _ _, ?_, ?_⟩
                · rw [raise_defers]; exact h.defers
                · obtain ⟨f, hf⟩ := h.func
                  exact ⟨f, by rw [raise_fn]; exact hf⟩
              | stuck t => exact .inr ⟨_, w1, by simp [stepG, stepG.exec, G, hM, hD, hwT, stepG.oper, eR, hR, stepG.apply, hev, hr, hK]; rfl⟩
              | unsupported u =>
                cases u with
                | initOrder _ => exact hx.elim
                | _ => exact .inr ⟨_, w1, by simp [stepG, stepG.exec, G, hM, hD, hwT, stepG.oper, eR, hR, stepG.apply, hev, hr, hK]; rfl⟩
              | _ => exact hx.elim
            | ok a w1 =>
              obtain ⟨R', b, W', -, q, -⟩ := hsm.2 _ _ hr
              cases q with
              | value hv =>
                rename_i v V
                exact good (fr' := fr.finish v) (cs' := cs) (w' := w1) (by simp [stepG, stepG.exec, G, hm, hd, hwt, stepG.oper, er, h.round, stepG.apply, hr, h.kind]) (hfm _)
              | skip => exact good (fr' := fr.finish Go.undef) (cs' := cs) (w' := w1) (by simp [stepG, stepG.exec, G, hm, hd, hwt, stepG.oper, er, h.round, stepG.apply, hr, h.kind]) (hfm _)
              | enter f hf hv =>
                rename_i x X
                exact good (fr' := Frame.enter P f x .normal) (cs' := fr :: cs) (w' := w1) (by simp [stepG, stepG.exec, G, hm, hd, hwt, stepG.oper, er, h.round, stepG.apply, hr, h.kind]) fun ch hc => by cases hc
    | _ => exact h0.elim
end Go.Sim
