/-
  Texts of ours, joined: CanB, CanC, CanD, CanF, ChL, CanG, CanH.
-/
import Derived.Test.YtlndinigbppafaaCanA
import Derived.Test.YtlndinigbppafaaChK
import Derived.Conc.Own5
import Derived.Conc.Pipeline3
import Derived.Listen
/-
  Goroutine 0 beside others that only leave: a call by its lone contract; moves of control; plain operations.
-/
namespace Go.Proofs.Ytlndinigbppafaa
open Go.Sim Go.Conc Go.Fi

section
variable {Gl : Array Goroutine → World → Option (Nat × Nat) → Trace → Prop} {n : Nat}

theorem noShd (b : Nat) : ¬ NoShd b := fun h => h

/-- A CALL BY ITS LONE RUN. -/
theorem Can.run {Fin : Frame → World → Prop} {K : List Frame} {fr : Frame} {cs : List Frame} {w : World} (h : Run Try.prog Fin fr cs w) :
    ∀ {R : BR} {Fr : Frame} {Cs : List Frame} {W : World}, FR Try.prog R fr Fr → FRs Try.prog R cs Cs → WR Try.prog NoShd R w W →
      (∀ {R' : BR} {fr' Fr' : Frame} {w' W' : World}, (∀ b B, R b B → R' b B) → FR Try.prog R' fr' Fr' → fr'.mode = .returning → Fin fr' w' → WR Try.prog NoShd R' w' W' → Can Gl n (G fr' K) w') → Can Gl n (G fr (cs ++ K)) w := by
  induction h with
  | @fin fr cs w hf hF =>
    intro R Fr Cs W h1 h2 h3 hk
    obtain ⟨hm, rfl⟩ := hf
    exact hk (fun _ _ h => h) h1 hm hF h3
  | @step fr cs w hn hex hst ih =>
    intro R Fr Cs W h1 h2 h3 hk
    refine Can.step rfl fun w₁ hE => ?_
    have hw1 : WR Try.prog NoShd R (w.tp (Sim.mt w₁ w)) (W.tp (Sim.mt (w.tp (Sim.mt w₁ w)) W)) := h3.tp _ _
    have htt : ∀ j q, (w.tp (Sim.mt w₁ w)).tape ((w.tp (Sim.mt w₁ w)).drawn + j) q = (W.tp (Sim.mt (w.tp (Sim.mt w₁ w)) W)).tape ((W.tp (Sim.mt (w.tp (Sim.mt w₁ w)) W)).drawn + j) q := fun j q => by show _ = Sim.mt (w.tp (Sim.mt w₁ w)) W (W.drawn + j) q; simp [Sim.mt, World.tp]
    have hnn : fr.mode = .returning → cs ≠ [] := fun hm hc => hn ⟨hm, hc⟩
    rcases step_sim noShd zeroOK bodiesOK (c0 := c0 Try.prog) (K := []) h1 h2 hw1 htt hnn true true with hs | hf
    · obtain ⟨fr', cs', w', e, R', Fr', Cs', W', Es, _, f1, f2, f3, x, _, _⟩ := hs
      have hco := step_co noShd zeroOK h1 h2 hw1 htt hnn e fun ch hc => by rcases f1.modes with q | q <;> rw [q] at hc <;> cases hc
      obtain ⟨es, g1, g2⟩ := hco.go K true w₁.tape w₁.drawn fun j q _ => by
        show w₁.tape (w₁.drawn + j) q = Sim.mt w₁ w (w.drawn + j) q
        simp [Sim.mt]
      have hww : (w.tp (Sim.mt w₁ w)).td w₁.tape w₁.drawn = w₁ := by rw [hE.td]; rfl
      rw [hww] at g1
      refine ⟨_, _, es, g1, g2, ?_, ?_⟩
      · have := hco.size
        show w₁.heap.size ≤ w'.heap.size
        rw [hE.heap]
        exact this
      · exact (ih (Sim.mt w₁ w) fr' cs' w' e f1 f2 f3 fun s1 q1 q2 q3 q4 => hk (fun b B hb => s1 _ _ (x.sub _ _ hb)) q1 q2 q3 q4).eqv (eqv_td _ _ _)
    · exfalso
      rcases hf with ⟨fr1, w1, hs, hp, hd, hfn⟩ | ⟨o, w1, hs⟩
      · exact run_bad (hst (Sim.mt w₁ w) fr1 cs w1 hs) ⟨hp, hd, hfn, h2.bad⟩
      · obtain ⟨fr', cs', w', e⟩ := hex (Sim.mt w₁ w)
        rw [hs] at e
        cases e

variable {b : Frame} {a a' : Act} {k : List Item} {cs : List Frame} {ops : Array Oper} {i : Nat} {rest : List Nat} {o : Oper} {g g' : Goroutine} {w : World}

theorem Can.pure (hg : g.status = .running) (h : ∀ w, stepG Try.prog true g w = .go g' w #[]) (hK : Can Gl n g' w) : Can Gl n g w :=
  Can.step hg fun w₁ hE => ⟨g', w₁, #[], h w₁, fun e he => by simp at he, Nat.le_refl _, hK.eqv hE⟩

/-- A CALL BY ITS LONE CONTRACT. -/
theorem Can.call {f : FuncId} {fn : Func} {c : Code} {args : Array Operand} {ats : Array TypeId} {R : BR} {A : Array Value} {W : World} {Q : Value → World → Prop} (hk : b.kind ≠ .early) (ho : ops[i]? = some o) (hwt : Region.wanted o (yielded ops a.tmps) = true) (hop : o.op = .call { callee := .value (.func f), args, argTypes := ats })
    (hf : Try.prog.funcs[f]? = some fn) (hname : fn.name ∈ names) (hb : fn.body = some c) (hres : ∀ r ∈ fn.results, ∃ t, r = .tmp t)
    (hA : VRs Try.prog R (args.map a.eval) A) (hw : WR Try.prog NoShd R w W) (hQ : ∀ v w τ, Q v w → Q v (w.tp τ))
    (hc : ∀ τ, Calls Try.prog f (args.map a.eval) (w.tp τ) fun e w' => match e with | .returned v => Q v w' | _ => False)
    (hK : ∀ {R' : BR} {v V : Value} {w' W' : World}, (∀ b B, R b B → R' b B) → VR Try.prog R' v V → WR Try.prog NoShd R' w' W' → Q v w' → Can Gl n (G (b.at (a.put o.dst v) (.inRegion ops rest :: k)) cs) w') :
    Can Gl n (G (b.at a (.inRegion ops (i :: rest) :: k)) cs) w := by
  have hbo : BodyOK Try.prog f := ⟨fn, hf, by rw [hb]; rfl, hname⟩
  have hn : (fn.name == "runtime.NumGoroutine") = false := by
    have : fn.name ≠ "runtime.NumGoroutine" := fun x => by rw [x] at hname; revert hname; decide
    simpa using this
  have hb' : fn.body.isNone = false := by rw [hb]; rfl
  have hF : FR Try.prog R (Frame.enter Try.prog f (args.map a.eval) .normal) (Frame.enter Try.prog f A .normal) := FR.enter bodiesOK hbo hA
  have hrun := run_of_calls noShd zeroOK bodiesOK (Shd := NoShd) (Q := Q) ⟨_, _, [], W, hF, trivial, hw⟩ hQ hf hres hc
  refine Can.pure (g' := G (Frame.enter Try.prog f (args.map a.eval) .normal) (b.at a (.inRegion ops (i :: rest) :: k) :: cs)) rfl (fun w => ?_) ?_
  · rw [stepG_enter ho hwt hk (run_call_body hop hf hn hb')]
    unfold listed
    rw [events_call_body hop hf hn hb', seen_none]
  · refine Can.run (cs := []) (K := b.at a (.inRegion ops (i :: rest) :: k) :: cs) hrun (Cs := []) hF trivial hw ?_
    intro R' fr' Fr' w' W' s1 f1 hm hfin hw'
    obtain ⟨v, fn2, e1, hr2, e2, hq⟩ := hfin
    obtain ⟨v2, V, hv, e3, _⟩ := results_run hr2 f1.tmps
    rw [e2] at e3
    cases e3
    refine Can.pure (g' := G (b.at (a.put o.dst v) (.inRegion ops rest :: k)) cs) rfl (fun w => ?_) (hK s1 hv hw' hq)
    have hfin : (b.at a (.inRegion ops (i :: rest) :: k)).finish v = b.at (a.put o.dst v) (.inRegion ops rest :: k) := by rw [Frame.finish_at, ho]; rfl
    rw [← hfin]
    simp [stepG, G, hm, unwind, f1.defers, e1, e2, doReturn, f1.kind, seen, GStep.after]
end
end Go.Proofs.Ytlndinigbppafaa

/-
  proofs, called by goroutine 0 alone: it comes to its return, and its children only leave.
-/
namespace Go.Proofs.Ytlndinigbppafaa
open Go.Sim Go.Conc Go.Fi

section
variable {Gl : Array Goroutine → World → Option (Nat × Nat) → Trace → Prop} {n : Nat}

theorem Ev.after : ∀ (m : Nat) {gs gs' : Array Goroutine} {w w' : World} {sl sl' : Option (Nat × Nat)} {t t' : Trace}, runNT Try.prog m (crowd gs w sl) t = (.next (crowd gs' w' sl'), t') → Ev Gl gs' w' sl' t' → Ev Gl gs w sl t := by
  intro m gs gs' w w' sl sl' t t' h ⟨k, gs2, w2, sl2, t2, r, hG⟩
  refine ⟨m + k, gs2, w2, sl2, t2, ?_, hG⟩
  have add : ∀ (m : Nat) (M M' : Machine) (t t' : Trace), runNT Try.prog m M t = (.next M', t') → runNT Try.prog (m + k) M t = runNT Try.prog k M' t' := by
    intro m
    induction m with
    | zero => intro M M' t t' e; simp only [runNT, Prod.mk.injEq, Stepped.next.injEq] at e; obtain ⟨rfl, rfl⟩ := e; rw [Nat.zero_add]
    | succ m ih =>
      intro M M' t t' e
      rw [show m + 1 + k = (m + k) + 1 by omega]
      simp only [runNT] at e ⊢
      cases hs : stepT Try.prog M with
      | mk s u =>
        rw [hs] at e
        cases s with
        | next M2 => exact ih M2 M' _ t' e
        | ended o w => simp at e
  rw [add m _ _ _ _ h, r]

/-- What is known when proofs returns. -/
structure Back (Post : Nat → Value → World → Prop) (N : Nat) (w w' : World) (ga : Nat) (vs : List Value) : Prop where
  size : w.heap.size ≤ w'.heap.size
  keep : ∀ b, b < w.heap.size → w'.heap[b]? = w.heap[b]?
  os : w'.os = w.os
  output : w'.output = w.output
  len : vs.length = N
  new : w.heap.size ≤ ga
  row : w'.heap[ga]? = some (.cells vs.toArray 24)
  post : ∀ (k : Nat) (V : Value), vs[k]? = some V → Post k V w'

theorem Can.proofs {N : Nat} {ver : Value} {Post : Nat → Value → World → Prop} {cs : List Frame} {w : World} (hver : ver.cells = #[ver]) (hN : N < 2 ^ 40) (hgl : Try.prog.globals.size ≤ w.heap.size)
    (hV : ∀ k V w, Post k V w → Sl V) (hM : ∀ k bc bv bi bn c, k < N → MemberC bc bv bi bn c ver k N (Post k))
    (hK : ∀ (w' : World) (ga : Nat) (vs : List Value) (a : Act), Back Post N w w' ga vs → a.defers = [] → a.tmps.getD 4 undef = .slice (some ⟨ga, 0, none⟩) N N → Can Gl N (G { (base 46).at a [.code .ret] with mode := .returning } cs) w') :
    Can Gl 0 (G ((base 46).at ⟨#[ver, .int .i64 N, undef, undef, undef, undef, undef, undef, undef, undef, undef, undef, undef, undef, undef, undef, undef, undef, undef, undef, undef, undef, undef, undef, undef, undef, undef, undef, undef, undef, undef, undef, undef, undef, undef, undef, undef, undef, undef, undef, undef, undef, undef, undef], []⟩ [.code c46]) cs) w := by
  refine ⟨rfl, fun qs gs w₁ sl t a hq hC hE ha hl => ?_⟩
  have hPS := proofs_at (cs := cs) hver hN w₁ trivial
  have hgs : gs.size = 1 := by rw [hC.size, hq]
  have hkm : kidMap s0.cur [] = fun _ => none := by
    funext d
    unfold kidMap
    split <;> simp
  have hI : Inv w₁.heap.size w₁ Post s0 (fun _ => False) [] gs w₁ t := by
    refine ⟨hgs, fun k x hk => by simp at hk, rfl, Nat.le_refl _, (fun q => (by cases q)), rfl, fun k l x y b hk => by simp at hk, fun b hb => hb.elim, ?_, hC.low, fun i a b _ _ q => q, fun b _ => rfl, Nat.le_refl _, by rw [hE.heap]; exact hgl, rfl, rfl, rfl⟩
    rw [hkm]
    exact hC.tr
  obtain ⟨m, gs', w', sl', t', s', PB', kids', a', g', r1, r2, r3, r4, r5, r6, r7⟩ := machine hV hM hPS [] gs w₁ t a sl hI (RelyC.refl _ _ _) ha hl
  obtain ⟨f1, f2, ga, aa, rfl, f3, f4, f5, f6⟩ := r7
  have hlen : kids'.length = N := by
    have := congrArg List.length r2.link
    simp at this
    omega
  have hcur : s'.cur = kids'.length := by rw [r3, f2, hlen]
  have stage : ∀ (k : Nat) (x : Kid), kids'[k]? = some x → ∃ q, x.st = .leave q ∧ QuitsIn Try.prog q x.g ∧ ∃ V, s'.vs[k]? = some V ∧ Post k V w' := by
    intro k x hk
    have hkl : k < s'.cur := by rw [hcur]; exact (List.getElem?_eq_some_iff.1 hk).1
    have hS := (r2.kid k x hk).2.st
    unfold KidS at hS
    cases hx : x.st with
    | work => rw [hx] at hS; exact absurd (.inl hkl) hS.1
    | aft j => rw [hx] at hS; exact absurd hkl hS.2.1
    | leave q =>
      rw [hx] at hS
      obtain ⟨q1, ⟨V, tm, q2, q3⟩, _⟩ := hS
      exact ⟨q, rfl, q1, V, (q3.1 (.inl hkl)).2, q2 w' fun _ _ => rfl⟩
  have hbase : ∀ b, b < w.heap.size → w'.heap[b]? = w.heap[b]? := fun b hb => by rw [r2.base b (by rw [hE.heap]; exact hb), hE.heap]
  have hback : Back Post N w w' ga s'.vs := by
    refine ⟨by have := r2.b0; rw [hE.heap] at this; exact this, hbase, r2.os.trans hE.os, r2.output.trans hE.output, f1, by have := (r2.pb ga f5).1; rw [hE.heap] at this; exact this, f6, fun k V hk => ?_⟩
    have hkl : k < kids'.length := by
      have := (List.getElem?_eq_some_iff.1 hk).1
      omega
    obtain ⟨_, _, _, V', e1, e2⟩ := stage k _ (List.getElem?_eq_getElem hkl)
    rw [hk] at e1; cases e1
    exact e2
  refine Ev.after m r1 ((hK w' ga s'.vs aa hback f3 f4).2 (kids'.map fun x => match x.st with | .leave q => q | _ => 0) gs' w' sl' t' a' (by simp [hlen]) ⟨by simp [r2.size], fun k q hk => ?_, ?_, r2.low⟩ (Eqv.refl _) r5 r6)
  · rw [List.getElem?_map] at hk
    obtain ⟨x, hx, hq⟩ := Option.map_eq_some_iff.1 hk
    obtain ⟨q', e1, e2, _⟩ := stage k x hx
    rw [e1] at hq
    simp only at hq
    subst hq
    exact ⟨x.g, (r2.kid k x hx).1, e2⟩
  · have : kidMap s'.cur kids' = fun _ => none := by
      funext d
      unfold kidMap
      split
      · rfl
      · rename_i hd
        rw [List.getElem?_eq_none (by omega)]
        rfl
    have hT := r2.tr
    rw [this] at hT
    exact hT
end
end Go.Proofs.Ytlndinigbppafaa

/-
  Goroutine 0 beside others that only leave: moves of control, plain operations.
-/
namespace Go.Proofs.Ytlndinigbppafaa
open Go.Sim Go.Conc Go.Fi

/-- The value of a plain operation, which looks at no memory: more of them. -/
def pw2 (ρ : Operand → Value) (op : Op) : Option Value := match op with
  | .unOp .not _ x => match ρ x with
    | .bool b => some (.bool !b)
    | _ => none
  | .pick c a b => match ρ c with
    | .bool t => some (if t then ρ a else ρ b)
    | _ => none
  | .binOp .neq _ x y _ => match ρ x, ρ y with
    | .int k a, .int k' b => if k = k' then some (.bool (a != b)) else none
    | .string a, .string b => some (.bool !(a.toList == b.toList))
    | _, _ => none
  | .binOp .eql _ x y _ => match ρ x, ρ y with
    | .int k a, .int k' b => if k = k' then some (.bool (a == b)) else none
    | .string a, .string b => some (.bool (a.toList == b.toList))
    | _, _ => none
  | op => pv ρ op

theorem pw2_run {ρ : Operand → Value} {o : Oper} {v : Value} (h : pw2 ρ o.op = some v) (w : World) : (execOp ρ o).run Try.prog w = .ok (.value v) w ∧ (execOp ρ o).events Try.prog w #[] = #[] := by
  have old : pv ρ o.op = some v → (execOp ρ o).run Try.prog w = .ok (.value v) w ∧ (execOp ρ o).events Try.prog w #[] = #[] := fun q => pv_run q w
  unfold execOp at old ⊢
  generalize o.op = op at h old ⊢
  cases op with
  | unOp u t x =>
    cases u with
    | not =>
      simp only [pw2] at h
      dsimp only
      split at h
      · rename_i b hb
        cases h
        rw [hb]
        simp [Op.unary]
      · cases h
    | _ => exact old h
  | pick c a b =>
    simp only [pw2] at h
    dsimp only
    split at h
    · rename_i t ht
      cases h
      rw [ht]
      simp [asBool]
    · cases h
  | binOp bop t x y ty =>
    cases bop with
    | neq =>
      simp only [pw2] at h
      dsimp only
      split at h
      · rename_i k a k' b hx hy
        split at h
        · rename_i hk
          cases h
          subst hk
          rw [hx, hy]
          simp [eqGuard, binOp, Op.intCmp]
        · cases h
      · rename_i a b hx hy
        cases h
        rw [hx, hy]
        simp [eqGuard, binOp, Op.stringOp]
      · cases h
    | eql =>
      simp only [pw2] at h
      dsimp only
      split at h
      · rename_i k a k' b hx hy
        split at h
        · rename_i hk
          cases h
          subst hk
          rw [hx, hy]
          simp [eqGuard, binOp, Op.intCmp]
        · cases h
      · rename_i a b hx hy
        cases h
        rw [hx, hy]
        simp [eqGuard, binOp, Op.stringOp]
      · cases h
    | _ => exact old h
  | _ => exact old h

/-- Plain operations, one behind the other, each where it is wanted. -/
def pops (ops : Array Oper) : List Nat → Act → Option Act
  | [], a => some a
  | i :: rest, a => match ops[i]? with
    | some o => if Region.wanted o (yielded ops a.tmps) = true then (match pw2 a.eval o.op with
        | some v => pops ops rest (a.put o.dst v)
        | none => none) else pops ops rest (a.put o.dst undef)
    | none => none

section
variable {Gl : Array Goroutine → World → Option (Nat × Nat) → Trace → Prop} {n : Nat}
variable {b : Frame} {a a' : Act} {k : List Item} {cs : List Frame} {ops : Array Oper} {i : Nat} {rest : List Nat} {o : Oper} {g g' : Goroutine} {w : World}

theorem Can.val {v : Value} (hk : b.kind ≠ .early) (ho : ops[i]? = some o) (hwt : Region.wanted o (yielded ops a.tmps) = true) (h : ∀ w, (execOp a.eval o).run Try.prog w = .ok (.value v) w ∧ (execOp a.eval o).events Try.prog w #[] = #[])
    (hK : Can Gl n (G (b.at (a.put o.dst v) (.inRegion ops rest :: k)) cs) w) : Can Gl n (G (b.at a (.inRegion ops (i :: rest) :: k)) cs) w := by
  refine Can.pure rfl (fun w => ?_) hK
  rw [stepG_value ho hwt hk (h w).1]
  unfold listed
  rw [(h w).2, seen_none]
theorem Can.pures {l : List Nat} (hk : b.kind ≠ .early) (h : pops ops l a = some a') (hK : Can Gl n (G (b.at a' (.inRegion ops rest :: k)) cs) w) : Can Gl n (G (b.at a (.inRegion ops (l ++ rest) :: k)) cs) w := by
  induction l generalizing a with
  | nil => cases h; exact hK
  | cons i l ih =>
    unfold pops at h
    split at h
    · rename_i o ho
      split at h
      · rename_i hwt
        split at h
        · rename_i v hv
          exact Can.val hk ho hwt (pw2_run hv) (ih h)
        · cases h
      · rename_i hwt
        exact Can.pure rfl (fun w => stepG_unwanted ho (by simpa using hwt)) (ih h)
    · cases h
theorem Can.region {id : Nat} (hk : b.kind ≠ .early) (h : pops ops (List.range ops.size) a = some a') (hK : Can Gl n (G (b.at a' k) cs) w) : Can Gl n (G (b.at a (.code (.region id ops false) :: k)) cs) w := by
  refine Can.pure rfl (fun w => stepG_region) ?_
  have := Can.pures (rest := []) (k := k) (cs := cs) hk h (Can.pure rfl (fun w => stepG_region_end) hK)
  rwa [List.append_nil] at this
theorem Can.into {id : Nat} (hK : Can Gl n (G (b.at a (.inRegion ops (List.range ops.size) :: k)) cs) w) : Can Gl n (G (b.at a (.code (.region id ops false) :: k)) cs) w := Can.pure rfl (fun _ => stepG_region) hK
theorem Can.out (hK : Can Gl n (G (b.at a k) cs) w) : Can Gl n (G (b.at a (.inRegion ops [] :: k)) cs) w := Can.pure rfl (fun _ => stepG_region_end) hK
theorem Can.seq {x y : Code} (hK : Can Gl n (G (b.at a (.code x :: .code y :: k)) cs) w) : Can Gl n (G (b.at a (.code (.seq x y) :: k)) cs) w := Can.pure rfl (fun _ => stepG_seq) hK
theorem Can.skip (hK : Can Gl n (G (b.at a k) cs) w) : Can Gl n (G (b.at a (.code .skip :: k)) cs) w := Can.pure rfl (fun _ => stepG_skip) hK
theorem Can.cond {c : Operand} {x y : Code} {t : Bool} (h : a.eval c = .bool t) (hK : Can Gl n (G (b.at a (.code (if t then x else y) :: k)) cs) w) : Can Gl n (G (b.at a (.code (.cond c x y) :: k)) cs) w := Can.pure rfl (fun _ => stepG_cond h) hK
theorem Can.ret (hK : Can Gl n (G { b.at a (.code .ret :: k) with mode := .returning } cs) w) : Can Gl n (G (b.at a (.code .ret :: k)) cs) w := Can.pure rfl (fun _ => stepG_ret') hK
theorem Can.enter {f : FuncId} {fn : Func} {c : Code} {args : Array Operand} {ats : Array TypeId} (hk : b.kind ≠ .early) (ho : ops[i]? = some o) (hwt : Region.wanted o (yielded ops a.tmps) = true) (hop : o.op = .call { callee := .value (.func f), args, argTypes := ats })
    (hf : Try.prog.funcs[f]? = some fn) (hname : (fn.name == "runtime.NumGoroutine") = false) (hb : fn.body = some c)
    (hK : Can Gl n (G ((base f).at { tmps := args.map a.eval ++ Array.replicate (fn.ntmps - (args.map a.eval).size) undef, defers := [] } [.code c]) (b.at a (.inRegion ops (i :: rest) :: k) :: cs)) w) :
    Can Gl n (G (b.at a (.inRegion ops (i :: rest) :: k)) cs) w := by
  have hb' : fn.body.isNone = false := by rw [hb]; rfl
  refine Can.pure rfl (fun w => ?_) hK
  rw [stepG_enter ho hwt hk (run_call_body hop hf hname hb'), enter_at _ hf hb]
  unfold listed
  rw [events_call_body hop hf hname hb', seen_none]
theorem Can.leave1 {fn : Func} {t : Tmp} {todo : List Item} {b₀ : Frame} {a₀ : Act} (hn : b.kind = .normal) (hd : a.defers = []) (hf : Try.prog.funcs[b.fn]? = some fn) (hr : fn.results = #[.tmp t])
    (hK : Can Gl n (G (b₀.at (a₀.put ((ops[i]?).bind (·.dst)) (a.tmps.getD t undef)) (.inRegion ops rest :: k)) cs) w) :
    Can Gl n (G { b.at a todo with mode := .returning } (b₀.at a₀ (.inRegion ops (i :: rest) :: k) :: cs)) w := by
  refine Can.pure rfl (fun w => ?_) hK
  rw [stepG_leave hn hd hf (results_tmp hr _ Try.prog w) (events_results_tmp hr _ _), Frame.finish_at]
theorem Can.leave2 {fn : Func} {t u : Tmp} {todo : List Item} {b₀ : Frame} {a₀ : Act} (hn : b.kind = .normal) (hd : a.defers = []) (hf : Try.prog.funcs[b.fn]? = some fn) (hr : fn.results = #[.tmp t, .tmp u])
    (hK : Can Gl n (G (b₀.at (a₀.put ((ops[i]?).bind (·.dst)) (.tuple #[a.tmps.getD t undef, a.tmps.getD u undef])) (.inRegion ops rest :: k)) cs) w) :
    Can Gl n (G { b.at a todo with mode := .returning } (b₀.at a₀ (.inRegion ops (i :: rest) :: k) :: cs)) w := by
  refine Can.pure rfl (fun w => ?_) hK
  rw [stepG_leave hn hd hf (results_tmp2 hr _ Try.prog w) (events_results_tmp2 hr _ _), Frame.finish_at]
end
end Go.Proofs.Ytlndinigbppafaa

/-
  Goroutine 0 beside others that only leave: an operation that reads; the end of the run.
-/
namespace Go.Proofs.Ytlndinigbppafaa
open Go.Sim Go.Conc Go.Fi

section
variable {Gl : Array Goroutine → World → Option (Nat × Nat) → Trace → Prop} {n : Nat}
variable {b : Frame} {a a' : Act} {k : List Item} {cs : List Frame} {ops : Array Oper} {i : Nat} {rest : List Nat} {o : Oper} {g g' : Goroutine} {w w' : World}

/-- A fine operation that asks the tape nothing. -/
theorem Can.fop {v : Value} (hk : b.kind ≠ .early) (ho : ops[i]? = some o) (hwt : Region.wanted o (yielded ops a.tmps) = true) (hF : Fine Try.prog (execOp a.eval o)) (hr : (execOp a.eval o).run Try.prog w = .ok (.value v) w') (hd : w'.drawn = w.drawn)
    (hK : Can Gl n (G (b.at (a.put o.dst v) (.inRegion ops rest :: k)) cs) w') : Can Gl n (G (b.at a (.inRegion ops (i :: rest) :: k)) cs) w := by
  refine Can.step rfl fun w₁ hE => ?_
  obtain ⟨_, _, _, _, h5⟩ := hF.shift hr
  have h6 := h5 w₁.tape w₁.drawn fun j q hj => by rw [hd] at hj; omega
  rw [← hE.td, hd, Nat.sub_self, Nat.add_zero] at h6
  obtain ⟨s1, s2⟩ := hF.events h6
  exact ⟨_, _, _, stepG_value ho hwt hk h6, fun e he => s2 e (mem_seen he), s1, hK.eqv (eqv_td _ _ _)⟩

/-- THE RUN's END, from here. -/
def Done (Post : Value → World → Prop) (gs : Array Goroutine) (w : World) (sl : Option (Nat × Nat)) (t : Trace) : Prop :=
  ∃ N last o w' t', runNT Try.prog (N + 1) (crowd gs w sl) t = (.ended o w', t') ∧ runN Try.prog N (crowd gs w sl) = .next last ∧ step Try.prog last = .ended o w' ∧ Good Try.prog Post last o w' t'

theorem Done.step {Post : Value → World → Prop} {gs gs' : Array Goroutine} {w w' : World} {sl sl' sl2 : Option (Nat × Nat)} {t u : Trace} {d i : Nat} (h1 : stepT Try.prog (crowd gs w sl) = runT Try.prog (crowd gs (w.at d) sl') i)
    (h2 : runT Try.prog (crowd gs (w.at d) sl') i = (.next (crowd gs' w' sl2), u)) (h : Done Post gs' w' sl2 (t ++ u)) : Done Post gs w sl t := by
  obtain ⟨N, last, o, w2, t2, r1, r2, r3⟩ := h
  have hs : Go.step Try.prog (crowd gs w sl) = .next (crowd gs' w' sl2) := by
    rw [← stepT_fst, h1, h2]
  refine ⟨N + 1, last, o, w2, t2, ?_, ?_, r3⟩
  · rw [runNT]
    simp only [h1, h2]
    exact r1
  · rw [runN, hs]
    exact r2

theorem good_cm {qs : List Nat} {gs : Array Goroutine} {t : Trace} {sl : Option (Nat × Nat)} {Post : Value → World → Prop} {v : Value} (hC : Cm qs gs w t) (hP : Post v w') : Good Try.prog Post (crowd gs w sl) (.done v) w' t := by
  refine ⟨v, rfl, hP, hC.tr.clean, fun i g hg hne hc => ?_, ⟨fun g hg => ?_, rfl⟩, fun i g hg hne => ?_⟩
  · obtain ⟨x, hx, hm, _⟩ := hc
    obtain ⟨q, z, h1, h2, h3⟩ := hC.tr.known i x hx hm
    refine ⟨q, by unfold Trace.g?; rw [h1]; exact congrArg some h2, ?_⟩
    rcases h3 with rfl | h3
    · exfalso
      unfold Trace.g? at hg
      rw [h1] at hg
      simp only [Option.map_some, Option.some.injEq] at hg
      exact hne (hg ▸ h2)
    · exact h3
  · obtain ⟨j, hj⟩ := List.getElem?_of_mem hg
    rw [List.getElem?_drop] at hj
    have hj' : gs[j + 1]? = some g := by
      have : (crowd gs w sl).gs = gs := rfl
      rw [this] at hj
      rw [← Array.getElem?_toList, Nat.add_comm]
      exact hj
    have hk : j < qs.length := by
      have := (Array.getElem?_eq_some_iff.1 hj').1
      rw [hC.size] at this; omega
    obtain ⟨g2, e1, e2⟩ := hC.old j _ (List.getElem?_eq_getElem hk)
    rw [hj'] at e1; cases e1
    exact ⟨_, e2.leaves⟩
  · cases i with
    | zero => exact absurd rfl hne
    | succ j =>
      have hj' : gs[j + 1]? = some g := hg
      have hk : j < qs.length := by
        have := (Array.getElem?_eq_some_iff.1 hj').1
        rw [hC.size] at this; omega
      obtain ⟨g2, e1, e2⟩ := hC.old j _ (List.getElem?_eq_getElem hk)
      rw [hj'] at e1; cases e1
      refine ⟨qs[j], ?_⟩
      rw [hC.tr.wl.deaf]
      exact e2.hears _ 0

theorem runT_crowd_ended {gs : Array Goroutine} {sl : Option (Nat × Nat)} {o : Outcome} {es : Array Event} (hi : gs[i]? = some g) (h : stepG Try.prog (i == 0) g w = .ended o w' es) :
    runT Try.prog (crowd gs w sl) i = (.ended o w', MemOp.ofEvents i g.frame.fn g.frame.place es) := by
  obtain ⟨hlt, rfl⟩ := Array.getElem?_eq_some_iff.1 hi
  have hsw := swapAt_of_lt hlt { (default : Goroutine) with status := .finished }
  show runT Try.prog { world := w, gs := gs, rest := { timers := #[], alone := none, slice := sl } } i = _
  unfold runT
  simp only [hsw, h, GStep.es]

/-- Goroutine 0 stands at its last step. -/
theorem Can.done {Post : Value → World → Prop} {v : Value} (hg : g.status = .running) (h : ∀ w₁, Eqv w w₁ → stepG Try.prog true g w₁ = .ended (.done v) w₁ #[] ∧ Post v w₁) : Can (Done Post) n g w := by
  have key : ∀ qs, Acc (LL Nat.lt) qs → ∀ gs w₁ sl t a, Cm qs gs w₁ t → Eqv w w₁ → gs[0]? = some a → Like a g → Done Post gs w₁ sl t := by
    intro qs hacc
    induction hacc with
    | intro qs _ ih =>
      intro gs w₁ sl t a hC hE ha hl
      have rf : ∀ {k : Nat} {b : Goroutine}, gs[k + 1]? = some b → ∃ q, qs[k]? = some q ∧ QuitsIn Try.prog q b := by
        intro k b hb
        have hk : k < qs.length := by
          have := (Array.getElem?_eq_some_iff.1 hb).1
          rw [hC.size] at this; omega
        obtain ⟨g2, e1, e2⟩ := hC.old k _ (List.getElem?_eq_getElem hk)
        rw [hb] at e1; cases e1
        exact ⟨_, List.getElem?_eq_getElem hk, e2⟩
      have haw : ∀ b ∈ gs, Go.Conc.awake b := by
        intro b hb
        obtain ⟨i, hi, rfl⟩ := Array.mem_iff_getElem.1 hb
        cases i with
        | zero =>
          have : gs[0] = a := by simpa [Array.getElem?_eq_getElem hi] using ha
          rw [this]; exact awake_of (.inl hl.run)
        | succ j =>
          obtain ⟨q, _, hq⟩ := rf (Array.getElem?_eq_getElem hi)
          exact awake_of ((quits_rf hq).elim .inl fun y => .inr (.inr y))
      obtain ⟨i, b, d, sl', hb, hbr, hst⟩ := crowd_pick (P := Try.prog) (w := w₁) (sl := sl) haw ⟨0, a, ha, hl.run⟩
      cases i with
      | zero =>
        rw [ha] at hb; cases hb
        obtain ⟨e1, e2⟩ := h (w₁.at d) ⟨hE.heap, hE.os, hE.output⟩
        have hr := runT_crowd_ended (sl := sl') ha (by rw [show ((0 : Nat) == 0) = true from rfl, hl.step]; exact e1)
        have hu : MemOp.ofEvents 0 a.frame.fn a.frame.place #[] = #[] := rfl
        rw [hu] at hr
        refine ⟨0, crowd gs w₁ sl, .done v, w₁.at d, t, ?_, rfl, ?_, good_cm hC e2⟩
        · simp only [runNT, hst, hr, Array.append_empty]
        · rw [← stepT_fst (b := true), hst, hr]
      | succ k =>
        obtain ⟨q, hq, hQ⟩ := rf hb
        cases q with
        | zero =>
          have : b.status = .finished := hQ
          rw [hbr] at this; cases this
        | succ q =>
          rcases hQ with hQ | ⟨_, g', hs, hQ'⟩
          · rw [hbr] at hQ; cases hQ
          have hk : k < qs.length := (List.getElem?_eq_some_iff.1 hq).1
          have hki : k + 1 < gs.size := (Array.getElem?_eq_some_iff.1 hb).1
          refine Done.step hst (runT_crowd_go hb (by simpa using hs (w₁.at d))) ?_
          have hu : MemOp.ofEvents (k + 1) b.frame.fn b.frame.place #[] = #[] := rfl
          rw [hu, Array.append_empty]
          refine ih (qs.set k q) (LL.set hq (Nat.lt_succ_self q)) _ (w₁.at d) sl' t a ⟨by simp [hC.size], fun l q2 hl2 => ?_, hC.tr, hC.low⟩ ⟨hE.heap, hE.os, hE.output⟩ ?_ hl
          · rw [List.getElem?_set] at hl2
            split at hl2
            · rename_i e
              subst e
              first
                | (cases hl2; exact ⟨g', by rw [Array.getElem?_setIfInBounds_self_of_lt (by simpa using hki)], hQ'⟩)
                | (rw [if_pos hk] at hl2; cases hl2; exact ⟨g', by rw [Array.getElem?_setIfInBounds_self_of_lt (by simpa using hki)], hQ'⟩)
            · rename_i e
              obtain ⟨g2, q1, q3⟩ := hC.old l q2 hl2
              refine ⟨g2, ?_, q3⟩
              rw [Array.getElem?_setIfInBounds_ne (by omega), Array.getElem?_map, q1]
              simp [woken_rf' (quits_rf q3)]
          · rw [Array.getElem?_setIfInBounds_ne (by omega), Array.getElem?_map, ha]
            simp [woken_rf' (.inl hl.run)]
  refine ⟨hg, fun qs gs w₁ sl t a _ hC hE ha hl => ⟨0, gs, w₁, sl, t, rfl, key qs (acc_list fun a _ => Nat.lt_wfRel.wf.apply a) gs w₁ sl t a hC hE ha hl⟩⟩

/-- What comes to a state from which the run ends, ends. -/
theorem Done.after {Post : Value → World → Prop} : ∀ (m : Nat) {M M' : Machine} {t t' : Trace}, runNT Try.prog m M t = (.next M', t') →
    (∃ N last o w' t2, runNT Try.prog (N + 1) M' t' = (.ended o w', t2) ∧ runN Try.prog N M' = .next last ∧ Go.step Try.prog last = .ended o w' ∧ Good Try.prog Post last o w' t2) →
    ∃ N last o w' t2, runNT Try.prog (N + 1) M t = (.ended o w', t2) ∧ runN Try.prog N M = .next last ∧ Go.step Try.prog last = .ended o w' ∧ Good Try.prog Post last o w' t2
  | 0, M, M', t, t', h, hD => by
    simp only [runNT, Prod.mk.injEq, Stepped.next.injEq] at h
    obtain ⟨rfl, rfl⟩ := h
    exact hD
  | m + 1, M, M', t, t', h, hD => by
    simp only [runNT] at h
    cases hs : stepT Try.prog M with
    | mk s u =>
      rw [hs] at h
      cases s with
      | next M2 =>
        obtain ⟨N, last, o, w', t2, r1, r2, r3⟩ := Done.after m h hD
        refine ⟨N + 1, last, o, w', t2, ?_, ?_, r3⟩
        · rw [runNT]
          simp only [hs]
          exact r1
        · have : Go.step Try.prog M = .next M2 := by rw [← stepT_fst (b := true), hs]
          rw [runN, this]
          exact r2
      | ended o w => simp at h

theorem can_runs {Post : Value → World → Prop} {g : Goroutine} {w : World} (h : Can (Done Post) 0 g w) (hg : Like g g) :
    ∃ N last o w' t', runNT Try.prog (N + 1) (solo g w) #[] = (.ended o w', t') ∧ runN Try.prog N (solo g w) = .next last ∧ Go.step Try.prog last = .ended o w' ∧ Good Try.prog Post last o w' t' := by
  have hT : TrI (#[] : Trace) fun _ => none := by
    refine ⟨fun op ho => by simp at ho, fun said hr => ?_, fun i a ha => ?_, (fun γ x i a b hk => (by cases hk)), (fun γ x i a b hk => (by cases hk)), (fun γ x i a hk => (by cases hk)), rfl, (fun γ γ' x x' b hk => (by cases hk)), (fun γ x b hk => (by cases hk))⟩
    · obtain ⟨i, j, _, ⟨a, b, h1, _⟩, _⟩ := hr
      simp [Trace.act?] at h1
    · simp [touchAt, Trace.act?] at ha
  obtain ⟨n, gs', w', sl', t', r, hD⟩ := h.2 [] #[g] w none #[] g rfl ⟨rfl, fun k q hk => by simp at hk, hT, fun i a b ha => by simp [touchAt, Trace.act?] at ha⟩ (Eqv.refl w) rfl hg
  rw [← solo_eq_crowd] at r
  exact Done.after n r hD
end
end Go.Proofs.Ytlndinigbppafaa

/-
  What a piece in company leaves behind stands for itself: plain data.
-/
namespace Go.Proofs.Ytlndinigbppafaa
open Go.Sim Go.Conc

/-- These blocks stand for themselves. -/
def idOn (D : Nat → Prop) : BR := fun b B => b = B ∧ D b
def domR (R : BR) (b : Nat) : Prop := ∃ B, R b B
theorem idOn_mono {D D' : Nat → Prop} (h : ∀ b, D b → D' b) : ∀ b B, idOn D b B → idOn D' b B := fun _ _ q => ⟨q.1, h _ q.2⟩
def ranR (R : BR) (B : Nat) : Prop := ∃ b, R b B
/-- A value that leads to such blocks alone. -/
def Vs (D : Nat → Prop) (v : Value) : Prop := VR Try.prog (idOn D) v v
/-- Blocks that hold plain data, which leads to such blocks alone. -/
def Pl (D : Nat → Prop) (w : World) : Prop := ∀ b, D b → Try.prog.globals.size ≤ b ∧ ∃ o, w.heap[b]? = some o ∧ OR Try.prog NoShd (idOn D) b o o

theorem ar_ran {R : BR} {a A : Addr} (h : AR R a A) : AR (idOn (ranR R)) A A := ⟨⟨rfl, _, h.1⟩, rfl, h.2.2.2, h.2.2.2⟩
theorem vr_ran {R : BR} {v V : Value} (h : VR Try.prog R v V) : VR Try.prog (idOn (ranR R)) V V := by
  have G : ∀ {x X : Array Value}, x.size = X.size → (∀ (i : Nat) v V, x[i]? = some v → X[i]? = some V → VR Try.prog (idOn (ranR R)) V V) → ∀ (i : Nat) v V, X[i]? = some v → X[i]? = some V → VR Try.prog (idOn (ranR R)) v V := by
    intro x X h1 h2 i v V e1 e2
    rw [e1] at e2; cases e2
    have hi := (Array.getElem?_eq_some_iff.1 e1).1
    exact h2 i _ v (Array.getElem?_eq_getElem (h1 ▸ hi)) e1
  induction h with
  | bool b => exact .bool b
  | int k n => exact .int k n
  | string s => exact .string s
  | nilPtr => exact .nilPtr
  | ptr ha => exact .ptr (ar_ran ha)
  | nilSlice l c => exact .nilSlice l c
  | slice l c ha => exact .slice l c (ar_ran ha)
  | nilMap => exact .nilMap
  | nilChan => exact .nilChan
  | func f hf h1 _ h2 _ i1 i2 => exact .func f hf rfl (G h1 i1) rfl (G h2 i2)
  | nilFunc => exact .nilFunc
  | iface t ht _ ih => exact .iface t ht ih
  | nilIface => exact .nilIface
  | agg h1 _ ih => exact .agg rfl (G h1 ih)
  | tuple h1 _ ih => exact .tuple rfl (G h1 ih)
theorem vrs_ran {R : BR} {x X : Array Value} (h : VRs Try.prog R x X) : VRs Try.prog (idOn (ranR R)) X X := by
  refine ⟨rfl, fun i v V e1 e2 => ?_⟩
  rw [e1] at e2; cases e2
  have hi := (Array.getElem?_eq_some_iff.1 e1).1
  exact vr_ran (h.2 i _ v (Array.getElem?_eq_getElem (h.1 ▸ hi)) e1)
theorem or_ran {R : BR} {b B : Nat} {o O : Obj} (h : OR Try.prog NoShd R b o O) : OR Try.prog NoShd (idOn (ranR R)) B O O := by
  cases h with
  | cells t h4 h5 h6 => exact .cells t (vrs_ran h4) (fun _ => rfl) fun q => q.elim
  | number l h4 h5 => exact .number l (ar_ran h4) fun q => q
theorem pl_ran {R : BR} {w W W' : World} (h : WR Try.prog NoShd R w W) (hk : ∀ b B, R b B → W'.heap[B]? = W.heap[B]?) : Pl (ranR R) W' := by
  intro B hB
  obtain ⟨b, hb⟩ := hB
  obtain ⟨o, O, _, e2, h3⟩ := h.dom b B hb
  exact ⟨(h.low b B hb).2, O, by rw [hk b B hb]; exact e2, or_ran h3⟩
end Go.Proofs.Ytlndinigbppafaa

/-
  The simulation of a world by itself: which blocks hold plain data.
-/
namespace Go.Proofs.Ytlndinigbppafaa
open Go.Sim Go.Conc Go.Fi

theorem ar_self {R : BR} {a A : Addr} (h : AR R a A) : AR (idOn (domR R)) a a := ⟨⟨rfl, _, h.1⟩, rfl, h.2.2.1, h.2.2.1⟩
theorem vr_self {R : BR} {v V : Value} (h : VR Try.prog R v V) : VR Try.prog (idOn (domR R)) v v := by
  induction h with
  | bool b => exact .bool b
  | int k n => exact .int k n
  | string s => exact .string s
  | nilPtr => exact .nilPtr
  | ptr ha => exact .ptr (ar_self ha)
  | nilSlice l c => exact .nilSlice l c
  | slice l c ha => exact .slice l c (ar_self ha)
  | nilMap => exact .nilMap
  | nilChan => exact .nilChan
  | func f hf h1 _ h2 _ i1 i2 =>
    rename_i x X y Y _ _
    refine .func f hf rfl (fun i v V e1 e2 => ?_) rfl fun i v V e1 e2 => ?_
    · rw [e1] at e2; cases e2
      have hi := (Array.getElem?_eq_some_iff.1 e1).1
      exact i1 i v _ e1 (Array.getElem?_eq_getElem (h1 ▸ hi))
    · rw [e1] at e2; cases e2
      have hi := (Array.getElem?_eq_some_iff.1 e1).1
      exact i2 i v _ e1 (Array.getElem?_eq_getElem (h2 ▸ hi))
  | nilFunc => exact .nilFunc
  | iface t ht _ ih => exact .iface t ht ih
  | nilIface => exact .nilIface
  | agg h1 _ ih =>
    refine .agg rfl fun i v V e1 e2 => ?_
    rw [e1] at e2; cases e2
    have hi := (Array.getElem?_eq_some_iff.1 e1).1
    exact ih i v _ e1 (Array.getElem?_eq_getElem (h1 ▸ hi))
  | tuple h1 _ ih =>
    refine .tuple rfl fun i v V e1 e2 => ?_
    rw [e1] at e2; cases e2
    have hi := (Array.getElem?_eq_some_iff.1 e1).1
    exact ih i v _ e1 (Array.getElem?_eq_getElem (h1 ▸ hi))
theorem vrs_self {R : BR} {x X : Array Value} (h : VRs Try.prog R x X) : VRs Try.prog (idOn (domR R)) x x := by
  refine ⟨rfl, fun i v V e1 e2 => ?_⟩
  rw [e1] at e2; cases e2
  obtain ⟨V, _, hv⟩ := h.get e1
  exact vr_self hv
theorem wr_self {R : BR} {w W : World} (h : WR Try.prog NoShd R w W) : WR Try.prog NoShd (idOn (domR R)) w w := by
  refine ⟨fun b B hR => ?_, fun b b' B B' q1 q2 => ?_, fun b hb => hb.elim, fun b B hR => ?_, h.glob.1, h.glob.1⟩
  · obtain ⟨rfl, B', hB⟩ := hR
    obtain ⟨o, O, h1, _, h3⟩ := h.dom b B' hB
    refine ⟨o, o, h1, h1, ?_⟩
    cases h3 with
    | cells t h4 h5 h6 => exact .cells t (vrs_self h4) (fun _ => rfl) fun q => q.elim
    | number l h4 h5 => exact .number l (ar_self h4) h5
  · rw [q1.1, q2.1]
  · obtain ⟨rfl, B', hB⟩ := hR
    exact ⟨(h.low b B' hB).1, (h.low b B' hB).1⟩

/-- These blocks hold plain data, and nothing but such blocks is to be had from them. -/
def Sf (D : Nat → Prop) (w : World) : Prop := WR Try.prog NoShd (idOn D) w w
theorem Vs.mono {D D' : Nat → Prop} {v : Value} (h : Vs D v) (hD : ∀ b, D b → D' b) : Vs D' v := VR.mono (idOn_mono hD) h
theorem Vs.int (D : Nat → Prop) (k : IntKind) (n : Int) : Vs D (.int k n) := VR.int k n
theorem Vs.bool (D : Nat → Prop) (b : Bool) : Vs D (.bool b) := VR.bool b
theorem Vs.tuple {D : Nat → Prop} {x : Array Value} (h : Vs D (.tuple x)) {i : Nat} {v : Value} (hi : x[i]? = some v) : Vs D v := by
  unfold Vs at h
  cases h with
  | tuple h1 h2 => exact h2 i v v hi hi
theorem vrs_of {D : Nat → Prop} {l : List Value} (h : ∀ v ∈ l, Vs D v) : VRs Try.prog (idOn D) l.toArray l.toArray := by
  refine ⟨rfl, fun i v V e1 e2 => ?_⟩
  rw [e1] at e2; cases e2
  exact h v (by simpa using Array.mem_of_getElem? e1)

/-- Blocks added: each a row of plain values that lead to such blocks alone. -/
theorem Sf.add {D D' : Nat → Prop} {w : World} (h : Sf D w) (hsub : ∀ b, D b → D' b) (hnew : ∀ b, D' b → D b ∨ (Try.prog.globals.size ≤ b ∧ ∃ c t fz, w.heap[b]? = some (.cells c t fz) ∧ ∀ v ∈ c, Vs D' v)) : Sf D' w := by
  refine ⟨fun b B hR => ?_, fun b b' B B' q1 q2 => by rw [q1.1, q2.1], fun b hb => hb.elim, fun b B hR => ?_, h.glob⟩
  · obtain ⟨rfl, hb⟩ := hR
    rcases hnew b hb with hb | ⟨_, c, t, fz, e, hc⟩
    · obtain ⟨o, O, h1, h2, h3⟩ := h.dom b b ⟨rfl, hb⟩
      exact ⟨o, O, h1, h2, h3.mono (idOn_mono hsub)⟩
    · refine ⟨_, _, e, e, .cells t ⟨rfl, fun i v V e1 e2 => ?_⟩ (fun _ => rfl) fun q => q.elim⟩
      rw [e1] at e2; cases e2
      exact hc v (Array.mem_of_getElem? e1)
  · obtain ⟨rfl, hb⟩ := hR
    rcases hnew b hb with hb | ⟨hg, _⟩
    · exact h.low b b ⟨rfl, hb⟩
    · exact ⟨hg, hg⟩
theorem Sf.keep {D : Nat → Prop} {w w' : World} (h : Sf D w) (hs : w.heap.size ≤ w'.heap.size) (hk : ∀ b, b < w.heap.size → w'.heap[b]? = w.heap[b]?) : Sf D w' := by
  refine ⟨fun b B hR => ?_, fun b b' B B' q1 q2 => by rw [q1.1, q2.1], fun b hb => hb.elim, h.low, Nat.le_trans h.glob.1 hs, Nat.le_trans h.glob.1 hs⟩
  obtain ⟨o, O, h1, h2, h3⟩ := h.dom b B hR
  have e1 := hk b (Array.getElem?_eq_some_iff.1 h1).1
  have e2 := hk B (Array.getElem?_eq_some_iff.1 h2).1
  exact ⟨o, O, e1.trans h1, e2.trans h2, h3⟩

/-- All that is plain is added. -/
theorem Sf.plain {D : Nat → Prop} {w : World} (h : Sf D w) : Sf (fun b => D b ∨ ∃ E, Pl E w ∧ E b) w := by
  refine ⟨fun b B hR => ?_, fun b b' B B' q1 q2 => by rw [q1.1, q2.1], fun b hb => hb.elim, fun b B hR => ?_, h.glob⟩
  · obtain ⟨rfl, hb⟩ := hR
    rcases hb with hb | ⟨E, hE, hb⟩
    · obtain ⟨o, O, h1, h2, h3⟩ := h.dom b b ⟨rfl, hb⟩
      exact ⟨o, O, h1, h2, h3.mono (idOn_mono fun _ q => .inl q)⟩
    · obtain ⟨_, o, h1, h2⟩ := hE b hb
      exact ⟨o, o, h1, h1, h2.mono (idOn_mono fun _ q => .inr ⟨E, hE, q⟩)⟩
  · obtain ⟨rfl, hb⟩ := hR
    rcases hb with hb | ⟨E, hE, hb⟩
    · exact h.low b b ⟨rfl, hb⟩
    · exact ⟨(hE b hb).1, (hE b hb).1⟩

section
variable {Gl : Array Goroutine → World → Option (Nat × Nat) → Trace → Prop} {n : Nat}
variable {b : Frame} {a a' : Act} {k : List Item} {cs : List Frame} {ops : Array Oper} {i : Nat} {rest : List Nat} {o : Oper} {w : World}

/-- A CALL BY ITS LONE CONTRACT, in a world that stands for itself. -/
theorem Can.callS {f : FuncId} {fn : Func} {c : Code} {args : Array Operand} {ats : Array TypeId} {D : Nat → Prop} {vs : List Value} {Q : Value → World → Prop} (hk : b.kind ≠ .early) (ho : ops[i]? = some o) (hwt : Region.wanted o (yielded ops a.tmps) = true) (hop : o.op = .call { callee := .value (.func f), args, argTypes := ats })
    (hf : Try.prog.funcs[f]? = some fn) (hname : fn.name ∈ names) (hb : fn.body = some c) (hres : ∀ r ∈ fn.results, ∃ t, r = .tmp t) (hargs : args.map a.eval = vs.toArray)
    (hA : ∀ v ∈ vs, Vs D v) (hw : Sf D w) (hQ : ∀ v w τ, Q v w → Q v (w.tp τ))
    (hc : ∀ τ, Calls Try.prog f vs.toArray (w.tp τ) fun e w' => match e with | .returned v => Q v w' | _ => False)
    (hK : ∀ {D' : Nat → Prop} {v : Value} {w' : World}, (∀ b, D b → D' b) → Vs D' v → Sf D' w' → Q v w' → Can Gl n (G (b.at (a.put o.dst v) (.inRegion ops rest :: k)) cs) w') :
    Can Gl n (G (b.at a (.inRegion ops (i :: rest) :: k)) cs) w := by
  refine Can.call (R := idOn D) (A := vs.toArray) (W := w) hk ho hwt hop hf hname hb hres (by rw [hargs]; exact vrs_of hA) hw hQ (fun τ => by rw [hargs]; exact hc τ) ?_
  intro R' v V w' W' s1 hv hw' hq
  exact hK (D' := domR R') (fun b hb => ⟨b, s1 b b ⟨rfl, hb⟩⟩) (vr_self hv) (wr_self hw') hq
end
end Go.Proofs.Ytlndinigbppafaa

/-
  The rest of a frame, by the lone walk: to the run's end.
-/
namespace Go.Proofs.Ytlndinigbppafaa
open Go.Sim Go.Conc Go.Fi

theorem results_pure {fn : Func} (hres : ∀ r ∈ fn.results, ∃ t, r = .tmp t) (t : Array Value) : ∃ v, results fn t = pure v := by
  have K : ∀ (l : List ResultVar), (∀ r ∈ l, ∃ t, r = .tmp t) → ∃ vs : List Value, l.mapM (rdv t) = pure vs := by
    intro l
    induction l with
    | nil => exact fun _ => ⟨[], rfl⟩
    | cons r l ih =>
      intro hl
      obtain ⟨x, rfl⟩ := hl r (List.mem_cons_self ..)
      obtain ⟨vs, h2⟩ := ih fun r hr => hl r (List.mem_cons_of_mem _ hr)
      exact ⟨t.getD x Go.undef :: vs, by rw [List.mapM_cons, h2]; rfl⟩
  obtain ⟨vs, h2⟩ := K fn.results.toList (fun r hr' => hres r (by simpa using hr'))
  exact ⟨_, by rw [results_eq, Array.mapM_eq_mapM_toList, h2]; rfl⟩

theorem stepG_done {P : Program} {fr : Frame} {fn : Func} {v : Value} (hm : fr.mode = .returning) (hd : fr.defers = []) (hk : fr.kind = .normal) (hf : P.funcs[fr.fn]? = some fn) (hr : results fn fr.tmps = pure v) (hi : P.inits.idxOf? fr.fn = none) (w : World) : stepG P true (G fr []) w = .ended (.done v) w #[] := by
  simp [stepG, G, unwind, doReturn, hm, hd, hk, hf, hr, hi, seen, GStep.after]

section
variable {n : Nat} {Post : Value → World → Prop}

/-- THE REST OF THE LAST FRAME. -/
theorem Can.rest {f : FuncId} {fn : Func} {c : Code} {a : Act} {w : World} {D : Nat → Prop} (hf : Try.prog.funcs[f]? = some fn) (hc : CodeOK Try.prog c) (htm : ∀ v ∈ a.tmps, Vs D v) (hd : a.defers = []) (hw : Sf D w) (hres : ∀ r ∈ fn.results, ∃ t, r = .tmp t) (hin : Try.prog.inits.idxOf? f = none)
    (hP : ∀ v w w₁, Post v w → Eqv w w₁ → Post v w₁)
    (hwp : ∀ τ, c.wp Try.prog (bodyPost Try.prog fn fun e w' => match e with | .returned v => Post v w' | _ => False) a (w.tp τ)) : Can (Done Post) n (G ((base f).at a [.code c]) []) w := by
  have htm' : VRs Try.prog (idOn D) a.tmps a.tmps := by
    refine ⟨rfl, fun i v V e1 e2 => ?_⟩
    rw [e1] at e2; cases e2
    exact htm v (Array.mem_of_getElem? e1)
  have hF : FR Try.prog (idOn D) ((base f).at a [.code c]) ((base f).at a [.code c]) :=
    { fn := rfl, tmps := htm', todo := rfl, items := fun it hit => by
        have : it = .code c := by simpa [Frame.at] using hit
        subst this
        exact hc, defers := hd, defers' := hd, mode := rfl, modes := .inl rfl, kind := rfl, kind' := rfl, round := rfl, round' := rfl, func := ⟨fn, hf⟩ }
  have hRel : Rel Try.prog NoShd ((base f).at a [.code c]) [] w := ⟨_, _, [], w, hF, trivial, hw⟩
  have hrun : Run Try.prog (fun fr w => fr.fn = f ∧ FinQ Try.prog Post fr w) ((base f).at a [.code c]) [] w := by
    refine run_of_good noShd zeroOK bodiesOK (fun fr w τ h => ?_) hRel fun τ => ?_
    · obtain ⟨h0, v, fn, h1, hr, h2, h3⟩ := h
      exact ⟨h0, v, fn, h1, hr, h2, hP v w _ h3 ⟨rfl, rfl, rfl⟩⟩
    · obtain ⟨e, a', w', hq, harr⟩ := hwp τ (base f) [] [c0 Try.prog]
      have fin : ∀ {todo : List Item} {v : Value}, Steps Try.prog (lone ((base f).at a [.code c]) [c0 Try.prog] (w.tp τ)) (lone { (base f).at a' todo with mode := .returning } [c0 Try.prog] w') → (results fn a'.tmps).run Try.prog w' = .ok v w' → Post v w' →
          ∃ n, EndsG Try.prog (fun fr w => fr.fn = f ∧ FinQ Try.prog Post fr w) n ((base f).at a [.code c]) [] (w.tp τ) := by
        intro todo v hs hr hp
        obtain ⟨m, hm⟩ := hs
        obtain ⟨v', hv'⟩ := results_pure hres a'.tmps
        rw [hv'] at hr
        cases hr
        exact ⟨m, endsG_of_run noShd zeroOK bodiesOK (fr' := { (base f).at a' todo with mode := .returning }) (w' := w') rfl ⟨rfl, _, fn, hf, hres, hv', hp⟩ m (hRel.tp τ) hm⟩
      cases e with
      | normal =>
        obtain ⟨_, v, hr, hp⟩ := hq
        exact fin (Steps.trans harr (.one step_end)) hr hp
      | ret =>
        obtain ⟨_, v, hr, hp⟩ := hq
        obtain ⟨todo, hs⟩ := harr
        exact fin hs hr hp
      | panic ch => exact hq.2.elim
      | outgrown => exact hq.elim
      | exit _ => exact hq.elim
      | goto _ => exact hq.elim
  refine Can.run (cs := []) (K := []) hrun (Cs := []) hF trivial hw ?_
  intro R' fr' Fr' w' W' _ f1 hm hfin _
  obtain ⟨h0, v, fn2, e1, hr2, e2, hq⟩ := hfin
  refine Can.done (v := v) rfl fun w₁ hE => ⟨?_, hP v w' w₁ hq hE⟩
  exact stepG_done hm f1.defers f1.kind e1 e2 (by rw [h0]; exact hin) w₁
end
end Go.Proofs.Ytlndinigbppafaa
