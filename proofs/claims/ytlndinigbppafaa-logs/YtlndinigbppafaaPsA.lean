/-
  The caller's script, told along its code.
-/
import Derived.Test.YtlndinigbppafaaMcK
import Derived.Conc.Own4
import Derived.Conc.Listed
namespace Go.Proofs.Ytlndinigbppafaa
open Go.Sim Go.Conc

/-- What is held of the world stands whatever the children do. -/
def Stab (PB : Nat → Prop) (s : St) (F : World → Prop) : Prop := ∀ w w₁, F w → RelyC PB s.rd w w₁ → F w₁

/-- The value of a plain operation, which looks at no memory. -/
def pv (ρ : Operand → Value) : Op → Option Value
  | .move x => some (ρ x)
  | .assign x => some (ρ x)
  | .binOp op _ x y _ => match op, ρ x, ρ y with
    | .lss, .int k a, .int k' b => if k = k' then some (.bool (a < b)) else none
    | .add, .int k a, .int k' b => if k = k' then some (.int k (k.wrap (a + b))) else none
    | _, _, _ => none
  | .extract x i => match ρ x with
    | .tuple vs => vs[i]?
    | _ => none
  | .makeFunc f a c => some (.func f (a.map ρ) (c.map ρ))
  | _ => none

theorem pv_run {ρ : Operand → Value} {o : Oper} {v : Value} (h : pv ρ o.op = some v) (w : World) : (execOp ρ o).run Try.prog w = .ok (.value v) w ∧ (execOp ρ o).events Try.prog w #[] = #[] := by
  unfold execOp
  generalize o.op = op at h ⊢
  cases op with
  | move x => cases h; exact ⟨rfl, rfl⟩
  | assign x => cases h; exact ⟨rfl, rfl⟩
  | makeFunc f a c => cases h; exact ⟨rfl, rfl⟩
  | extract x i =>
    simp only [pv] at h
    dsimp only
    split at h
    · rename_i vs hv
      rw [hv]
      simp [Instr.extract, h]
    · cases h
  | binOp bop t x y _ =>
    simp only [pv] at h
    dsimp only
    split at h
    · rename_i k a k' b hx hy
      split at h
      · rename_i hk
        cases h
        subst hk
        rw [hx, hy]
        simp [eqGuard, binOp, Op.intCmp]
      · cases h
    · rename_i k a k' b hx hy
      split at h
      · rename_i hk
        cases h
        subst hk
        rw [hx, hy]
        simp [eqGuard, binOp, Op.intArith]
      · cases h
    · cases h
  | _ => cases h

/-- Plain operations, one behind the other. -/
def pureOps (ops : Array Oper) : List Nat → Act → Option Act
  | [], a => some a
  | i :: rest, a => match ops[i]? with
    | some o => match o.guard, pv a.eval o.op with
      | none, some v => pureOps ops rest (a.put o.dst v)
      | _, _ => none
    | none => none

section
variable {ver : Value} {N : Nat} {Fin : St → (Nat → Prop) → Goroutine → World → Prop} {s : St} {PB : Nat → Prop} {F : World → Prop} {b : Frame} {a a' : Act} {k : List Item} {cs : List Frame} {ops : Array Oper} {i : Nat} {rest : List Nat} {o : Oper} {g g' : Goroutine}

variable (ver N Fin s PB F g) in
/-- From wherever F holds, the script goes on. -/
def AtP : Prop := ∀ w, F w → PS ver N Fin s PB g w

theorem AtP.pure (hS : Stab PB s F) (hg : g.status = .running) (h : ∀ w, stepG Try.prog true g w = .go g' w #[]) (hk : AtP ver N Fin s PB F g') : AtP ver N Fin s PB F g :=
  fun w hw => PS.one hg fun w₁ hr => ⟨g', w₁, #[], h w₁, ⟨guar_none rfl rfl rfl rfl, fun e he => by simp at he⟩, by rw [grow_same rfl]; exact hk w₁ (hS w w₁ hw hr)⟩

theorem wanted_of {y : Nat → Option Bool} (h : o.guard = none) : Region.wanted o y = true := by unfold Region.wanted; rw [h]

/-- An operation that yields a value. -/
theorem AtP.op (hS : Stab PB s F) (hk : b.kind ≠ .early) (ho : ops[i]? = some o) (hg : o.guard = none)
    (h : ∀ w, F w → ∃ v w', (execOp a.eval o).run Try.prog w = .ok (.value v) w' ∧ (GuarC PB s.rd w w' (listed Try.prog b.fn a o w) ∧ NoObj (listed Try.prog b.fn a o w)) ∧ PS ver N Fin s (grow PB w w') (G (b.at (a.put o.dst v) (.inRegion ops rest :: k)) cs) w') :
    AtP ver N Fin s PB F (G (b.at a (.inRegion ops (i :: rest) :: k)) cs) := by
  intro w hw
  refine PS.one rfl fun w₁ hr => ?_
  obtain ⟨v, w', h1, h2, h3⟩ := h w₁ (hS w w₁ hw hr)
  exact ⟨_, w', _, stepG_value ho (wanted_of hg) hk h1, h2, h3⟩
/-- .. that yields nothing. -/
theorem AtP.op0 (hS : Stab PB s F) (hk : b.kind ≠ .early) (ho : ops[i]? = some o) (hg : o.guard = none)
    (h : ∀ w, F w → ∃ w', (execOp a.eval o).run Try.prog w = .ok .skip w' ∧ (GuarC PB s.rd w w' (listed Try.prog b.fn a o w) ∧ NoObj (listed Try.prog b.fn a o w)) ∧ PS ver N Fin s (grow PB w w') (G (b.at (a.put o.dst undef) (.inRegion ops rest :: k)) cs) w') :
    AtP ver N Fin s PB F (G (b.at a (.inRegion ops (i :: rest) :: k)) cs) := by
  intro w hw
  refine PS.one rfl fun w₁ hr => ?_
  obtain ⟨w', h1, h2, h3⟩ := h w₁ (hS w w₁ hw hr)
  exact ⟨_, w', _, stepG_none ho (wanted_of hg) hk h1, h2, h3⟩

/-- .. that looks at no memory. -/
theorem AtP.val {v : Value} (hS : Stab PB s F) (hk : b.kind ≠ .early) (ho : ops[i]? = some o) (hg : o.guard = none) (h : ∀ w, (execOp a.eval o).run Try.prog w = .ok (.value v) w ∧ (execOp a.eval o).events Try.prog w #[] = #[])
    (hK : AtP ver N Fin s PB F (G (b.at (a.put o.dst v) (.inRegion ops rest :: k)) cs)) : AtP ver N Fin s PB F (G (b.at a (.inRegion ops (i :: rest) :: k)) cs) := by
  refine AtP.pure hS rfl (fun w => ?_) hK
  rw [stepG_value ho (wanted_of hg) hk (h w).1]
  unfold listed
  rw [(h w).2, seen_none]

theorem AtP.pures {l : List Nat} (hS : Stab PB s F) (hk : b.kind ≠ .early) (h : pureOps ops l a = some a') (hK : AtP ver N Fin s PB F (G (b.at a' (.inRegion ops rest :: k)) cs)) : AtP ver N Fin s PB F (G (b.at a (.inRegion ops (l ++ rest) :: k)) cs) := by
  induction l generalizing a with
  | nil => cases h; exact hK
  | cons i l ih =>
    unfold pureOps at h
    split at h
    · rename_i o ho
      split at h
      · rename_i v hg hv
        exact AtP.val hS hk ho hg (pv_run hv) (ih h)
      · cases h
    · cases h

/-- A region of plain operations. -/
theorem AtP.region {id : Nat} (hS : Stab PB s F) (hk : b.kind ≠ .early) (h : pureOps ops (List.range ops.size) a = some a') (hK : AtP ver N Fin s PB F (G (b.at a' k) cs)) : AtP ver N Fin s PB F (G (b.at a (.code (.region id ops false) :: k)) cs) := by
  refine AtP.pure hS rfl (fun w => stepG_region) ?_
  have := AtP.pures (rest := []) (k := k) (cs := cs) hS hk h (AtP.pure hS rfl (fun w => stepG_region_end) hK)
  rwa [List.append_nil] at this
/-- Into a region. -/
theorem AtP.into {id : Nat} (hS : Stab PB s F) (hK : AtP ver N Fin s PB F (G (b.at a (.inRegion ops (List.range ops.size) :: k)) cs)) : AtP ver N Fin s PB F (G (b.at a (.code (.region id ops false) :: k)) cs) := AtP.pure hS rfl (fun _ => stepG_region) hK
theorem AtP.out (hS : Stab PB s F) (hK : AtP ver N Fin s PB F (G (b.at a k) cs)) : AtP ver N Fin s PB F (G (b.at a (.inRegion ops [] :: k)) cs) := AtP.pure hS rfl (fun _ => stepG_region_end) hK
theorem AtP.seq {x y : Code} (hS : Stab PB s F) (hK : AtP ver N Fin s PB F (G (b.at a (.code x :: .code y :: k)) cs)) : AtP ver N Fin s PB F (G (b.at a (.code (.seq x y) :: k)) cs) := AtP.pure hS rfl (fun _ => stepG_seq) hK
theorem AtP.skip (hS : Stab PB s F) (hK : AtP ver N Fin s PB F (G (b.at a k) cs)) : AtP ver N Fin s PB F (G (b.at a (.code .skip :: k)) cs) := AtP.pure hS rfl (fun _ => stepG_skip) hK
theorem AtP.inBlock {id : Nat} (hS : Stab PB s F) (hK : AtP ver N Fin s PB F (G (b.at a k) cs)) : AtP ver N Fin s PB F (G (b.at a (.inBlock id :: k)) cs) := AtP.pure hS rfl (fun _ => stepG_inBlock) hK
theorem AtP.block {id : Nat} {c : Code} (hS : Stab PB s F) (hK : AtP ver N Fin s PB F (G (b.at a (.code c :: .inBlock id :: k)) cs)) : AtP ver N Fin s PB F (G (b.at a (.code (.block id c) :: k)) cs) := AtP.pure hS rfl (fun _ => stepG_block) hK
theorem AtP.loop {c : Code} (hS : Stab PB s F) (hK : AtP ver N Fin s PB F (G (b.at a (.code c :: .inLoop c :: k)) cs)) : AtP ver N Fin s PB F (G (b.at a (.code (.loop c) :: k)) cs) := AtP.pure hS rfl (fun _ => stepG_loop) hK
theorem AtP.inLoop {c : Code} (hS : Stab PB s F) (hK : AtP ver N Fin s PB F (G (b.at a (.code c :: .inLoop c :: k)) cs)) : AtP ver N Fin s PB F (G (b.at a (.inLoop c :: k)) cs) := AtP.pure hS rfl (fun _ => stepG_inLoop) hK
theorem AtP.cond {c : Operand} {x y : Code} {t : Bool} (hS : Stab PB s F) (h : a.eval c = .bool t) (hK : AtP ver N Fin s PB F (G (b.at a (.code (if t then x else y) :: k)) cs)) : AtP ver N Fin s PB F (G (b.at a (.code (.cond c x y) :: k)) cs) := AtP.pure hS rfl (fun _ => stepG_cond h) hK
theorem AtP.exit {id : Nat} {k' : List Item} (hS : Stab PB s F) (h : exitTo id k = some k') (hK : AtP ver N Fin s PB F (G (b.at a k') cs)) : AtP ver N Fin s PB F (G (b.at a (.code (.exit id) :: k)) cs) := AtP.pure hS rfl (fun _ => stepG_exit h) hK
theorem AtP.ret (hS : Stab PB s F) (hK : AtP ver N Fin s PB F (G { b.at a (.code .ret :: k) with mode := .returning } cs)) : AtP ver N Fin s PB F (G (b.at a (.code .ret :: k)) cs) := AtP.pure hS rfl (fun _ => stepG_ret') hK

/-- A call by name. -/
theorem AtP.call {f : FuncId} {fn : Func} {c : Code} {args : Array Operand} {ats : Array TypeId} (hS : Stab PB s F) (hk : b.kind ≠ .early) (ho : ops[i]? = some o) (hg : o.guard = none) (hop : o.op = .call { callee := .value (.func f), args, argTypes := ats })
    (hf : Try.prog.funcs[f]? = some fn) (hname : (fn.name == "runtime.NumGoroutine") = false) (hb : fn.body = some c)
    (hK : AtP ver N Fin s PB F (G ((base f).at { tmps := args.map a.eval ++ Array.replicate (fn.ntmps - (args.map a.eval).size) undef, defers := [] } [.code c]) (b.at a (.inRegion ops (i :: rest) :: k) :: cs))) :
    AtP ver N Fin s PB F (G (b.at a (.inRegion ops (i :: rest) :: k)) cs) := by
  have hb' : fn.body.isNone = false := by rw [hb]; rfl
  refine AtP.pure hS rfl (fun w => ?_) hK
  rw [stepG_enter ho (wanted_of hg) hk (run_call_body hop hf hname hb'), enter_at _ hf hb]
  unfold listed
  rw [events_call_body hop hf hname hb', seen_none]
/-- The return to the caller. -/
theorem AtP.leave1 {fn : Func} {t : Tmp} {todo : List Item} {b₀ : Frame} {a₀ : Act} (hS : Stab PB s F) (hn : b.kind = .normal) (hd : a.defers = []) (hf : Try.prog.funcs[b.fn]? = some fn) (hr : fn.results = #[.tmp t])
    (hK : AtP ver N Fin s PB F (G (b₀.at (a₀.put ((ops[i]?).bind (·.dst)) (a.tmps.getD t undef)) (.inRegion ops rest :: k)) cs)) :
    AtP ver N Fin s PB F (G { b.at a todo with mode := .returning } (b₀.at a₀ (.inRegion ops (i :: rest) :: k) :: cs)) := by
  refine AtP.pure hS rfl (fun w => ?_) hK
  rw [stepG_leave hn hd hf (results_tmp hr _ Try.prog w) (events_results_tmp hr _ _), Frame.finish_at]
end

/-! ### memory -/
theorem guar_push {O Rd : Nat → Prop} {W : World} {o : Obj} {es : Array Event} (h : ∀ e ∈ es, e.loc = .mark .noRoom) : GuarC O Rd W { W with heap := W.heap.push o } es :=
  ⟨by simp, fun b hb _ => by show (W.heap.push o)[b]? = _; rw [Array.getElem?_push, if_neg (by omega)], rfl, rfl, rfl, fun e he => .inl (h e he)⟩
theorem grow_push {O : Nat → Prop} {W : World} {o : Obj} : grow O W { W with heap := W.heap.push o } = fun b => O b ∨ b = W.heap.size := by
  funext b
  unfold grow
  simp only [Array.size_push]
  apply propext
  constructor
  · rintro (h | h)
    · exact .inl h
    · right; omega
  · rintro (h | h)
    · exact .inl h
    · right; omega
theorem guar_cell {O Rd : Nat → Prop} {W : World} {A : Addr} {wr : Bool} {es : Array Event} (hb : O A.block ∨ (Rd A.block ∧ wr = false)) (he : ∀ e ∈ es, e = ⟨.cell A, wr, false⟩) : GuarC O Rd W W es :=
  ⟨Nat.le_refl _, fun _ _ _ => rfl, rfl, rfl, rfl, fun e h => by rw [he e h]; exact .inr ⟨rfl, A.block, .inl ⟨_, rfl, rfl⟩, hb.imp .inl id⟩⟩
theorem noObj_cell {A : Addr} {wr : Bool} {es : Array Event} (he : ∀ e ∈ es, e = ⟨.cell A, wr, false⟩) : NoObj es := fun e h b q => by rw [he e h] at q; cases q
theorem noObj_mark {es : Array Event} (he : ∀ e ∈ es, e.loc = .mark .noRoom) : NoObj es := fun e h b q => by rw [he e h] at q; cases q
end Go.Proofs.Ytlndinigbppafaa
