/-
  Texts of ours, joined: PsA, PsB, PsC, PsD, PsE, PsF, PsG, PsH.
-/
import Derived.Test.YtlndinigbppafaaMcK
import Derived.Conc.Own4
import Derived.Conc.Listed
import Derived.KernelRfl
import Derived.Laws.MakeOwn
/-
  The caller's script, told along its code.
-/
namespace Go.Proofs.Ytlndinigbppafaa
open Go.Sim Go.Conc

/-- What is held of the world stands whatever the children do. -/
def Stab (PB : Nat → Prop) (s : St) (F : World → Prop) : Prop := ∀ w w₁, F w → RelyC PB s.rd w w₁ → F w₁

/-- The value of a plain operation, which looks at no memory. -/
def pv (ρ : Operand → Value) : Op → Option Value
  | .move x => some (ρ x)
  | .assign x => some (ρ x)
  | .binOp op _ x y _ => match op, ρ x, ρ y with
    | .lss, .int k a, .int k' b => if k = k' then some (.bool (a < b)) else none
    | .add, .int k a, .int k' b => if k = k' then some (.int k (k.wrap (a + b))) else none
    | _, _, _ => none
  | .extract x i => match ρ x with
    | .tuple vs => vs[i]?
    | _ => none
  | .makeFunc f a c => some (.func f (a.map ρ) (c.map ρ))
  | _ => none

theorem pv_run {ρ : Operand → Value} {o : Oper} {v : Value} (h : pv ρ o.op = some v) (w : World) : (execOp ρ o).run Try.prog w = .ok (.value v) w ∧ (execOp ρ o).events Try.prog w #[] = #[] := by
  unfold execOp
  generalize o.op = op at h ⊢
  cases op with
  | move x => cases h; exact ⟨rfl, rfl⟩
  | assign x => cases h; exact ⟨rfl, rfl⟩
  | makeFunc f a c => cases h; exact ⟨rfl, rfl⟩
  | extract x i =>
    simp only [pv] at h
    dsimp only
    split at h
    · rename_i vs hv
      rw [hv]
      simp [Instr.extract, h]
    · cases h
  | binOp bop t x y _ =>
    simp only [pv] at h
    dsimp only
    split at h
    · rename_i k a k' b hx hy
      split at h
      · rename_i hk
        cases h
        subst hk
        rw [hx, hy]
        simp [eqGuard, binOp, Op.intCmp]
      · cases h
    · rename_i k a k' b hx hy
      split at h
      · rename_i hk
        cases h
        subst hk
        rw [hx, hy]
        simp [eqGuard, binOp, Op.intArith]
      · cases h
    · cases h
  | _ => cases h

/-- Plain operations, one behind the other. -/
def pureOps (ops : Array Oper) : List Nat → Act → Option Act
  | [], a => some a
  | i :: rest, a => match ops[i]? with
    | some o => match o.guard, pv a.eval o.op with
      | none, some v => pureOps ops rest (a.put o.dst v)
      | _, _ => none
    | none => none

section
variable {ver : Value} {N : Nat} {Fin : St → (Nat → Prop) → Goroutine → World → Prop} {s : St} {PB : Nat → Prop} {F : World → Prop} {b : Frame} {a a' : Act} {k : List Item} {cs : List Frame} {ops : Array Oper} {i : Nat} {rest : List Nat} {o : Oper} {g g' : Goroutine}

variable (ver N Fin s PB F g) in
/-- From wherever F holds, the script goes on. -/
def AtP : Prop := ∀ w, F w → PS ver N Fin s PB g w

theorem AtP.pure (hS : Stab PB s F) (hg : g.status = .running) (h : ∀ w, stepG Try.prog true g w = .go g' w #[]) (hk : AtP ver N Fin s PB F g') : AtP ver N Fin s PB F g :=
  fun w hw => PS.one hg fun w₁ hr => ⟨g', w₁, #[], h w₁, ⟨guar_none rfl rfl rfl rfl, fun e he => by simp at he⟩, by rw [grow_same rfl]; exact hk w₁ (hS w w₁ hw hr)⟩

theorem wanted_of {y : Nat → Option Bool} (h : o.guard = none) : Region.wanted o y = true := by unfold Region.wanted; rw [h]

/-- An operation that yields a value. -/
theorem AtP.op (hS : Stab PB s F) (hk : b.kind ≠ .early) (ho : ops[i]? = some o) (hg : o.guard = none)
    (h : ∀ w, F w → ∃ v w', (execOp a.eval o).run Try.prog w = .ok (.value v) w' ∧ (GuarC PB s.rd w w' (listed Try.prog b.fn a o w) ∧ NoObj (listed Try.prog b.fn a o w)) ∧ PS ver N Fin s (grow PB w w') (G (b.at (a.put o.dst v) (.inRegion ops rest :: k)) cs) w') :
    AtP ver N Fin s PB F (G (b.at a (.inRegion ops (i :: rest) :: k)) cs) := by
  intro w hw
  refine PS.one rfl fun w₁ hr => ?_
  obtain ⟨v, w', h1, h2, h3⟩ := h w₁ (hS w w₁ hw hr)
  exact ⟨_, w', _, stepG_value ho (wanted_of hg) hk h1, h2, h3⟩
/-- .. that yields nothing. -/
theorem AtP.op0 (hS : Stab PB s F) (hk : b.kind ≠ .early) (ho : ops[i]? = some o) (hg : o.guard = none)
    (h : ∀ w, F w → ∃ w', (execOp a.eval o).run Try.prog w = .ok .skip w' ∧ (GuarC PB s.rd w w' (listed Try.prog b.fn a o w) ∧ NoObj (listed Try.prog b.fn a o w)) ∧ PS ver N Fin s (grow PB w w') (G (b.at (a.put o.dst undef) (.inRegion ops rest :: k)) cs) w') :
    AtP ver N Fin s PB F (G (b.at a (.inRegion ops (i :: rest) :: k)) cs) := by
  intro w hw
  refine PS.one rfl fun w₁ hr => ?_
  obtain ⟨w', h1, h2, h3⟩ := h w₁ (hS w w₁ hw hr)
  exact ⟨_, w', _, stepG_none ho (wanted_of hg) hk h1, h2, h3⟩

/-- .. that looks at no memory. -/
theorem AtP.val {v : Value} (hS : Stab PB s F) (hk : b.kind ≠ .early) (ho : ops[i]? = some o) (hg : o.guard = none) (h : ∀ w, (execOp a.eval o).run Try.prog w = .ok (.value v) w ∧ (execOp a.eval o).events Try.prog w #[] = #[])
    (hK : AtP ver N Fin s PB F (G (b.at (a.put o.dst v) (.inRegion ops rest :: k)) cs)) : AtP ver N Fin s PB F (G (b.at a (.inRegion ops (i :: rest) :: k)) cs) := by
  refine AtP.pure hS rfl (fun w => ?_) hK
  rw [stepG_value ho (wanted_of hg) hk (h w).1]
  unfold listed
  rw [(h w).2, seen_none]

theorem AtP.pures {l : List Nat} (hS : Stab PB s F) (hk : b.kind ≠ .early) (h : pureOps ops l a = some a') (hK : AtP ver N Fin s PB F (G (b.at a' (.inRegion ops rest :: k)) cs)) : AtP ver N Fin s PB F (G (b.at a (.inRegion ops (l ++ rest) :: k)) cs) := by
  induction l generalizing a with
  | nil => cases h; exact hK
  | cons i l ih =>
    unfold pureOps at h
    split at h
    · rename_i o ho
      split at h
      · rename_i v hg hv
        exact AtP.val hS hk ho hg (pv_run hv) (ih h)
      · cases h
    · cases h

/-- A region of plain operations. -/
theorem AtP.region {id : Nat} (hS : Stab PB s F) (hk : b.kind ≠ .early) (h : pureOps ops (List.range ops.size) a = some a') (hK : AtP ver N Fin s PB F (G (b.at a' k) cs)) : AtP ver N Fin s PB F (G (b.at a (.code (.region id ops false) :: k)) cs) := by
  refine AtP.pure hS rfl (fun w => stepG_region) ?_
  have := AtP.pures (rest := []) (k := k) (cs := cs) hS hk h (AtP.pure hS rfl (fun w => stepG_region_end) hK)
  rwa [List.append_nil] at this
/-- Into a region. -/
theorem AtP.into {id : Nat} (hS : Stab PB s F) (hK : AtP ver N Fin s PB F (G (b.at a (.inRegion ops (List.range ops.size) :: k)) cs)) : AtP ver N Fin s PB F (G (b.at a (.code (.region id ops false) :: k)) cs) := AtP.pure hS rfl (fun _ => stepG_region) hK
theorem AtP.out (hS : Stab PB s F) (hK : AtP ver N Fin s PB F (G (b.at a k) cs)) : AtP ver N Fin s PB F (G (b.at a (.inRegion ops [] :: k)) cs) := AtP.pure hS rfl (fun _ => stepG_region_end) hK
theorem AtP.seq {x y : Code} (hS : Stab PB s F) (hK : AtP ver N Fin s PB F (G (b.at a (.code x :: .code y :: k)) cs)) : AtP ver N Fin s PB F (G (b.at a (.code (.seq x y) :: k)) cs) := AtP.pure hS rfl (fun _ => stepG_seq) hK
theorem AtP.skip (hS : Stab PB s F) (hK : AtP ver N Fin s PB F (G (b.at a k) cs)) : AtP ver N Fin s PB F (G (b.at a (.code .skip :: k)) cs) := AtP.pure hS rfl (fun _ => stepG_skip) hK
theorem AtP.inBlock {id : Nat} (hS : Stab PB s F) (hK : AtP ver N Fin s PB F (G (b.at a k) cs)) : AtP ver N Fin s PB F (G (b.at a (.inBlock id :: k)) cs) := AtP.pure hS rfl (fun _ => stepG_inBlock) hK
theorem AtP.block {id : Nat} {c : Code} (hS : Stab PB s F) (hK : AtP ver N Fin s PB F (G (b.at a (.code c :: .inBlock id :: k)) cs)) : AtP ver N Fin s PB F (G (b.at a (.code (.block id c) :: k)) cs) := AtP.pure hS rfl (fun _ => stepG_block) hK
theorem AtP.loop {c : Code} (hS : Stab PB s F) (hK : AtP ver N Fin s PB F (G (b.at a (.code c :: .inLoop c :: k)) cs)) : AtP ver N Fin s PB F (G (b.at a (.code (.loop c) :: k)) cs) := AtP.pure hS rfl (fun _ => stepG_loop) hK
theorem AtP.inLoop {c : Code} (hS : Stab PB s F) (hK : AtP ver N Fin s PB F (G (b.at a (.code c :: .inLoop c :: k)) cs)) : AtP ver N Fin s PB F (G (b.at a (.inLoop c :: k)) cs) := AtP.pure hS rfl (fun _ => stepG_inLoop) hK
theorem AtP.cond {c : Operand} {x y : Code} {t : Bool} (hS : Stab PB s F) (h : a.eval c = .bool t) (hK : AtP ver N Fin s PB F (G (b.at a (.code (if t then x else y) :: k)) cs)) : AtP ver N Fin s PB F (G (b.at a (.code (.cond c x y) :: k)) cs) := AtP.pure hS rfl (fun _ => stepG_cond h) hK
theorem AtP.exit {id : Nat} {k' : List Item} (hS : Stab PB s F) (h : exitTo id k = some k') (hK : AtP ver N Fin s PB F (G (b.at a k') cs)) : AtP ver N Fin s PB F (G (b.at a (.code (.exit id) :: k)) cs) := AtP.pure hS rfl (fun _ => stepG_exit h) hK
theorem AtP.ret (hS : Stab PB s F) (hK : AtP ver N Fin s PB F (G { b.at a (.code .ret :: k) with mode := .returning } cs)) : AtP ver N Fin s PB F (G (b.at a (.code .ret :: k)) cs) := AtP.pure hS rfl (fun _ => stepG_ret') hK

/-- A call by name. -/
theorem AtP.call {f : FuncId} {fn : Func} {c : Code} {args : Array Operand} {ats : Array TypeId} (hS : Stab PB s F) (hk : b.kind ≠ .early) (ho : ops[i]? = some o) (hg : o.guard = none) (hop : o.op = .call { callee := .value (.func f), args, argTypes := ats })
    (hf : Try.prog.funcs[f]? = some fn) (hname : (fn.name == "runtime.NumGoroutine") = false) (hb : fn.body = some c)
    (hK : AtP ver N Fin s PB F (G ((base f).at { tmps := args.map a.eval ++ Array.replicate (fn.ntmps - (args.map a.eval).size) undef, defers := [] } [.code c]) (b.at a (.inRegion ops (i :: rest) :: k) :: cs))) :
    AtP ver N Fin s PB F (G (b.at a (.inRegion ops (i :: rest) :: k)) cs) := by
  have hb' : fn.body.isNone = false := by rw [hb]; rfl
  refine AtP.pure hS rfl (fun w => ?_) hK
  rw [stepG_enter ho (wanted_of hg) hk (run_call_body hop hf hname hb'), enter_at _ hf hb]
  unfold listed
  rw [events_call_body hop hf hname hb', seen_none]
/-- The return to the caller. -/
theorem AtP.leave1 {fn : Func} {t : Tmp} {todo : List Item} {b₀ : Frame} {a₀ : Act} (hS : Stab PB s F) (hn : b.kind = .normal) (hd : a.defers = []) (hf : Try.prog.funcs[b.fn]? = some fn) (hr : fn.results = #[.tmp t])
    (hK : AtP ver N Fin s PB F (G (b₀.at (a₀.put ((ops[i]?).bind (·.dst)) (a.tmps.getD t undef)) (.inRegion ops rest :: k)) cs)) :
    AtP ver N Fin s PB F (G { b.at a todo with mode := .returning } (b₀.at a₀ (.inRegion ops (i :: rest) :: k) :: cs)) := by
  refine AtP.pure hS rfl (fun w => ?_) hK
  rw [stepG_leave hn hd hf (results_tmp hr _ Try.prog w) (events_results_tmp hr _ _), Frame.finish_at]
end

/-! ### memory -/
theorem guar_push {O Rd : Nat → Prop} {W : World} {o : Obj} {es : Array Event} (h : ∀ e ∈ es, e.loc = .mark .noRoom) : GuarC O Rd W { W with heap := W.heap.push o } es :=
  ⟨by simp, fun b hb _ => by show (W.heap.push o)[b]? = _; rw [Array.getElem?_push, if_neg (by omega)], rfl, rfl, rfl, fun e he => .inl (h e he)⟩
theorem grow_push {O : Nat → Prop} {W : World} {o : Obj} : grow O W { W with heap := W.heap.push o } = fun b => O b ∨ b = W.heap.size := by
  funext b
  unfold grow
  simp only [Array.size_push]
  apply propext
  constructor
  · rintro (h | h)
    · exact .inl h
    · right; omega
  · rintro (h | h)
    · exact .inl h
    · right; omega
theorem guar_cell {O Rd : Nat → Prop} {W : World} {A : Addr} {wr : Bool} {es : Array Event} (hb : O A.block ∨ (Rd A.block ∧ wr = false)) (he : ∀ e ∈ es, e = ⟨.cell A, wr, false⟩) : GuarC O Rd W W es :=
  ⟨Nat.le_refl _, fun _ _ _ => rfl, rfl, rfl, rfl, fun e h => by rw [he e h]; exact .inr ⟨rfl, A.block, .inl ⟨_, rfl, rfl⟩, hb.imp .inl id⟩⟩
theorem noObj_cell {A : Addr} {wr : Bool} {es : Array Event} (he : ∀ e ∈ es, e = ⟨.cell A, wr, false⟩) : NoObj es := fun e h b q => by rw [he e h] at q; cases q
theorem noObj_mark {es : Array Event} (he : ∀ e ∈ es, e.loc = .mark .noRoom) : NoObj es := fun e h b q => by rw [he e h] at q; cases q
end Go.Proofs.Ytlndinigbppafaa

/-
  The operations of proofs and startMember on memory.
-/
namespace Go.Proofs.Ytlndinigbppafaa
open Go.Sim Go.Conc

theorem Try.bytes24 : (Try.prog.info? 24).map (fun i => i.bytes) = some 24 := by kernel_rfl
theorem Try.bytes107 : (Try.prog.info? 107).map (fun i => i.bytes) = some 8 := by kernel_rfl
theorem Try.zero121 : (Try.prog.info? 121).map (fun i => i.zero) = some (some (.chan none)) := by kernel_rfl
theorem Try.zero107 : (Try.prog.info? 107).map (fun i => i.zero) = some (some (.chan none)) := by kernel_rfl
theorem Try.zero24 : (Try.prog.info? 24).map (fun i => i.zero) = some (some (.slice none 0 0)) := by kernel_rfl
theorem Try.size121 : (Try.prog.info? 121).map (fun i => i.size) = some 1 := by kernel_rfl
theorem Try.size107 : (Try.prog.info? 107).map (fun i => i.size) = some 1 := by kernel_rfl
theorem Try.size24 : (Try.prog.info? 24).map (fun i => i.size) = some 1 := by kernel_rfl
theorem Try.und121 : Try.prog.underlying 121 = some (.chan .both 24) := by kernel_rfl
theorem Try.und107 : Try.prog.underlying 107 = some (.chan .recv 24) := by kernel_rfl
theorem Try.und106 : Try.prog.underlying 106 = some (.slice 107) := by kernel_rfl
theorem Try.und23 : Try.prog.underlying 23 = some (.slice 24) := by kernel_rfl

theorem zero_run {t : TypeId} {z : Value} (h : (Try.prog.info? t).map (fun i => i.zero) = some (some z)) (w : World) : (zeroValue t).run Try.prog w = .ok z w := by
  obtain ⟨i, h1, h2⟩ := Option.map_eq_some_iff.1 h
  simp [zeroValue, typeInfo, h1, h2]
theorem size_run {t : TypeId} {n : Nat} (h : (Try.prog.info? t).map (fun i => i.size) = some n) (w : World) : (sizeOf t).run Try.prog w = .ok n w := by
  obtain ⟨i, h1, h2⟩ := Option.map_eq_some_iff.1 h
  simp [sizeOf, typeInfo, h1, h2]
theorem info_run {t : TypeId} {n : Nat} (h : (Try.prog.info? t).map (fun i => i.bytes) = some n) (w : World) : ∃ i, (typeInfo t).run Try.prog w = .ok i w ∧ i.bytes = n := by
  obtain ⟨i, h1, h2⟩ := Option.map_eq_some_iff.1 h
  exact ⟨i, by simp [typeInfo, h1], h2⟩
theorem und_run {t : TypeId} {d : TypeDesc} (h : Try.prog.underlying t = some d) (w : World) : (underlying t).run Try.prog w = .ok d w := by simp [underlying, h]

theorem box_run (t : TypeId) (v : Value) (w : World) : (Instr.box t v).run Try.prog w = .ok (.pointer (some ⟨w.heap.size, 0, none⟩)) (w.alloc (.cells v.cells t)) ∧ (Instr.box t v).events Try.prog w #[] = #[] := by
  constructor
  · simp [Instr.box, newVar, newRow]
  · simp [Instr.box, newVar, newRow]
theorem alloc_run {t : TypeId} {z : Value} (h : (Try.prog.info? t).map (fun i => i.zero) = some (some z)) (w : World) :
    (Instr.alloc t true (.tuple #[])).run Try.prog w = .ok (.pointer (some ⟨w.heap.size, 0, none⟩)) (w.alloc (.cells z.cells t)) ∧ (Instr.alloc t true (.tuple #[])).events Try.prog w #[] = #[] := by
  constructor
  · simp [Instr.alloc, zero_run h, newVar, newRow]
  · simp [Instr.alloc, zero_run h, newVar, newRow]
theorem makeChan_run (w : World) : (Instr.makeChan 121 (.int .i64 1)).run Try.prog w = .ok (.chan (some w.heap.size)) (w.alloc (.chan 1 #[] false 0 0 false)) ∧ (Instr.makeChan 121 (.int .i64 1)).events Try.prog w #[] = #[] := by
  have hd := Try.und121
  obtain ⟨i, hi, hb⟩ := info_run Try.bytes24 w
  constructor
  · simp [Instr.makeChan, asInt, asIntOf, und_run hd, hi, hb, IntKind.max, IntKind.signed, IntKind.bits]
  · simp [Instr.makeChan, asInt, asIntOf, und_run hd, hi, hb, IntKind.max, IntKind.signed, IntKind.bits]

theorem setCell_at {w : World} {r off : Nat} {c : Array Value} {t : TypeId} {v : Value} (h : w.heap[r]? = some (.cells c t)) : (w.setCell ⟨r, off, none⟩ v).heap[r]? = some (.cells (c.setIfInBounds off v) t) := by
  simp [World.setCell, Array.getElem?_modify, h]
theorem setCell_other {w : World} {r off b : Nat} {v : Value} (h : b ≠ r) : (w.setCell ⟨r, off, none⟩ v).heap[b]? = w.heap[b]? := by
  simp [World.setCell, Array.getElem?_modify, Ne.symm h]
theorem setCell_size {w : World} {A : Addr} {v : Value} : (w.setCell A v).heap.size = w.heap.size := by simp [World.setCell]

theorem storeAt_run {w : World} {r off : Nat} {c : Array Value} {t e : TypeId} {v : Value} (hs : (Try.prog.info? t).map (fun i => i.size) = some 1) (hv : v.oneCell' = true) (hc : v.cells = #[v]) (h : w.heap[r]? = some (.cells c e)) (ho : off < c.size) :
    (Instr.storeAt t (.pointer (some ⟨r, off, none⟩)) v).run Try.prog w = .ok () (w.setCell ⟨r, off, none⟩ v) ∧ (Instr.storeAt t (.pointer (some ⟨r, off, none⟩)) v).events Try.prog w #[] = #[⟨.cell ⟨r, off, none⟩, true, false⟩] := by
  have hce : w.cell? ⟨r, off, none⟩ = some c[off] := by simp [World.cell?, h, ho]
  have hfr : w.frozen? ⟨r, off, none⟩ = false := by simp [World.frozen?, h]
  have hr := run_store Try.prog w ⟨r, off, none⟩ v .plain hv
  rw [hce] at hr
  simp only [hfr] at hr
  have hr' : (store ⟨r, off, none⟩ v).run Try.prog w = .ok () (w.setCell ⟨r, off, none⟩ v) := by simpa using hr
  have he : (store ⟨r, off, none⟩ v).events Try.prog w #[] = #[⟨.cell ⟨r, off, none⟩, true, false⟩] := by
    rw [events_store (hv := hv), hce]
    simp [hfr]
  constructor
  · simp [Instr.storeAt, Instr.sureAddr, storeVar, hc, size_run hs, storeCells, Addr.add, hr']
  · simp [Instr.storeAt, Instr.sureAddr, storeVar, hc, size_run hs, storeCells, Addr.add, he]
theorem loadAt_run {w : World} {r off : Nat} {c : Array Value} {t e : TypeId} {v : Value} (ha : (isAgg t).run Try.prog w = .ok false w) (h : w.heap[r]? = some (.cells c e)) (ho : c[off]? = some v) :
    (Instr.loadAt t (.pointer (some ⟨r, off, none⟩))).run Try.prog w = .ok v w ∧ (Instr.loadAt t (.pointer (some ⟨r, off, none⟩))).events Try.prog w #[] = #[⟨.cell ⟨r, off, none⟩, false, false⟩] := by
  have hce : w.cell? ⟨r, off, none⟩ = some v := by simp [World.cell?, h, ho]
  constructor
  · simp [Instr.loadAt, Instr.sureAddr, loadVar, ha, hce]
  · simp [Instr.loadAt, Instr.sureAddr, loadVar, ha, hce]

theorem made_rep (z : Value) (n : Nat) : madeCells #[z] n = Array.replicate n z := by
  unfold madeCells
  apply Array.ext
  · simp
  · intro j _ _
    simp [Nat.mod_one]

theorem makeSlice_run {t e : TypeId} {z : Value} {sz l n : Nat} (hu : Try.prog.underlying t = some (.slice e)) (hz : (Try.prog.info? e).map (fun i => i.zero) = some (some z)) (hzc : z.cells = #[z]) (hs : (Try.prog.info? e).map (fun i => i.size) = some 1) (hb : (Try.prog.info? e).map (fun i => i.bytes) = some sz)
    (hl : l ≤ n) (hn : sz * n ≤ 281474976710656) (hn2 : n ≤ 9223372036854775807) (w : World) :
    (Instr.makeSlice t (.int .i64 l) (.int .i64 n)).run Try.prog w = .ok (.slice (some ⟨w.heap.size, 0, none⟩) l n) (w.alloc (.cells (Array.replicate n z) e)) ∧ ∀ ev ∈ (Instr.makeSlice t (.int .i64 l) (.int .i64 n)).events Try.prog w #[], ev.loc = .mark .noRoom := by
  obtain ⟨i, h1, h2⟩ := Option.map_eq_some_iff.1 hz
  have h3 : i.size = 1 := by rw [h1] at hs; simpa using hs
  have h4 : i.bytes = sz := by rw [h1] at hb; simpa using hb
  have hby : (i.bytes : Int) * (n : Int) ≤ 281474976710656 := by
    have : ((sz * n : Nat) : Int) ≤ 281474976710656 := by omega
    rw [h4, ← Int.natCast_mul]; exact this
  refine ⟨?_, ?_⟩
  · have := run_make (P := Try.prog) w t e i z hu h1 h2 .i64 .i64 (l : Int) (n : Int) (by omega) (by omega) hby (by omega)
    rw [this, h3, hzc, Int.toNat_natCast, Int.toNat_natCast, Nat.mul_one, made_rep]
  · intro ev hev
    have wl : IntKind.i64.wrap (l : Int) = l := by rw [IntKind.wrap_i64]; omega
    have wc : IntKind.i64.wrap (n : Int) = n := by rw [IntKind.wrap_i64]; omega
    have n1 : ¬ (n : Int) < 0 := by omega
    have n2 : ¬ (281474976710656 < (i.bytes : Int) * (n : Int)) := by omega
    have n3 : ¬ (l : Int) < 0 := by omega
    have n4 : ¬ (n : Int) < l := by omega
    have key : (Instr.makeSlice t (.int .i64 l) (.int .i64 n)).events Try.prog w #[] = (askRoom (n * i.bytes)).events Try.prog w #[] := by
      simp [Instr.makeSlice, run_underlying hu, asInt, asIntOf, typeInfo, h1, sizeOf, zeroValue, h2, wl, wc, n1, n2, n3, n4, newRow]
    rw [key] at hev
    rcases events_askRoom _ _ _ ev hev with q | ⟨m, rfl, hm⟩
    · simp at q
    · rw [hm]
end Go.Proofs.Ytlndinigbppafaa

/-
  startMember, along its code: boxes and a channel are made, a child is started.
-/
namespace Go.Proofs.Ytlndinigbppafaa
open Go.Sim Go.Conc

def r64_0 : Array Oper :=
  #[{ dst := some 3, op := .box 84 (.tmp 0), type := 0, pos := "log.go:140", after := #[], guard := none },
    { dst := some 4, op := .box 3 (.tmp 1), type := 0, pos := "log.go:140", after := #[], guard := none },
    { dst := some 5, op := .box 3 (.tmp 2), type := 0, pos := "log.go:140", after := #[], guard := none },
    { dst := some 6, op := .assign (.const (.chan none)), type := 107, pos := "log.go:140", after := #[], guard := none }]
def r64_1 : Array Oper :=
  #[{ dst := some 8, op := .makeChan 121 (.const (.int .i64 1)), type := 121, pos := "log.go:141", after := #[], guard := none },
    { dst := some 7, op := .alloc 121, type := 0, pos := "log.go:141", after := #[], guard := none },
    { dst := none, op := .store 121 (.tmp 7) (.tmp 8), type := 0, pos := "log.go:141", after := #[{ on := 1, ground := .data }, { on := 0, ground := .data }, { on := 0, ground := .phase }, { on := 1, ground := .phase }], guard := none }]
def r64_2 : Array Oper :=
  #[{ dst := some 9, op := .makeFunc (.func 80) #[] #[.tmp 7, .tmp 3, .tmp 4, .tmp 5], type := 1, pos := "log.go:142", after := #[], guard := none },
    { dst := none, op := .go { callee := .value (.tmp 9), args := #[], argTypes := #[] }, type := 0, pos := "log.go:142", after := #[{ on := 0, ground := .data }], guard := none }]
def r64_3 : Array Oper :=
  #[{ dst := some 10, op := .load 121 (.tmp 7), type := 121, pos := "log.go:146", after := #[], guard := none },
    { dst := some 6, op := .assign (.tmp 10), type := 107, pos := "log.go:146", after := #[{ on := 0, ground := .data }, { on := 0, ground := .phase }], guard := none }]
def c64 : Code := .seq (.region 0 r64_0 false) (.seq (.region 1 r64_1 false) (.seq (.region 2 r64_2 false) (.seq (.region 3 r64_3 false) .ret)))
theorem body64 : Try.f64.body = some c64 := rfl

/-- What is held: it stands whatever the children do, and the blocks are there. -/
structure Ok (PB : Nat → Prop) (s : St) (F : World → Prop) : Prop where
  stab : Stab PB s F
  low : ∀ w, F w → ∀ b, PB b ∨ s.rd b → b < w.heap.size

/-- .. and this block holds that. -/
def And1 (F : World → Prop) (r : Nat) (ob : Obj) (w : World) : Prop := F w ∧ w.heap[r]? = some ob

section
variable {ver : Value} {N : Nat} {Fin : St → (Nat → Prop) → Goroutine → World → Prop} {s : St} {PB PB' : Nat → Prop} {F F0 : World → Prop} {b : Frame} {a a' : Act} {k : List Item} {cs : List Frame} {ops : Array Oper} {i : Nat} {rest : List Nat} {o : Oper} {g g' : Goroutine} {r : Nat} {ob : Obj}

theorem Ok.and1 (h : Ok PB s F) (hsub : ∀ b, PB b → PB' b) (hr : PB' r) (hall : ∀ b, PB' b → PB b ∨ b = r) : Ok PB' s (And1 F r ob) := by
  refine ⟨fun w w₁ hw hR => ⟨h.stab w w₁ hw.1 ⟨hR.size, fun b hb => hR.keep b (hb.imp (hsub b) id)⟩, by rw [hR.keep r (.inl hr)]; exact hw.2⟩, fun w hw b hb => ?_⟩
  rcases hb with hb | hb
  · rcases hall b hb with hb | rfl
    · exact h.low w hw.1 b (.inl hb)
    · exact (Array.getElem?_eq_some_iff.1 hw.2).1
  · exact h.low w hw.1 b (.inr hb)

theorem rely_alloc (h : Ok PB s F) {w : World} (hw : F w) : RelyC PB s.rd w (w.alloc ob) :=
  ⟨by simp, fun b hb => by show (w.heap.push ob)[b]? = _; rw [Array.getElem?_push, if_neg (by have := h.low w hw b hb; omega)]⟩

/-- A block is made. -/
theorem AtP.alloc {v : Nat → Value} (hO : Ok PB s F) (hk : b.kind ≠ .early) (ho : ops[i]? = some o) (hg : o.guard = none)
    (h : ∀ w, F w → (execOp a.eval o).run Try.prog w = .ok (.value (v w.heap.size)) (w.alloc ob) ∧ ∀ e ∈ (execOp a.eval o).events Try.prog w #[], e.loc = .mark .noRoom)
    (hK : ∀ r, ¬ PB r → ¬ s.rd r → AtP ver N Fin s (fun b => PB b ∨ b = r) (And1 F r ob) (G (b.at (a.put o.dst (v r)) (.inRegion ops rest :: k)) cs)) :
    AtP ver N Fin s PB F (G (b.at a (.inRegion ops (i :: rest) :: k)) cs) := by
  refine AtP.op hO.stab hk ho hg fun w hw => ?_
  obtain ⟨h1, h2⟩ := h w hw
  have h3 : ∀ e ∈ listed Try.prog b.fn a o w, e.loc = .mark .noRoom := fun e he => h2 e (mem_seen he)
  refine ⟨_, _, h1, ⟨guar_push h3, noObj_mark h3⟩, ?_⟩
  rw [show w.alloc ob = { w with heap := w.heap.push ob } from rfl, grow_push]
  refine hK w.heap.size (fun q => ?_) (fun q => ?_) _ ⟨hO.stab w _ hw (rely_alloc hO hw), by simp⟩
  · have := hO.low w hw _ (.inl q); omega
  · have := hO.low w hw _ (.inr q); omega

/-- A cell is written. -/
theorem AtP.store {t e : TypeId} {x y : Operand} {v : Value} {off : Nat} {c : Array Value} (hS0 : Stab (fun b => PB b ∧ b ≠ r) s F0) (hS : Stab PB s (And1 F0 r (.cells c e))) (hk : b.kind ≠ .early) (ho : ops[i]? = some o) (hg : o.guard = none) (hop : o.op = .store t x y)
    (hr : PB r) (hrd : ¬ s.rd r) (hx : a.eval x = .pointer (some ⟨r, off, none⟩)) (hy : a.eval y = v) (hsz : (Try.prog.info? t).map (fun i => i.size) = some 1) (hv : v.oneCell' = true) (hc : v.cells = #[v]) (hoff : off < c.size)
    (hK : AtP ver N Fin s PB (And1 F0 r (.cells (c.setIfInBounds off v) e)) (G (b.at (a.put o.dst undef) (.inRegion ops rest :: k)) cs)) :
    AtP ver N Fin s PB (And1 F0 r (.cells c e)) (G (b.at a (.inRegion ops (i :: rest) :: k)) cs) := by
  refine AtP.op0 hS hk ho hg fun w hw => ?_
  obtain ⟨h1, h2⟩ := storeAt_run (w := w) (t := t) hsz hv hc hw.2 hoff
  have e1 : (execOp a.eval o).run Try.prog w = .ok .skip (w.setCell ⟨r, off, none⟩ v) := by
    unfold execOp
    simp only [hop, hx, hy]
    rw [Sem.run_bind, h1]
    rfl
  have e2 : ∀ ev ∈ listed Try.prog b.fn a o w, ev = ⟨.cell ⟨r, off, none⟩, true, false⟩ := by
    intro ev hev
    have := mem_seen hev
    unfold execOp at this
    simp only [hop, hx, hy] at this
    rw [Sem.events_bind, h1, h2] at this
    simpa using this
  refine ⟨_, e1, ⟨⟨Nat.le_of_eq setCell_size.symm, fun b' hb' hn => setCell_other fun e => hn (by rw [e]; exact hr), rfl, rfl, rfl, fun ev hev => ?_⟩, noObj_cell e2⟩, ?_⟩
  · rw [e2 ev hev]
    exact .inr ⟨rfl, r, .inl ⟨_, rfl, rfl⟩, .inl (.inl hr)⟩
  · have hg' : grow PB w (w.setCell ⟨r, off, none⟩ v) = PB := by
      funext b'
      unfold grow
      rw [setCell_size]
      apply propext
      constructor
      · rintro (q | q)
        · exact q
        · omega
      · exact .inl
    rw [hg']
    refine hK _ ⟨hS0 w _ hw.1 ⟨Nat.le_of_eq setCell_size.symm, fun b' hb' => setCell_other fun e => ?_⟩, setCell_at hw.2⟩
    rcases hb' with q | q
    · exact q.2 e
    · exact hrd (e ▸ q)

/-- A cell is read. -/
theorem AtP.load {t e : TypeId} {x : Operand} {v : Value} {off : Nat} {c : Array Value} (hS : Stab PB s F) (hk : b.kind ≠ .early) (ho : ops[i]? = some o) (hg : o.guard = none) (hop : o.op = .load t x)
    (hr : PB r ∨ s.rd r) (hx : a.eval x = .pointer (some ⟨r, off, none⟩)) (ha : ∀ w, (isAgg t).run Try.prog w = .ok false w) (hF : ∀ w, F w → w.heap[r]? = some (.cells c e)) (hoff : c[off]? = some v)
    (hK : AtP ver N Fin s PB F (G (b.at (a.put o.dst v) (.inRegion ops rest :: k)) cs)) :
    AtP ver N Fin s PB F (G (b.at a (.inRegion ops (i :: rest) :: k)) cs) := by
  refine AtP.op hS hk ho hg fun w hw => ?_
  obtain ⟨h1, h2⟩ := loadAt_run (w := w) (t := t) (ha w) (hF w hw) hoff
  have e1 : (execOp a.eval o).run Try.prog w = .ok (.value v) w := by
    unfold execOp
    simp only [hop, hx]
    rw [Sem.run_bind, h1]
    rfl
  have e2 : ∀ ev ∈ listed Try.prog b.fn a o w, ev = ⟨.cell ⟨r, off, none⟩, false, false⟩ := by
    intro ev hev
    have := mem_seen hev
    unfold execOp at this
    simp only [hop, hx] at this
    rw [Sem.events_bind, h1, h2] at this
    simpa using this
  refine ⟨_, w, e1, ⟨guar_cell (A := ⟨r, off, none⟩) (hr.imp id fun q => ⟨q, rfl⟩) e2, noObj_cell e2⟩, ?_⟩
  rw [grow_same rfl]
  exact hK w hw
end
end Go.Proofs.Ytlndinigbppafaa

/-
  startMember: the walk.
-/
namespace Go.Proofs.Ytlndinigbppafaa
open Go.Sim Go.Conc

theorem run_v {m : Sem Value} {w w' : World} {v : Value} (h : m.run Try.prog w = .ok v w') : (do pure (Next.value (← m)) : Sem Next).run Try.prog w = .ok (.value v) w' := by rw [Sem.run_bind, h]; rfl
theorem ev_v {m : Sem Value} {w w' : World} {v : Value} (h : m.run Try.prog w = .ok v w') : (do pure (Next.value (← m)) : Sem Next).events Try.prog w #[] = m.events Try.prog w #[] := by rw [Sem.events_bind, h]; rfl

section
variable {ver : Value} {N : Nat} {Fin : St → (Nat → Prop) → Goroutine → World → Prop} {s : St} {PB : Nat → Prop} {F F' : World → Prop} {b b₀ : Frame} {a a₀ : Act} {k : List Item} {cs : List Frame} {ops : Array Oper} {i j : Nat} {rest : List Nat} {o : Oper} {g : Goroutine}

theorem AtP.mono (h : ∀ w, F' w → F w) (hA : AtP ver N Fin s PB F g) : AtP ver N Fin s PB F' g := fun w hw => hA w (h w hw)

theorem AtP.box {t : TypeId} {x : Operand} {v : Value} (hO : Ok PB s F) (hk : b.kind ≠ .early) (ho : ops[i]? = some o) (hg : o.guard = none) (hop : o.op = .box t x) (hx : a.eval x = v) (hc : v.cells = #[v])
    (hK : ∀ r, ¬ PB r → ¬ s.rd r → AtP ver N Fin s (fun b => PB b ∨ b = r) (And1 F r (.cells #[v] t)) (G (b.at (a.put o.dst (.pointer (some ⟨r, 0, none⟩))) (.inRegion ops rest :: k)) cs)) :
    AtP ver N Fin s PB F (G (b.at a (.inRegion ops (i :: rest) :: k)) cs) := by
  refine AtP.alloc (v := fun r => .pointer (some ⟨r, 0, none⟩)) hO hk ho hg (fun w _ => ?_) hK
  obtain ⟨h1, h2⟩ := box_run t v w
  rw [hc] at h1
  unfold execOp
  simp only [hop, hx]
  exact ⟨run_v h1, fun e he => by rw [ev_v h1, h2] at he; simp at he⟩

theorem Ok.add {r : Nat} {ob : Obj} (h : Ok PB s F) : Ok (fun b => PB b ∨ b = r) s (And1 F r ob) := h.and1 (fun _ q => .inl q) (.inr rfl) fun _ q => q

theorem rd_more {c bc : Nat} {x : Nat} : (s.more c bc).rd x ↔ s.rd x ∨ x = bc := by
  unfold St.rd St.more
  constructor
  · rintro ⟨p, hp, rfl⟩
    rcases List.mem_append.1 hp with hp | hp
    · exact .inl ⟨p, hp, rfl⟩
    · simp at hp; subst hp; exact .inr rfl
  · rintro (⟨p, hp, rfl⟩ | rfl)
    · exact ⟨p, List.mem_append_left _ hp, rfl⟩
    · exact ⟨(c, x), by simp, rfl⟩

/-- The frame at the go statement. -/
def a64 (ver : Value) (i n : Nat) (bv bi bn c bc : Nat) : Act :=
  ⟨#[ver, .int .i64 i, .int .i64 n, .pointer (some ⟨bv, 0, none⟩), .pointer (some ⟨bi, 0, none⟩), .pointer (some ⟨bn, 0, none⟩), .chan none, .pointer (some ⟨bc, 0, none⟩), .chan (some c), .func (.func 80) #[] #[.pointer (some ⟨bc, 0, none⟩), .pointer (some ⟨bv, 0, none⟩), .pointer (some ⟨bi, 0, none⟩), .pointer (some ⟨bn, 0, none⟩)], undef], []⟩

/-- STARTMEMBER. -/
theorem start_at (hO : Ok PB s F) (hi : s.cs.length < N) (hver : ver.cells = #[ver])
    (hK : ∀ c bc, ¬ PB bc → AtP ver N Fin (s.more c bc) PB (And1 F bc (.cells #[.chan (some c)] 121)) (G (b₀.at (a₀.put ((ops[j]?).bind (·.dst)) (.chan (some c))) (.inRegion ops rest :: k)) cs)) :
    AtP ver N Fin s PB F (G ((base 64).at { tmps := #[ver, .int .i64 s.cs.length, .int .i64 N, undef, undef, undef, undef, undef, undef, undef, undef], defers := [] } [.code c64]) (b₀.at a₀ (.inRegion ops (j :: rest) :: k) :: cs)) := by
  have hkd : (base 64).kind ≠ .early := by intro h; cases h
  refine AtP.seq hO.stab (AtP.into hO.stab ?_)
  refine AtP.box hO hkd (o := r64_0[0]) rfl rfl rfl rfl hver fun bv n1 m1 => ?_
  show AtP _ _ _ _ _ _ (G ((base 64).at (⟨#[ver, .int .i64 s.cs.length, .int .i64 N, .pointer (some ⟨bv, 0, none⟩), undef, undef, undef, undef, undef, undef, undef], []⟩ : Act) _) _)
  have O1 := hO.add (r := bv) (ob := .cells #[ver] 84)
  refine AtP.box O1 hkd (o := r64_0[1]) (v := .int .i64 s.cs.length) rfl rfl rfl rfl rfl fun bi n2 m2 => ?_
  show AtP _ _ _ _ _ _ (G ((base 64).at (⟨#[ver, .int .i64 s.cs.length, .int .i64 N, .pointer (some ⟨bv, 0, none⟩), .pointer (some ⟨bi, 0, none⟩), undef, undef, undef, undef, undef, undef], []⟩ : Act) _) _)
  have O2 := O1.add (r := bi) (ob := .cells #[.int .i64 s.cs.length] 3)
  refine AtP.box O2 hkd (o := r64_0[2]) (v := .int .i64 N) rfl rfl rfl rfl rfl fun bn n3 m3 => ?_
  show AtP _ _ _ _ _ _ (G ((base 64).at (⟨#[ver, .int .i64 s.cs.length, .int .i64 N, .pointer (some ⟨bv, 0, none⟩), .pointer (some ⟨bi, 0, none⟩), .pointer (some ⟨bn, 0, none⟩), undef, undef, undef, undef, undef], []⟩ : Act) _) _)
  have O3 := O2.add (r := bn) (ob := .cells #[.int .i64 N] 3)
  refine AtP.pures (l := [3]) (rest := []) (a' := ⟨#[ver, .int .i64 s.cs.length, .int .i64 N, .pointer (some ⟨bv, 0, none⟩), .pointer (some ⟨bi, 0, none⟩), .pointer (some ⟨bn, 0, none⟩), .chan none, undef, undef, undef, undef], []⟩) O3.stab hkd rfl (AtP.out O3.stab ?_)
  refine AtP.seq O3.stab (AtP.into O3.stab ?_)
  refine AtP.alloc (ob := .chan 1 #[] false 0 0 false) (v := fun r => .chan (some r)) O3 hkd (o := r64_1[0]) rfl rfl (fun w _ => ?_) fun c n4 m4 => ?_
  · obtain ⟨h1, h2⟩ := makeChan_run w
    exact ⟨run_v h1, fun e he => by
      have he' : e ∈ (do pure (Next.value (← Instr.makeChan 121 (.int .i64 1))) : Sem Next).events Try.prog w #[] := he
      rw [ev_v h1, h2] at he'; simp at he'⟩
  show AtP _ _ _ _ _ _ (G ((base 64).at (⟨#[ver, .int .i64 s.cs.length, .int .i64 N, .pointer (some ⟨bv, 0, none⟩), .pointer (some ⟨bi, 0, none⟩), .pointer (some ⟨bn, 0, none⟩), .chan none, undef, .chan (some c), undef, undef], []⟩ : Act) _) _)
  have O4 := O3.add (r := c) (ob := .chan 1 #[] false 0 0 false)
  refine AtP.alloc (ob := .cells #[.chan none] 121) (v := fun r => .pointer (some ⟨r, 0, none⟩)) O4 hkd (o := r64_1[1]) rfl rfl (fun w _ => ?_) fun bc n5 m5 => ?_
  · obtain ⟨h1, h2⟩ := alloc_run Try.zero121 w
    exact ⟨run_v h1, fun e he => by
      have he' : e ∈ (do pure (Next.value (← Instr.alloc 121 true (.tuple #[]))) : Sem Next).events Try.prog w #[] := he
      rw [ev_v h1, h2] at he'; simp at he'⟩
  show AtP _ _ _ _ _ _ (G ((base 64).at (⟨#[ver, .int .i64 s.cs.length, .int .i64 N, .pointer (some ⟨bv, 0, none⟩), .pointer (some ⟨bi, 0, none⟩), .pointer (some ⟨bn, 0, none⟩), .chan none, .pointer (some ⟨bc, 0, none⟩), .chan (some c), undef, undef], []⟩ : Act) _) _)
  have O5 := O4.add (r := bc) (ob := .cells #[.chan none] 121)
  refine AtP.store (r := bc) (off := 0) (v := .chan (some c)) (fun w w₁ hw hR => O4.stab w w₁ hw ⟨hR.size, fun b hb => hR.keep b (hb.imp (fun q => ⟨.inl q, fun e => n5 (e ▸ q)⟩) id)⟩) O5.stab hkd (o := r64_1[2]) rfl rfl rfl (.inr rfl) m5 rfl rfl Try.size121 rfl rfl (by simp) ?_
  show AtP _ _ _ _ _ _ (G ((base 64).at (⟨#[ver, .int .i64 s.cs.length, .int .i64 N, .pointer (some ⟨bv, 0, none⟩), .pointer (some ⟨bi, 0, none⟩), .pointer (some ⟨bn, 0, none⟩), .chan none, .pointer (some ⟨bc, 0, none⟩), .chan (some c), undef, undef], []⟩ : Act) _) _)
  have O6 := O4.add (r := bc) (ob := .cells #[.chan (some c)] 121)
  refine AtP.out O6.stab (AtP.seq O6.stab (AtP.into O6.stab ?_))
  refine AtP.pures (l := [0]) (rest := [1]) (a' := a64 ver s.cs.length N bv bi bn c bc) O6.stab hkd (by simp [pureOps, pv, r64_2, a64, Act.put, Act.eval]) ?_
  -- the go statement
  show AtP ver N Fin s (fun x => ((((PB x ∨ x = bv) ∨ x = bi) ∨ x = bn) ∨ x = c) ∨ x = bc) (And1 (And1 (And1 (And1 (And1 F bv (.cells #[ver] 84)) bi (.cells #[.int .i64 s.cs.length] 3)) bn (.cells #[.int .i64 N] 3)) c (.chan 1 #[] false 0 0 false)) bc (.cells #[.chan (some c)] 121))
    (G ((base 64).at (a64 ver s.cs.length N bv bi bn c bc) [.inRegion r64_2 [1], .code (.seq (.region 3 r64_3 false) .ret)]) (b₀.at a₀ (.inRegion ops (j :: rest) :: k) :: cs))
  intro w hw
  have hnotc : ¬ RdB bc bv bi bn c := by
    rintro (q | q | q | q)
    · exact n5 (.inr q.symm)
    · exact n4 (.inl (.inl (.inr q)))
    · exact n4 (.inl (.inr q))
    · exact n4 (.inr q)
  have hPB : (fun x => (((((PB x ∨ x = bv) ∨ x = bi) ∨ x = bn) ∨ x = c) ∨ x = bc) ∧ ¬ Give bc bv bi bn c x) = PB := by
    funext x
    apply propext
    constructor
    · rintro ⟨q, hn⟩
      unfold Give RdB at hn
      rcases q with ((((q | q) | q) | q) | q) | q
      · exact q
      all_goals exact absurd (by simp [q]) hn
    · intro q
      refine ⟨.inl (.inl (.inl (.inl (.inl q)))), ?_⟩
      rintro ((e | e | e | e) | e)
      · exact n5 (.inl (.inl (.inl (.inl (e ▸ q)))))
      · exact n1 (e ▸ q)
      · exact n2 (.inl (e ▸ q))
      · exact n3 (.inl (.inl (e ▸ q)))
      · exact n4 (.inl (.inl (.inl (e ▸ q))))
  obtain ⟨⟨⟨⟨⟨hF, hbv⟩, hbi⟩, hbn⟩, hc⟩, hbc⟩ := hw
  refine PS.spawn (g' := G ((base 64).at (a64 ver s.cs.length N bv bi bn c bc) [.inRegion r64_2 [], .code (.seq (.region 3 r64_3 false) .ret)]) (b₀.at a₀ (.inRegion ops (j :: rest) :: k) :: cs)) bc bv bi bn c false rfl (fun x hx => ?_) hnotc hi (fun w₁ _ => ?_) ⟨hbc, hbv, hbi, hbn⟩ hc ?_
  · rcases hx with (e | e | e | e) | e
    · exact .inr e
    · exact .inl (.inl (.inl (.inl (.inr e))))
    · exact .inl (.inl (.inl (.inr e)))
    · exact .inl (.inl (.inr e))
    · exact .inl (.inr e)
  · rw [stepG_spawn (o := r64_2[1]) (d := childD bc bv bi bn) (w' := w₁) rfl rfl hkd (by simp [r64_2, execOp, resolve, Deferred.ofValue, a64, Act.eval, childD]) rfl]
    have : listed Try.prog (base 64).fn (a64 ver s.cs.length N bv bi bn c bc) r64_2[1] w₁ = #[] := by
      unfold listed
      rw [show (execOp (a64 ver s.cs.length N bv bi bn c bc).eval r64_2[1]).events Try.prog w₁ #[] = #[] by simp [r64_2, execOp, resolve, Deferred.ofValue, a64, Act.eval], seen_none]
    rw [this]
    rfl
  · rw [hPB]
    have O7 : Ok PB (s.more c bc) (And1 F bc (.cells #[.chan (some c)] 121)) := by
      refine ⟨fun w w₁ hw hR => ⟨hO.stab w w₁ hw.1 ⟨hR.size, fun x hx => hR.keep x (hx.imp id fun q => rd_more.2 (.inl q))⟩, ?_⟩, fun w hw x hx => ?_⟩
      · rw [hR.keep bc (.inr (rd_more.2 (.inr rfl)))]; exact hw.2
      · rcases hx with hx | hx
        · exact hO.low w hw.1 x (.inl hx)
        · rcases rd_more.1 hx with hx | rfl
          · exact hO.low w hw.1 x (.inr hx)
          · exact (Array.getElem?_eq_some_iff.1 hw.2).1
    have fin : AtP ver N Fin (s.more c bc) PB (And1 F bc (.cells #[.chan (some c)] 121)) (G ((base 64).at (a64 ver s.cs.length N bv bi bn c bc) [.inRegion r64_2 [], .code (.seq (.region 3 r64_3 false) .ret)]) (b₀.at a₀ (.inRegion ops (j :: rest) :: k) :: cs)) := by
      refine AtP.out O7.stab (AtP.seq O7.stab (AtP.into O7.stab ?_))
      refine AtP.load (r := bc) (off := 0) (v := .chan (some c)) (o := r64_3[0]) O7.stab hkd rfl rfl rfl (.inr (rd_more.2 (.inr rfl))) rfl (fun w => by simp) (fun w hw => hw.2) rfl ?_
      refine AtP.pures (l := [1]) (rest := []) O7.stab hkd rfl (AtP.out O7.stab (AtP.ret O7.stab ?_))
      exact AtP.leave1 O7.stab rfl rfl Try.func64 rfl (hK c bc fun q => n5 (.inl (.inl (.inl (.inl q)))))
    exact fin w ⟨hF, hbc⟩
end
end Go.Proofs.Ytlndinigbppafaa

/-
  The operations of proofs: an element's address, the length, the receive, a slice of one, the append in place.
-/
namespace Go.Proofs.Ytlndinigbppafaa
open Go.Sim Go.Conc

theorem indexAt_run {r n i : Nat} (hi : i < n) (w : World) :
    (Instr.indexAt 106 (.slice (some ⟨r, 0, none⟩) n n) (.int .i64 i)).run Try.prog w = .ok (.pointer (some ⟨r, i, none⟩)) w ∧ (Instr.indexAt 106 (.slice (some ⟨r, 0, none⟩) n n) (.int .i64 i)).events Try.prog w #[] = #[] := by
  have h1 : (0 : Int) ≤ i := by omega
  have h2 : (i : Int) < n := by omega
  constructor
  · simp [Instr.indexAt, asIntOf, und_run Try.und106, size_run Try.size107, hi, Addr.add]
    exact Eq.symm
  · simp [Instr.indexAt, asIntOf, und_run Try.und106, hi]

theorem len_run {ρ : Operand → Value} {o : Oper} {x : Operand} {b : Option Addr} {l c : Nat} (hop : o.op = .call { callee := .builtin .len, args := #[x], argTypes := #[106] }) (hx : ρ x = .slice b l c) (w : World) :
    (execOp ρ o).run Try.prog w = .ok (.value (.int .i64 l)) w ∧ (execOp ρ o).events Try.prog w #[] = #[] := by
  unfold execOp
  simp only [hop]
  constructor
  · simp [resolve, invoke, builtin, Builtin.len_, hx, und_run Try.und106, goInt]
  · simp [resolve, invoke, builtin, Builtin.len_, hx, und_run Try.und106]

theorem recv_run {ρ : Operand → Value} {o : Oper} {x : Operand} {c : Nat} (hop : o.op = .recv 107 x true) (hx : ρ x = .chan (some c)) (w : World) :
    (execOp ρ o).run Try.prog w = .ok (.comm #[rcase c (.slice none 0 0)] true (.recv true)) w ∧ (execOp ρ o).events Try.prog w #[] = #[] := by
  unfold execOp
  simp only [hop]
  constructor
  · simp [hx, und_run Try.und107, zero_run Try.zero24, rcase]
  · simp [und_run Try.und107]

theorem range1_map {α : Type} (f : Nat → α) : (Array.range 1).map f = #[f 0] := by
  apply Array.ext
  · simp
  · intro i h1 h2
    have : i = 0 := by simp at h1; exact h1
    subst this
    simp

theorem buildSlice_run {V : Value} (hV : Sl V) (w : World) :
    (Instr.buildSlice 23 1 #[(0, V)]).run Try.prog w = .ok (.slice (some ⟨w.heap.size, 0, none⟩) 1 1) (w.alloc (.cells #[V] 24)) ∧ (Instr.buildSlice 23 1 #[(0, V)]).events Try.prog w #[] = #[] := by
  have hf : Instr.fill (fun i => some (i, 1)) (#[.slice none 0 0] : Array Value) [(0, V)] = some #[V] := by
    simp [Instr.fill, hV.2]
  have hz : (Value.slice none 0 0).cells = #[.slice none 0 0] := rfl
  constructor
  · simp [Instr.buildSlice, und_run Try.und23, size_run Try.size24, zero_run Try.zero24, hz, range1_map, hf, newRow]
  · simp [Instr.buildSlice, und_run Try.und23, size_run Try.size24, zero_run Try.zero24, hz, range1_map, hf, newRow]

theorem append_run {ga tb m n : Nat} {c : Array Value} {V : Value} (hV : Sl V) (hm : m < n) (hc : c.size = n) {w : World} (hg : w.heap[ga]? = some (.cells c 24)) (ht : w.heap[tb]? = some (.cells #[V] 24)) :
    (Builtin.append_ #[23, 23] 23 #[.slice (some ⟨ga, 0, none⟩) m n, .slice (some ⟨tb, 0, none⟩) 1 1]).run Try.prog w = .ok (.slice (some ⟨ga, 0, none⟩) (m + 1) n) (w.setCell ⟨ga, m, none⟩ V) ∧
    (Builtin.append_ #[23, 23] 23 #[.slice (some ⟨ga, 0, none⟩) m n, .slice (some ⟨tb, 0, none⟩) 1 1]).events Try.prog w #[] = #[⟨.cell ⟨tb, 0, none⟩, false, false⟩, ⟨.cell ⟨ga, m, none⟩, true, false⟩] := by
  have hct : w.cell? ⟨tb, 0, none⟩ = some V := by simp [World.cell?, ht]
  have hcg : w.cell? ⟨ga, m, none⟩ = some c[m] := by simp [World.cell?, hg, hc, hm]
  have hfr : w.frozen? ⟨ga, m, none⟩ = false := by simp [World.frozen?, hg]
  have hr := run_store Try.prog w ⟨ga, m, none⟩ V .plain hV.1
  rw [hcg] at hr
  simp only [hfr] at hr
  have hr' : (store ⟨ga, m, none⟩ V).run Try.prog w = .ok () (w.setCell ⟨ga, m, none⟩ V) := by simpa using hr
  have he : ∀ es, (store ⟨ga, m, none⟩ V).events Try.prog w es = es.push ⟨.cell ⟨ga, m, none⟩, true, false⟩ := by
    intro es
    rw [events_store (hv := hV.1), hcg]
    simp only [hfr, Bool.false_eq_true, if_false]
    rfl
  have hmn : m + 1 ≤ n := hm
  have hif : (if m = 0 then (⟨ga, 0, none⟩ : Addr) else ⟨ga, m, none⟩) = ⟨ga, m, none⟩ := by
    split
    · rename_i h; rw [h]
    · rfl
  constructor
  · simp [Builtin.append_, und_run Try.und23, size_run Try.size24, Builtin.lenOf, hmn, Builtin.firstCells, loadCells, loadCellsFrom, storeCells, Addr.add, hct]
    rw [hif, hr']
    rfl
  · simp [Builtin.append_, und_run Try.und23, size_run Try.size24, Builtin.lenOf, hmn, Builtin.firstCells, loadCells, loadCellsFrom, storeCells, Addr.add, hct]
    rw [hif, he]
    rfl
end Go.Proofs.Ytlndinigbppafaa

/-
  proofs: its code, its first loop.
-/
namespace Go.Proofs.Ytlndinigbppafaa
open Go.Sim Go.Conc

def r46_0 : Array Oper :=
  #[{ dst := some 4, op := .assign (.const (.slice none 0 0)), type := 23, pos := "log.go:123", after := #[], guard := none }]
def r46_1 : Array Oper :=
  #[{ dst := some 11, op := .move (.tmp 1), type := 3, pos := "log.go:124", after := #[], guard := none },
    { dst := some 12, op := .makeSlice 106 (.tmp 11) (.tmp 11), type := 106, pos := "log.go:124", after := #[{ on := 0, ground := .data }, { on := 0, ground := .data }], guard := none },
    { dst := some 5, op := .assign (.tmp 12), type := 106, pos := "log.go:124", after := #[{ on := 1, ground := .data }, { on := 0, ground := .phase }, { on := 1, ground := .phase }], guard := none }]
def r46_2 : Array Oper :=
  #[{ dst := some 13, op := .move (.tmp 5), type := 106, pos := "log.go:125", after := #[], guard := none },
    { dst := some 14, op := .call { callee := .builtin .len, args := #[.tmp 13], argTypes := #[106] }, type := 3, pos := "log.go:125", after := #[{ on := 0, ground := .data }], guard := none },
    { dst := some 15, op := .move (.const (.int .i64 0)), type := 3, pos := "log.go:125", after := #[], guard := none }]
def r46_3 : Array Oper :=
  #[{ dst := some 16, op := .binOp .lss 3 (.tmp 15) (.tmp 14) 3, type := 0, pos := "log.go:125", after := #[], guard := none }]
def r46_4 : Array Oper :=
  #[{ dst := some 17, op := .move (.tmp 15), type := 3, pos := "log.go:125", after := #[], guard := none },
    { dst := some 6, op := .assign (.tmp 17), type := 3, pos := "log.go:125", after := #[{ on := 0, ground := .data }, { on := 0, ground := .phase }], guard := none }]
def r46_5 : Array Oper :=
  #[{ dst := some 18, op := .move (.tmp 5), type := 106, pos := "log.go:126", after := #[], guard := none },
    { dst := some 19, op := .move (.tmp 6), type := 3, pos := "log.go:126", after := #[], guard := none },
    { dst := some 20, op := .move (.tmp 0), type := 84, pos := "log.go:126", after := #[], guard := none },
    { dst := some 21, op := .move (.tmp 6), type := 3, pos := "log.go:126", after := #[], guard := none },
    { dst := some 22, op := .move (.tmp 1), type := 3, pos := "log.go:126", after := #[], guard := none },
    { dst := some 23, op := .call { callee := .value (.func 64), args := #[.tmp 20, .tmp 21, .tmp 22], argTypes := #[84, 3, 3] }, type := 107, pos := "log.go:126", after := #[{ on := 2, ground := .data }, { on := 3, ground := .data }, { on := 4, ground := .data }], guard := none },
    { dst := some 24, op := .indexAddr 106 (.tmp 18) (.tmp 19), type := 0, pos := "log.go:126", after := #[{ on := 0, ground := .data }, { on := 1, ground := .data }, { on := 0, ground := .phase }, { on := 1, ground := .phase }, { on := 2, ground := .phase }, { on := 3, ground := .phase }, { on := 4, ground := .phase }, { on := 5, ground := .phase }], guard := none },
    { dst := none, op := .store 107 (.tmp 24) (.tmp 23), type := 0, pos := "log.go:126", after := #[{ on := 6, ground := .data }, { on := 5, ground := .data }, { on := 5, ground := .chain }, { on := 0, ground := .phase }, { on := 1, ground := .phase }, { on := 2, ground := .phase }, { on := 3, ground := .phase }, { on := 4, ground := .phase }, { on := 5, ground := .phase }], guard := none }]
def r46_6 : Array Oper :=
  #[{ dst := some 25, op := .binOp .add 3 (.tmp 15) (.const (.int .i64 1)) 3, type := 3, pos := "log.go:125", after := #[], guard := none },
    { dst := some 15, op := .move (.tmp 25), type := 3, pos := "log.go:125", after := #[{ on := 0, ground := .data }], guard := none }]
def r46_7 : Array Oper :=
  #[{ dst := some 26, op := .move (.tmp 1), type := 3, pos := "log.go:128", after := #[], guard := none },
    { dst := some 27, op := .makeSlice 23 (.const (.int .i64 0)) (.tmp 26), type := 23, pos := "log.go:128", after := #[{ on := 0, ground := .data }], guard := none },
    { dst := some 7, op := .assign (.tmp 27), type := 23, pos := "log.go:128", after := #[{ on := 1, ground := .data }, { on := 0, ground := .phase }, { on := 1, ground := .phase }], guard := none }]
def r46_8 : Array Oper :=
  #[{ dst := some 28, op := .move (.tmp 5), type := 106, pos := "log.go:129", after := #[], guard := none },
    { dst := some 29, op := .call { callee := .builtin .len, args := #[.tmp 28], argTypes := #[106] }, type := 3, pos := "log.go:129", after := #[{ on := 0, ground := .data }], guard := none },
    { dst := some 30, op := .move (.const (.int .i64 0)), type := 3, pos := "log.go:129", after := #[], guard := none }]
def r46_9 : Array Oper :=
  #[{ dst := some 31, op := .binOp .lss 3 (.tmp 30) (.tmp 29) 3, type := 0, pos := "log.go:129", after := #[], guard := none }]
def r46_10 : Array Oper :=
  #[{ dst := some 32, op := .indexAddr 106 (.tmp 28) (.tmp 30), type := 0, pos := "log.go:129", after := #[], guard := none },
    { dst := some 33, op := .load 107 (.tmp 32), type := 107, pos := "log.go:129", after := #[{ on := 0, ground := .data }], guard := none },
    { dst := some 9, op := .assign (.tmp 33), type := 107, pos := "log.go:129", after := #[{ on := 1, ground := .data }, { on := 0, ground := .phase }, { on := 1, ground := .phase }], guard := none }]
def r46_11 : Array Oper :=
  #[{ dst := some 34, op := .move (.tmp 9), type := 107, pos := "log.go:130", after := #[], guard := none }]
def r46_12 : Array Oper :=
  #[{ dst := some 35, op := .recv 107 (.tmp 34) true, type := 0, pos := "log.go:130", after := #[], guard := none },
    { dst := some 36, op := .extract (.tmp 35) 1, type := 4, pos := "log.go:130", after := #[{ on := 0, ground := .data }], guard := none }]
def r46_13 : Array Oper :=
  #[{ dst := some 37, op := .extract (.tmp 35) 0, type := 24, pos := "log.go:130", after := #[], guard := none },
    { dst := some 10, op := .assign (.tmp 37), type := 24, pos := "log.go:130", after := #[{ on := 0, ground := .data }, { on := 0, ground := .phase }], guard := none }]
def r46_14 : Array Oper :=
  #[{ dst := some 38, op := .move (.tmp 7), type := 23, pos := "log.go:131", after := #[], guard := none },
    { dst := some 39, op := .move (.tmp 10), type := 24, pos := "log.go:131", after := #[], guard := none },
    { dst := some 40, op := .buildSlice 23 1 #[(0, .tmp 39)], type := 23, pos := "log.go:131", after := #[{ on := 1, ground := .data }], guard := none },
    { dst := some 41, op := .call { callee := .builtin .append, args := #[.tmp 38, .tmp 40], argTypes := #[23, 23] }, type := 23, pos := "log.go:131", after := #[{ on := 0, ground := .data }, { on := 2, ground := .data }], guard := none },
    { dst := some 7, op := .assign (.tmp 41), type := 23, pos := "log.go:131", after := #[{ on := 3, ground := .data }, { on := 3, ground := .chain }, { on := 0, ground := .phase }, { on := 1, ground := .phase }, { on := 2, ground := .phase }, { on := 3, ground := .phase }], guard := none }]
def r46_15 : Array Oper :=
  #[{ dst := some 42, op := .binOp .add 3 (.tmp 30) (.const (.int .i64 1)) 3, type := 3, pos := "log.go:129", after := #[], guard := none },
    { dst := some 30, op := .move (.tmp 42), type := 3, pos := "log.go:129", after := #[{ on := 0, ground := .data }], guard := none }]
def r46_16 : Array Oper :=
  #[{ dst := some 43, op := .move (.tmp 7), type := 23, pos := "log.go:134", after := #[], guard := none },
    { dst := some 4, op := .assign (.tmp 43), type := 23, pos := "log.go:134", after := #[{ on := 0, ground := .data }, { on := 0, ground := .phase }], guard := none }]
def L1 : Code := .seq (.region 3 r46_3 false) (.seq (.cond (.tmp 16) .skip (.exit 0)) (.seq (.block 1 (.seq (.region 4 r46_4 false) (.region 5 r46_5 false))) (.region 6 r46_6 false)))
def L3 : Code := .seq (.region 12 r46_12 false) (.seq (.cond (.tmp 36) .skip (.exit 4)) (.block 5 (.seq (.region 13 r46_13 false) (.region 14 r46_14 false))))
def L2 : Code := .seq (.region 9 r46_9 false) (.seq (.cond (.tmp 31) .skip (.exit 2)) (.seq (.block 3 (.seq (.region 10 r46_10 false) (.seq (.region 11 r46_11 false) (.block 4 (.loop L3))))) (.region 15 r46_15 false)))
def c46 : Code := .seq (.region 0 r46_0 false) (.seq (.region 1 r46_1 false) (.seq (.seq (.region 2 r46_2 false) (.block 0 (.loop L1))) (.seq (.region 7 r46_7 false) (.seq (.seq (.region 8 r46_8 false) (.block 2 (.loop L2))) (.seq (.region 16 r46_16 false) .ret)))))
theorem body46 : Try.f46.body = some c46 := rfl

/-- The frame in the first loop, and in the second. -/
def aL1 (ver : Value) (N ch : Nat) (i : Int) (x6 x16 x17 x18 x19 x20 x21 x22 x23 x24 x25 : Value) : Act :=
  ⟨#[ver, .int .i64 N, undef, undef, .slice none 0 0, .slice (some ⟨ch, 0, none⟩) N N, x6, undef, undef, undef, undef, .int .i64 N, .slice (some ⟨ch, 0, none⟩) N N, .slice (some ⟨ch, 0, none⟩) N N, .int .i64 N, .int .i64 i, x16, x17, x18, x19, x20, x21, x22, x23, x24, x25, undef, undef, undef, undef, undef, undef, undef, undef, undef, undef, undef, undef, undef, undef, undef, undef, undef, undef], []⟩
def aL2 (ver : Value) (N ch ga m : Nat) (j : Int) (x6 x15 x16 x17 x18 x19 x20 x21 x22 x23 x24 x25 y9 y10 y31 y32 y33 y34 y35 y36 y37 y38 y39 y40 y41 y42 : Value) : Act :=
  ⟨#[ver, .int .i64 N, undef, undef, .slice none 0 0, .slice (some ⟨ch, 0, none⟩) N N, x6, .slice (some ⟨ga, 0, none⟩) m N, undef, y9, y10, .int .i64 N, .slice (some ⟨ch, 0, none⟩) N N, .slice (some ⟨ch, 0, none⟩) N N, .int .i64 N, x15, x16, x17, x18, x19, x20, x21, x22, x23, x24, x25, .int .i64 N, .slice (some ⟨ga, 0, none⟩) 0 N, .slice (some ⟨ch, 0, none⟩) N N, .int .i64 N, .int .i64 j, y31, y32, y33, y34, y35, y36, y37, y38, y39, y40, y41, y42, undef], []⟩

/-- The channels so far, and what is gathered so far. -/
def chArr (cs : List (Nat × Nat)) (N : Nat) : Array Value := (cs.map (fun p : Nat × Nat => Value.chan (some p.1)) ++ List.replicate (N - cs.length) (Value.chan none)).toArray
def gaArr (vs : List Value) (N : Nat) : Array Value := (vs ++ List.replicate (N - vs.length) (Value.slice none 0 0)).toArray
theorem chArr_nil (N : Nat) : chArr [] N = Array.replicate N (.chan none) := by simp [chArr]
theorem gaArr_nil (N : Nat) : gaArr [] N = Array.replicate N (.slice none 0 0) := by simp [gaArr]
theorem pad_set {α : Type} (l : List α) (n : Nat) (z v : α) (h : l.length < n) : (l ++ List.replicate (n - l.length) z).set l.length v = (l ++ [v]) ++ List.replicate (n - (l ++ [v]).length) z := by
  rw [List.set_append_right _ _ (Nat.le_refl _)]
  obtain ⟨m, hm⟩ : ∃ m, n - l.length = m + 1 := ⟨n - l.length - 1, by omega⟩
  have h2 : n - (l ++ [v]).length = m := by simp; omega
  rw [hm, h2]
  simp [List.replicate_succ]
theorem chArr_set {cs : List (Nat × Nat)} {N c bc : Nat} (h : cs.length < N) : (chArr cs N).setIfInBounds cs.length (.chan (some c)) = chArr (cs ++ [(c, bc)]) N := by
  unfold chArr
  have := pad_set (cs.map fun p => Value.chan (some p.1)) N (.chan none) (.chan (some c)) (by simpa using h)
  simp only [List.length_map] at this
  rw [List.setIfInBounds_toArray, this]
  simp
theorem gaArr_set {vs : List Value} {N : Nat} {V : Value} (h : vs.length < N) : (gaArr vs N).setIfInBounds vs.length V = gaArr (vs ++ [V]) N := by
  unfold gaArr
  rw [List.setIfInBounds_toArray, pad_set _ _ _ _ h]
theorem chArr_size {cs : List (Nat × Nat)} {N : Nat} (h : cs.length ≤ N) : (chArr cs N).size = N := by simp [chArr]; omega
theorem gaArr_size {vs : List Value} {N : Nat} (h : vs.length ≤ N) : (gaArr vs N).size = N := by simp [gaArr]; omega

/-- The boxes of the children are there. -/
def FB (s : St) (w : World) : Prop := ∀ b, s.rd b → b < w.heap.size
theorem fb_stab {PB : Nat → Prop} {s : St} : Stab PB s (FB s) := fun _ _ h hR b hb => Nat.lt_of_lt_of_le (h b hb) hR.size

theorem wrap_nat {n : Nat} (h : n < 2 ^ 62) : IntKind.i64.wrap ((n : Int) + 1) = ((n + 1 : Nat) : Int) := by rw [IntKind.wrap_i64]; omega

section
variable {ver : Value} {N : Nat} {Fin : St → (Nat → Prop) → Goroutine → World → Prop} {s : St} {PB : Nat → Prop} {k : List Item} {cs : List Frame} {ch : Nat}

theorem ok_ch (hch : PB ch) (hPB : ∀ b, PB b → b = ch) {ob : Obj} : Ok PB s (And1 (FB s) ch ob) := by
  refine ⟨fun w w₁ hw hR => ⟨fb_stab w w₁ hw.1 hR, by rw [hR.keep ch (.inl hch)]; exact hw.2⟩, fun w hw b hb => ?_⟩
  rcases hb with hb | hb
  · rw [hPB b hb]; exact (Array.getElem?_eq_some_iff.1 hw.2).1
  · exact hw.1 b hb

theorem hk46 : (base 46).kind ≠ .early := by intro h; cases h

/-- THE FIRST LOOP: a child for each. -/
theorem loop1 (hch : PB ch) (hPB : ∀ b, PB b → b = ch) (hver : ver.cells = #[ver]) (hN : N < 2 ^ 40)
    (hK : ∀ (s : St) (x6 x16 x17 x18 x19 x20 x21 x22 x23 x24 x25 : Value), s.cs.length = N → s.cur = 0 → s.got = false → s.vs = [] → ¬ s.rd ch → AtP ver N Fin s PB (And1 (FB s) ch (.cells (chArr s.cs N) 107)) (G ((base 46).at (aL1 ver N ch (N) x6 x16 x17 x18 x19 x20 x21 x22 x23 x24 x25) k) cs)) :
    ∀ (m : Nat) (s : St) (x6 x16 x17 x18 x19 x20 x21 x22 x23 x24 x25 : Value), s.cs.length + m = N → s.cur = 0 → s.got = false → s.vs = [] → ¬ s.rd ch →
      AtP ver N Fin s PB (And1 (FB s) ch (.cells (chArr s.cs N) 107)) (G ((base 46).at (aL1 ver N ch (s.cs.length) x6 x16 x17 x18 x19 x20 x21 x22 x23 x24 x25) (.code L1 :: .inLoop L1 :: .inBlock 0 :: k)) cs) := by
  intro m
  induction m with
  | zero =>
    intro s x6 x16 x17 x18 x19 x20 x21 x22 x23 x24 x25 hs h1 h2 h3 h4
    have O := ok_ch (s := s) (ob := .cells (chArr s.cs N) 107) hch hPB
    have hN' : s.cs.length = N := by omega
    refine AtP.seq O.stab (AtP.region (a' := (aL1 ver N ch (s.cs.length) x6 (.bool (decide ((s.cs.length : Int) < (N : Int)))) x17 x18 x19 x20 x21 x22 x23 x24 x25)) O.stab hk46 rfl ?_)
    rw [show decide ((s.cs.length : Int) < (N : Int)) = false by simp; omega]
    refine AtP.seq O.stab (AtP.cond (t := false) O.stab rfl ?_)
    refine AtP.exit (k' := k) O.stab rfl ?_
    rw [hN']
    exact hK s _ _ _ _ _ _ _ _ _ _ _ hN' h1 h2 h3 h4
  | succ m ih =>
    intro s x6 x16 x17 x18 x19 x20 x21 x22 x23 x24 x25 hs h1 h2 h3 h4
    have O := ok_ch (s := s) (ob := .cells (chArr s.cs N) 107) hch hPB
    have hlt : s.cs.length < N := by omega
    refine AtP.seq O.stab (AtP.region (a' := (aL1 ver N ch (s.cs.length) x6 (.bool (decide ((s.cs.length : Int) < (N : Int)))) x17 x18 x19 x20 x21 x22 x23 x24 x25)) O.stab hk46 rfl ?_)
    rw [show decide ((s.cs.length : Int) < (N : Int)) = true by simp; omega]
    refine AtP.seq O.stab (AtP.cond (t := true) O.stab rfl (AtP.skip O.stab ?_))
    refine AtP.seq O.stab (AtP.block O.stab (AtP.seq O.stab ?_))
    refine AtP.region (a' := (aL1 ver N ch (s.cs.length) (.int .i64 s.cs.length) (.bool true) (.int .i64 s.cs.length) x18 x19 x20 x21 x22 x23 x24 x25)) O.stab hk46 rfl ?_
    refine AtP.into O.stab (AtP.pures (l := [0, 1, 2, 3, 4]) (rest := [5, 6, 7]) (a' := (aL1 ver N ch (s.cs.length) (.int .i64 s.cs.length) (.bool true) (.int .i64 s.cs.length) (.slice (some ⟨ch, 0, none⟩) N N) (.int .i64 s.cs.length) ver (.int .i64 s.cs.length) (.int .i64 N) x23 x24 x25)) O.stab hk46 rfl ?_)
    refine AtP.call (o := r46_5[5]) O.stab hk46 rfl rfl rfl Try.func64 (by simp [Try.f64]) body64 ?_
    have hst := start_at (Fin := Fin) (ops := r46_5) (j := 5) (rest := [6, 7]) (k := .inBlock 1 :: .code (.region 6 r46_6 false) :: .inLoop L1 :: .inBlock 0 :: k) (cs := cs) (b₀ := base 46) (a₀ := (aL1 ver N ch (s.cs.length) (.int .i64 s.cs.length) (.bool true) (.int .i64 s.cs.length) (.slice (some ⟨ch, 0, none⟩) N N) (.int .i64 s.cs.length) ver (.int .i64 s.cs.length) (.int .i64 N) x23 x24 x25)) O hlt hver fun c bc hbc => ?_
    · have e : (#[.tmp 20, .tmp 21, .tmp 22] : Array Operand).map (aL1 ver N ch (s.cs.length) (.int .i64 s.cs.length) (.bool true) (.int .i64 s.cs.length) (.slice (some ⟨ch, 0, none⟩) N N) (.int .i64 s.cs.length) ver (.int .i64 s.cs.length) (.int .i64 N) x23 x24 x25).eval ++ Array.replicate (Try.f64.ntmps - ((#[.tmp 20, .tmp 21, .tmp 22] : Array Operand).map (aL1 ver N ch (s.cs.length) (.int .i64 s.cs.length) (.bool true) (.int .i64 s.cs.length) (.slice (some ⟨ch, 0, none⟩) N N) (.int .i64 s.cs.length) ver (.int .i64 s.cs.length) (.int .i64 N) x23 x24 x25).eval).size) undef = #[ver, .int .i64 s.cs.length, .int .i64 N, undef, undef, undef, undef, undef, undef, undef, undef] := by
        simp [aL1, Act.eval, Try.f64]
      rw [e]
      exact hst
    -- behind the call
    have hcb : bc ≠ ch := fun e => hbc (e ▸ hch)
    have hrd : ¬ (s.more c bc).rd ch := fun q => (rd_more.1 q).elim h4 fun e => hcb e.symm
    have O' := ok_ch (s := s.more c bc) (ob := .cells (chArr s.cs N) 107) hch hPB
    have O2 := ok_ch (s := s.more c bc) (ob := .cells (chArr (s.more c bc).cs N) 107) hch hPB
    refine AtP.mono (F := And1 (FB (s.more c bc)) ch (.cells (chArr s.cs N) 107)) (fun w hw => ⟨fun b hb => ?_, hw.1.2⟩) ?_
    · rcases rd_more.1 hb with hb | rfl
      · exact hw.1.1 b hb
      · exact (Array.getElem?_eq_some_iff.1 hw.2).1
    show AtP _ _ _ _ _ _ (G ((base 46).at (aL1 ver N ch (s.cs.length) (.int .i64 s.cs.length) (.bool true) (.int .i64 s.cs.length) (.slice (some ⟨ch, 0, none⟩) N N) (.int .i64 s.cs.length) ver (.int .i64 s.cs.length) (.int .i64 N) (.chan (some c)) x24 x25) _) _)
    refine AtP.val (o := r46_5[6]) (v := .pointer (some ⟨ch, s.cs.length, none⟩)) O'.stab hk46 rfl rfl (fun w => ?_) ?_
    · obtain ⟨q1, q2⟩ := indexAt_run (r := ch) hlt w
      exact ⟨run_v q1, (ev_v q1).trans q2⟩
    show AtP _ _ _ _ _ _ (G ((base 46).at (aL1 ver N ch (s.cs.length) (.int .i64 s.cs.length) (.bool true) (.int .i64 s.cs.length) (.slice (some ⟨ch, 0, none⟩) N N) (.int .i64 s.cs.length) ver (.int .i64 s.cs.length) (.int .i64 N) (.chan (some c)) (.pointer (some ⟨ch, s.cs.length, none⟩)) x25) _) _)
    refine AtP.store (o := r46_5[7]) (r := ch) (off := s.cs.length) (v := .chan (some c)) fb_stab O'.stab hk46 rfl rfl rfl hch hrd rfl rfl Try.size107 rfl rfl (by rw [chArr_size (by omega)]; exact hlt) ?_
    rw [chArr_set (bc := bc) hlt]
    refine AtP.out O2.stab (AtP.inBlock O2.stab ?_)
    refine AtP.region (a' := (aL1 ver N ch (IntKind.i64.wrap ((s.cs.length : Int) + 1)) (.int .i64 s.cs.length) (.bool true) (.int .i64 s.cs.length) (.slice (some ⟨ch, 0, none⟩) N N) (.int .i64 s.cs.length) ver (.int .i64 s.cs.length) (.int .i64 N) (.chan (some c)) (.pointer (some ⟨ch, s.cs.length, none⟩)) (.int .i64 (IntKind.i64.wrap ((s.cs.length : Int) + 1))))) O2.stab hk46 rfl (AtP.inLoop O2.stab ?_)
    rw [wrap_nat (by omega)]
    have hlen : (s.more c bc).cs.length = s.cs.length + 1 := by simp [St.more]
    rw [← hlen]
    exact ih (s.more c bc) _ _ _ _ _ _ _ _ _ _ _ (by rw [hlen]; omega) h1 h2 h3 hrd
end
end Go.Proofs.Ytlndinigbppafaa

/-
  proofs: its second loop.
-/
namespace Go.Proofs.Ytlndinigbppafaa
open Go.Sim Go.Conc

section
variable {ver : Value} {N : Nat} {Fin : St → (Nat → Prop) → Goroutine → World → Prop} {s : St} {PB : Nat → Prop} {F : World → Prop} {b : Frame} {a : Act} {k : List Item} {cs : List Frame} {ops : Array Oper} {i c bc : Nat} {rest : List Nat} {o : Oper} {x : Operand} {ch ga : Nat}

theorem served_G (fr : Frame) (cs : List Frame) (v : Value) : Go.Conc.served (G fr cs) v = G (fr.finish v) cs := rfl

theorem step_recv (hk : b.kind ≠ .early) (ho : ops[i]? = some o) (hg : o.guard = none) (hop : o.op = .recv 107 x true) (hx : a.eval x = .chan (some c)) (w : World) :
    stepG Try.prog true (G (b.at a (.inRegion ops (i :: rest) :: k)) cs) w = .comm (G (b.at a (.inRegion ops (i :: rest) :: k)) cs) #[rcase c (.slice none 0 0)] true (.recv true) w #[] := by
  obtain ⟨h1, h2⟩ := recv_run hop hx w
  rw [stepG_comm ho (wanted_of hg) hk h1]
  unfold listed
  rw [h2, seen_none]

theorem AtP.recv (hS : Stab PB s F) (hk : b.kind ≠ .early) (ho : ops[i]? = some o) (hg : o.guard = none) (hop : o.op = .recv 107 x true) (hx : a.eval x = .chan (some c)) (hcs : s.cs[s.cur]? = some (c, bc)) (hgot : s.got = false)
    (hK : ∀ V, Sl V → AtP ver N Fin (s.take V) PB F (G (b.at (a.put o.dst (.tuple #[V, .bool true])) (.inRegion ops rest :: k)) cs)) : AtP ver N Fin s PB F (G (b.at a (.inRegion ops (i :: rest) :: k)) cs) := by
  intro w hw
  refine PS.recv c bc (.slice none 0 0) rfl hcs hgot (fun w₁ _ => step_recv hk ho hg hop hx w₁) fun V w₁ hV hR => ?_
  have := hK V hV w₁ (hS w w₁ hw hR)
  rw [served_G, Frame.finish_at, ho]
  exact this
theorem AtP.shut (hS : Stab PB s F) (hk : b.kind ≠ .early) (ho : ops[i]? = some o) (hg : o.guard = none) (hop : o.op = .recv 107 x true) (hx : a.eval x = .chan (some c)) (hcs : s.cs[s.cur]? = some (c, bc)) (hgot : s.got = true)
    (hK : AtP ver N Fin s.next PB F (G (b.at (a.put o.dst (.tuple #[.slice none 0 0, .bool false])) (.inRegion ops rest :: k)) cs)) : AtP ver N Fin s PB F (G (b.at a (.inRegion ops (i :: rest) :: k)) cs) := by
  intro w hw
  refine PS.shut c bc (.slice none 0 0) rfl hcs hgot (fun w₁ _ => step_recv hk ho hg hop hx w₁) fun w₁ hR => ?_
  have := hK w₁ (hS w w₁ hw hR)
  rw [served_G, Frame.finish_at, ho]
  exact this

/-- The blocks are there. -/
def FB2 (PB : Nat → Prop) (s : St) (w : World) : Prop := ∀ b, PB b ∨ s.rd b → b < w.heap.size
theorem fb2_stab {PB PB' : Nat → Prop} : Stab PB' s (FB2 PB s) := fun _ _ h hR b hb => Nat.lt_of_lt_of_le (h b hb) hR.size

theorem ok2 (hch : PB ch) (hga : PB ga) {o1 o2 : Obj} : Ok PB s (And1 (And1 (FB2 PB s) ch o1) ga o2) :=
  ⟨fun w w₁ hw hR => ⟨⟨fb2_stab w w₁ hw.1.1 hR, by rw [hR.keep ch (.inl hch)]; exact hw.1.2⟩, by rw [hR.keep ga (.inl hga)]; exact hw.2⟩, fun _ hw b hb => hw.1.1 b hb⟩

theorem chArr_get {cs : List (Nat × Nat)} {N j c bc : Nat} (h : cs[j]? = some (c, bc)) : (chArr cs N)[j]? = some (.chan (some c)) := by
  have hlt := (List.getElem?_eq_some_iff.1 h).1
  unfold chArr
  rw [List.getElem?_toArray, List.getElem?_append_left (by simpa using hlt), List.getElem?_map, h]
  rfl

/-- The append in place. -/
theorem AtP.append {tb m : Nat} {vs : List Value} {V : Value} {x y : Operand} (hV : Sl V) (hga : PB ga) (htb : PB tb) (hne : ch ≠ ga) (hm : vs.length = m) (hmN : m < N) (hk : b.kind ≠ .early) (ho : ops[i]? = some o) (hg : o.guard = none)
    (hop : o.op = .call { callee := .builtin .append, args := #[x, y], argTypes := #[23, 23] }) (hty : o.type = 23) (hx : a.eval x = .slice (some ⟨ga, 0, none⟩) m N) (hy : a.eval y = .slice (some ⟨tb, 0, none⟩) 1 1)
    (hS : Stab PB s (And1 (And1 (And1 (FB2 PB s) ch (.cells (chArr s.cs N) 107)) ga (.cells (gaArr vs N) 24)) tb (.cells #[V] 24)))
    (hK : AtP ver N Fin s PB (And1 (And1 (FB2 PB s) ch (.cells (chArr s.cs N) 107)) ga (.cells (gaArr (vs ++ [V]) N) 24)) (G (b.at (a.put o.dst (.slice (some ⟨ga, 0, none⟩) (m + 1) N)) (.inRegion ops rest :: k)) cs)) :
    AtP ver N Fin s PB (And1 (And1 (And1 (FB2 PB s) ch (.cells (chArr s.cs N) 107)) ga (.cells (gaArr vs N) 24)) tb (.cells #[V] 24)) (G (b.at a (.inRegion ops (i :: rest) :: k)) cs) := by
  refine AtP.op hS hk ho hg fun w hw => ?_
  obtain ⟨⟨⟨hfb, hwch⟩, hwga⟩, hwtb⟩ := hw
  obtain ⟨h1, h2⟩ := append_run (m := m) hV hmN (gaArr_size (by omega)) hwga hwtb
  have hex : execOp a.eval o = (Builtin.append_ #[23, 23] 23 #[.slice (some ⟨ga, 0, none⟩) m N, .slice (some ⟨tb, 0, none⟩) 1 1] >>= fun v => Pure.pure (Next.value v)) := by
    unfold execOp
    simp [hop, resolve, invoke, builtin, hx, hy, hty]
  have e2 : ∀ ev ∈ listed Try.prog b.fn a o w, ev = ⟨.cell ⟨tb, 0, none⟩, false, false⟩ ∨ ev = ⟨.cell ⟨ga, m, none⟩, true, false⟩ := by
    intro ev hev
    have := mem_seen hev
    rw [hex, ev_v h1, h2] at this
    simpa using this
  refine ⟨_, _, by rw [hex]; exact run_v h1, ⟨⟨Nat.le_of_eq setCell_size.symm, fun b' hb' hn => setCell_other fun e => hn (by rw [e]; exact hga), rfl, rfl, rfl, fun ev hev => ?_⟩, fun ev hev b' q => ?_⟩, ?_⟩
  · rcases e2 ev hev with rfl | rfl
    · exact .inr ⟨rfl, tb, .inl ⟨_, rfl, rfl⟩, .inl (.inl htb)⟩
    · exact .inr ⟨rfl, ga, .inl ⟨_, rfl, rfl⟩, .inl (.inl hga)⟩
  · rcases e2 ev hev with rfl | rfl <;> cases q
  · have hg' : grow PB w (w.setCell ⟨ga, m, none⟩ V) = PB := by
      funext b'
      unfold grow
      rw [setCell_size]
      apply propext
      constructor
      · rintro (q | q)
        · exact q
        · omega
      · exact .inl
    rw [hg']
    refine hK _ ⟨⟨fun b' hb' => by rw [setCell_size]; exact hfb b' hb', by rw [setCell_other hne]; exact hwch⟩, ?_⟩
    rw [setCell_at hwga, ← gaArr_set (by omega), hm]

/-- THE SECOND LOOP: each child is heard out. -/
theorem loop2 (hne : ch ≠ ga) (hN : N < 2 ^ 40)
    (hK : ∀ (s : St) (PB : Nat → Prop) (x6 x15 x16 x17 x18 x19 x20 x21 x22 x23 x24 x25 y9 y10 y31 y32 y33 y34 y35 y36 y37 y38 y39 y40 y41 y42 : Value), s.cs.length = N → s.cur = N → s.got = false → s.vs.length = N → PB ch → PB ga → AtP ver N Fin s PB (And1 (And1 (FB2 PB s) ch (.cells (chArr s.cs N) 107)) ga (.cells (gaArr s.vs N) 24)) (G ((base 46).at (aL2 ver N ch ga (N) (N) x6 x15 x16 x17 x18 x19 x20 x21 x22 x23 x24 x25 y9 y10 y31 y32 y33 y34 y35 y36 y37 y38 y39 y40 y41 y42) k) cs)) :
    ∀ (r : Nat) (s : St) (PB : Nat → Prop) (x6 x15 x16 x17 x18 x19 x20 x21 x22 x23 x24 x25 y9 y10 y31 y32 y33 y34 y35 y36 y37 y38 y39 y40 y41 y42 : Value), s.cur + r = N → s.cs.length = N → s.got = false → s.vs.length = s.cur → PB ch → PB ga →
      AtP ver N Fin s PB (And1 (And1 (FB2 PB s) ch (.cells (chArr s.cs N) 107)) ga (.cells (gaArr s.vs N) 24)) (G ((base 46).at (aL2 ver N ch ga (s.cur) (s.cur) x6 x15 x16 x17 x18 x19 x20 x21 x22 x23 x24 x25 y9 y10 y31 y32 y33 y34 y35 y36 y37 y38 y39 y40 y41 y42) (.code L2 :: .inLoop L2 :: .inBlock 2 :: k)) cs) := by
  intro r
  induction r with
  | zero =>
    intro s PB x6 x15 x16 x17 x18 x19 x20 x21 x22 x23 x24 x25 y9 y10 y31 y32 y33 y34 y35 y36 y37 y38 y39 y40 y41 y42 hr hcs hgot hvs hch hga
    have O := ok2 (s := s) (o1 := .cells (chArr s.cs N) 107) (o2 := .cells (gaArr s.vs N) 24) hch hga
    have hN' : s.cur = N := by omega
    refine AtP.seq O.stab (AtP.region (a' := (aL2 ver N ch ga (s.cur) (s.cur) x6 x15 x16 x17 x18 x19 x20 x21 x22 x23 x24 x25 y9 y10 (.bool (decide ((s.cur : Int) < (N : Int)))) y32 y33 y34 y35 y36 y37 y38 y39 y40 y41 y42)) O.stab hk46 rfl ?_)
    rw [show decide ((s.cur : Int) < (N : Int)) = false by simp; omega]
    refine AtP.seq O.stab (AtP.cond (t := false) O.stab rfl ?_)
    refine AtP.exit (k' := k) O.stab rfl ?_
    rw [hN']
    exact hK s PB _ _ _ _ _ _ _ _ _ _ _ _ _ _ _ _ _ _ _ _ _ _ _ _ _ _ hcs hN' hgot (by omega) hch hga
  | succ r ih =>
    intro s PB x6 x15 x16 x17 x18 x19 x20 x21 x22 x23 x24 x25 y9 y10 y31 y32 y33 y34 y35 y36 y37 y38 y39 y40 y41 y42 hr hcs hgot hvs hch hga
    have O := ok2 (s := s) (o1 := .cells (chArr s.cs N) 107) (o2 := .cells (gaArr s.vs N) 24) hch hga
    have hlt : s.cur < N := by omega
    obtain ⟨⟨c, bc⟩, hcc⟩ : ∃ p, s.cs[s.cur]? = some p := ⟨_, List.getElem?_eq_getElem (by omega)⟩
    refine AtP.seq O.stab (AtP.region (a' := (aL2 ver N ch ga (s.cur) (s.cur) x6 x15 x16 x17 x18 x19 x20 x21 x22 x23 x24 x25 y9 y10 (.bool (decide ((s.cur : Int) < (N : Int)))) y32 y33 y34 y35 y36 y37 y38 y39 y40 y41 y42)) O.stab hk46 rfl ?_)
    rw [show decide ((s.cur : Int) < (N : Int)) = true by simp; omega]
    refine AtP.seq O.stab (AtP.cond (t := true) O.stab rfl (AtP.skip O.stab ?_))
    refine AtP.seq O.stab (AtP.block O.stab (AtP.seq O.stab (AtP.into O.stab ?_)))
    refine AtP.val (o := r46_10[0]) (v := .pointer (some ⟨ch, s.cur, none⟩)) O.stab hk46 rfl rfl (fun w => ?_) ?_
    · obtain ⟨q1, q2⟩ := indexAt_run (r := ch) hlt w
      exact ⟨run_v q1, (ev_v q1).trans q2⟩
    show AtP _ _ _ _ _ _ (G ((base 46).at (aL2 ver N ch ga (s.cur) (s.cur) x6 x15 x16 x17 x18 x19 x20 x21 x22 x23 x24 x25 y9 y10 (.bool true) (.pointer (some ⟨ch, s.cur, none⟩)) y33 y34 y35 y36 y37 y38 y39 y40 y41 y42) _) _)
    refine AtP.load (o := r46_10[1]) (r := ch) (off := s.cur) (v := .chan (some c)) O.stab hk46 rfl rfl rfl (.inl hch) rfl (fun w => by simp) (fun w hw => hw.1.2) (chArr_get hcc) ?_
    show AtP _ _ _ _ _ _ (G ((base 46).at (aL2 ver N ch ga (s.cur) (s.cur) x6 x15 x16 x17 x18 x19 x20 x21 x22 x23 x24 x25 y9 y10 (.bool true) (.pointer (some ⟨ch, s.cur, none⟩)) (.chan (some c)) y34 y35 y36 y37 y38 y39 y40 y41 y42) _) _)
    refine AtP.pures (l := [2]) (rest := []) (a' := (aL2 ver N ch ga (s.cur) (s.cur) x6 x15 x16 x17 x18 x19 x20 x21 x22 x23 x24 x25 (.chan (some c)) y10 (.bool true) (.pointer (some ⟨ch, s.cur, none⟩)) (.chan (some c)) y34 y35 y36 y37 y38 y39 y40 y41 y42)) O.stab hk46 rfl (AtP.out O.stab ?_)
    refine AtP.seq O.stab (AtP.region (a' := (aL2 ver N ch ga (s.cur) (s.cur) x6 x15 x16 x17 x18 x19 x20 x21 x22 x23 x24 x25 (.chan (some c)) y10 (.bool true) (.pointer (some ⟨ch, s.cur, none⟩)) (.chan (some c)) (.chan (some c)) y35 y36 y37 y38 y39 y40 y41 y42)) O.stab hk46 rfl ?_)
    refine AtP.block O.stab (AtP.loop O.stab (AtP.seq O.stab (AtP.into O.stab ?_)))
    -- the value
    refine AtP.recv (o := r46_12[0]) (bc := bc) O.stab hk46 rfl rfl rfl rfl hcc hgot fun V hV => ?_
    have Ot := ok2 (s := s.take V) (o1 := .cells (chArr s.cs N) 107) (o2 := .cells (gaArr s.vs N) 24) hch hga
    show AtP ver N Fin (s.take V) PB (And1 (And1 (FB2 PB (s.take V)) ch (.cells (chArr s.cs N) 107)) ga (.cells (gaArr s.vs N) 24)) (G ((base 46).at (aL2 ver N ch ga (s.cur) (s.cur) x6 x15 x16 x17 x18 x19 x20 x21 x22 x23 x24 x25 (.chan (some c)) y10 (.bool true) (.pointer (some ⟨ch, s.cur, none⟩)) (.chan (some c)) (.chan (some c)) (.tuple #[V, .bool true]) y36 y37 y38 y39 y40 y41 y42) (.inRegion r46_12 [1] :: _)) _)
    refine AtP.pures (l := [1]) (rest := []) (a' := (aL2 ver N ch ga (s.cur) (s.cur) x6 x15 x16 x17 x18 x19 x20 x21 x22 x23 x24 x25 (.chan (some c)) y10 (.bool true) (.pointer (some ⟨ch, s.cur, none⟩)) (.chan (some c)) (.chan (some c)) (.tuple #[V, .bool true]) (.bool true) y37 y38 y39 y40 y41 y42)) Ot.stab hk46 rfl (AtP.out Ot.stab ?_)
    refine AtP.seq Ot.stab (AtP.cond (t := true) Ot.stab rfl (AtP.skip Ot.stab ?_))
    refine AtP.block Ot.stab (AtP.seq Ot.stab ?_)
    refine AtP.region (a' := (aL2 ver N ch ga (s.cur) (s.cur) x6 x15 x16 x17 x18 x19 x20 x21 x22 x23 x24 x25 (.chan (some c)) V (.bool true) (.pointer (some ⟨ch, s.cur, none⟩)) (.chan (some c)) (.chan (some c)) (.tuple #[V, .bool true]) (.bool true) V y38 y39 y40 y41 y42)) Ot.stab hk46 rfl ?_
    refine AtP.into Ot.stab (AtP.pures (l := [0, 1]) (rest := [2, 3, 4]) (a' := (aL2 ver N ch ga (s.cur) (s.cur) x6 x15 x16 x17 x18 x19 x20 x21 x22 x23 x24 x25 (.chan (some c)) V (.bool true) (.pointer (some ⟨ch, s.cur, none⟩)) (.chan (some c)) (.chan (some c)) (.tuple #[V, .bool true]) (.bool true) V (.slice (some ⟨ga, 0, none⟩) s.cur N) V y40 y41 y42)) Ot.stab hk46 rfl ?_)
    refine AtP.alloc (o := r46_14[2]) (ob := .cells #[V] 24) (v := fun r => .slice (some ⟨r, 0, none⟩) 1 1) Ot hk46 rfl rfl (fun w _ => ?_) fun tb n1 m1 => ?_
    · obtain ⟨q1, q2⟩ := buildSlice_run hV w
      have hex : execOp (aL2 ver N ch ga (s.cur) (s.cur) x6 x15 x16 x17 x18 x19 x20 x21 x22 x23 x24 x25 (.chan (some c)) V (.bool true) (.pointer (some ⟨ch, s.cur, none⟩)) (.chan (some c)) (.chan (some c)) (.tuple #[V, .bool true]) (.bool true) V (.slice (some ⟨ga, 0, none⟩) s.cur N) V y40 y41 y42).eval r46_14[2] = (do pure (Next.value (← Instr.buildSlice 23 1 #[(0, V)])) : Sem Next) := by simp [execOp, r46_14, aL2, Act.eval]
      rw [hex]
      exact ⟨run_v q1, fun e he => by rw [ev_v q1, q2] at he; simp at he⟩
    show AtP _ _ _ _ _ _ (G ((base 46).at (aL2 ver N ch ga (s.cur) (s.cur) x6 x15 x16 x17 x18 x19 x20 x21 x22 x23 x24 x25 (.chan (some c)) V (.bool true) (.pointer (some ⟨ch, s.cur, none⟩)) (.chan (some c)) (.chan (some c)) (.tuple #[V, .bool true]) (.bool true) V (.slice (some ⟨ga, 0, none⟩) s.cur N) V (.slice (some ⟨tb, 0, none⟩) 1 1) y41 y42) _) _)
    have hch' : (fun b => PB b ∨ b = tb) ch := .inl hch
    have hga' : (fun b => PB b ∨ b = tb) ga := .inl hga
    have Oa : Ok (fun b => PB b ∨ b = tb) (s.take V) (And1 (And1 (And1 (FB2 (fun b => PB b ∨ b = tb) (s.take V)) ch (.cells (chArr (s.take V).cs N) 107)) ga (.cells (gaArr s.vs N) 24)) tb (.cells #[V] 24)) :=
      (ok2 (PB := fun b => PB b ∨ b = tb) hch' hga').and1 (fun _ q => q) (.inr rfl) fun _ q => .inl q
    refine AtP.mono (F := And1 (And1 (And1 (FB2 (fun b => PB b ∨ b = tb) (s.take V)) ch (.cells (chArr (s.take V).cs N) 107)) ga (.cells (gaArr s.vs N) 24)) tb (.cells #[V] 24)) (fun w hw => ⟨⟨⟨fun b hb => ?_, hw.1.1.2⟩, hw.1.2⟩, hw.2⟩) ?_
    · rcases hb with (hb | rfl) | hb
      · exact hw.1.1.1 b (.inl hb)
      · exact (Array.getElem?_eq_some_iff.1 hw.2).1
      · exact hw.1.1.1 b (.inr hb)
    refine AtP.append (o := r46_14[3]) (m := s.cur) hV hga' (.inr rfl) hne hvs hlt hk46 rfl rfl rfl rfl rfl rfl Oa.stab ?_
    show AtP ver N Fin (s.take V) (fun b => PB b ∨ b = tb) (And1 (And1 (FB2 (fun b => PB b ∨ b = tb) (s.take V)) ch (.cells (chArr (s.take V).cs N) 107)) ga (.cells (gaArr (s.take V).vs N) 24)) (G ((base 46).at (aL2 ver N ch ga (s.cur) (s.cur) x6 x15 x16 x17 x18 x19 x20 x21 x22 x23 x24 x25 (.chan (some c)) V (.bool true) (.pointer (some ⟨ch, s.cur, none⟩)) (.chan (some c)) (.chan (some c)) (.tuple #[V, .bool true]) (.bool true) V (.slice (some ⟨ga, 0, none⟩) s.cur N) V (.slice (some ⟨tb, 0, none⟩) 1 1) (.slice (some ⟨ga, 0, none⟩) (s.cur + 1) N) y42) _) _)
    have Ob := ok2 (PB := fun b => PB b ∨ b = tb) (s := s.take V) (o1 := .cells (chArr (s.take V).cs N) 107) (o2 := .cells (gaArr (s.take V).vs N) 24) hch' hga'
    refine AtP.pures (l := [4]) (rest := []) (a' := (aL2 ver N ch ga (s.cur + 1) (s.cur) x6 x15 x16 x17 x18 x19 x20 x21 x22 x23 x24 x25 (.chan (some c)) V (.bool true) (.pointer (some ⟨ch, s.cur, none⟩)) (.chan (some c)) (.chan (some c)) (.tuple #[V, .bool true]) (.bool true) V (.slice (some ⟨ga, 0, none⟩) s.cur N) V (.slice (some ⟨tb, 0, none⟩) 1 1) (.slice (some ⟨ga, 0, none⟩) (s.cur + 1) N) y42)) Ob.stab hk46 rfl (AtP.out Ob.stab ?_)
    refine AtP.inBlock Ob.stab (AtP.inLoop Ob.stab (AtP.seq Ob.stab (AtP.into Ob.stab ?_)))
    -- the close
    refine AtP.shut (o := r46_12[0]) (bc := bc) Ob.stab hk46 rfl rfl rfl rfl hcc rfl ?_
    have Oc := ok2 (PB := fun b => PB b ∨ b = tb) (s := (s.take V).next) (o1 := .cells (chArr (s.take V).cs N) 107) (o2 := .cells (gaArr (s.take V).vs N) 24) hch' hga'
    show AtP ver N Fin (s.take V).next (fun b => PB b ∨ b = tb) (And1 (And1 (FB2 (fun b => PB b ∨ b = tb) (s.take V).next) ch (.cells (chArr (s.take V).cs N) 107)) ga (.cells (gaArr (s.take V).vs N) 24)) (G ((base 46).at (aL2 ver N ch ga (s.cur + 1) (s.cur) x6 x15 x16 x17 x18 x19 x20 x21 x22 x23 x24 x25 (.chan (some c)) V (.bool true) (.pointer (some ⟨ch, s.cur, none⟩)) (.chan (some c)) (.chan (some c)) (.tuple #[.slice none 0 0, .bool false]) (.bool true) V (.slice (some ⟨ga, 0, none⟩) s.cur N) V (.slice (some ⟨tb, 0, none⟩) 1 1) (.slice (some ⟨ga, 0, none⟩) (s.cur + 1) N) y42) (.inRegion r46_12 [1] :: _)) _)
    refine AtP.pures (l := [1]) (rest := []) (a' := (aL2 ver N ch ga (s.cur + 1) (s.cur) x6 x15 x16 x17 x18 x19 x20 x21 x22 x23 x24 x25 (.chan (some c)) V (.bool true) (.pointer (some ⟨ch, s.cur, none⟩)) (.chan (some c)) (.chan (some c)) (.tuple #[.slice none 0 0, .bool false]) (.bool false) V (.slice (some ⟨ga, 0, none⟩) s.cur N) V (.slice (some ⟨tb, 0, none⟩) 1 1) (.slice (some ⟨ga, 0, none⟩) (s.cur + 1) N) y42)) Oc.stab hk46 rfl (AtP.out Oc.stab ?_)
    refine AtP.seq Oc.stab (AtP.cond (t := false) Oc.stab rfl ?_)
    refine AtP.exit (k' := .inBlock 3 :: .code (.region 15 r46_15 false) :: .inLoop L2 :: .inBlock 2 :: k) Oc.stab rfl (AtP.inBlock Oc.stab ?_)
    refine AtP.region (a' := (aL2 ver N ch ga (s.cur + 1) (IntKind.i64.wrap ((s.cur : Int) + 1)) x6 x15 x16 x17 x18 x19 x20 x21 x22 x23 x24 x25 (.chan (some c)) V (.bool true) (.pointer (some ⟨ch, s.cur, none⟩)) (.chan (some c)) (.chan (some c)) (.tuple #[.slice none 0 0, .bool false]) (.bool false) V (.slice (some ⟨ga, 0, none⟩) s.cur N) V (.slice (some ⟨tb, 0, none⟩) 1 1) (.slice (some ⟨ga, 0, none⟩) (s.cur + 1) N) (.int .i64 (IntKind.i64.wrap ((s.cur : Int) + 1))))) Oc.stab hk46 rfl (AtP.inLoop Oc.stab ?_)
    rw [wrap_nat (by omega)]
    have hcur : (s.take V).next.cur = s.cur + 1 := rfl
    exact ih (s.take V).next (fun b => PB b ∨ b = tb) _ _ _ _ _ _ _ _ _ _ _ _ _ _ _ _ _ _ _ _ _ _ _ _ _ _ (by rw [hcur]; omega) hcs rfl (by show (s.vs ++ [V]).length = s.cur + 1; simp [hvs]) hch' hga'
end
end Go.Proofs.Ytlndinigbppafaa

/-
  proofs: the whole.
-/
namespace Go.Proofs.Ytlndinigbppafaa
open Go.Sim Go.Conc

/-- proofs stands at its return: what it has gathered. -/
def FinP (N : Nat) (cs : List Frame) (s : St) (PB : Nat → Prop) (g : Goroutine) (w : World) : Prop :=
  s.vs.length = N ∧ s.cs.length = N ∧ ∃ ga a, g = G { (base 46).at a [.code .ret] with mode := .returning } cs ∧ a.defers = [] ∧ a.tmps.getD 4 undef = .slice (some ⟨ga, 0, none⟩) N N ∧ PB ga ∧ w.heap[ga]? = some (.cells s.vs.toArray 24)

def s0 : St := ⟨[], 0, false, []⟩
theorem rd_s0 {b : Nat} : ¬ s0.rd b := by rintro ⟨p, hp, _⟩; cases hp

section
variable {ver : Value} {N : Nat} {Fin : St → (Nat → Prop) → Goroutine → World → Prop} {cs : List Frame} {ch ga : Nat}

/-- Behind the second loop. -/
theorem tail46 {s : St} {PB : Nat → Prop} {F : World → Prop} {a : Act} (hS : Stab PB s F) (h1 : s.vs.length = N) (h2 : s.cs.length = N) (h3 : s.cur = N) (h4 : s.got = false) (hga : PB ga) (hd : a.defers = []) (hsz : a.tmps.size = 44) (h7 : a.tmps.getD 7 undef = .slice (some ⟨ga, 0, none⟩) N N)
    (hF : ∀ w, F w → w.heap[ga]? = some (.cells (gaArr s.vs N) 24)) : AtP ver N (FinP N cs) s PB F (G ((base 46).at a [.code (.seq (.region 16 r46_16 false) .ret)]) cs) := by
  refine AtP.seq hS (AtP.region (a' := (a.put (some 43) (.slice (some ⟨ga, 0, none⟩) N N)).put (some 4) (.slice (some ⟨ga, 0, none⟩) N N)) hS hk46 ?_ (AtP.ret hS ?_))
  · have e : a.eval (.tmp 7) = .slice (some ⟨ga, 0, none⟩) N N := h7
    have e2 : (a.put (some 43) (.slice (some ⟨ga, 0, none⟩) N N)).eval (.tmp 43) = .slice (some ⟨ga, 0, none⟩) N N := by
      simp [Act.put, Act.eval, Array.getD_eq_getD_getElem?, hsz]
    have hr : List.range r46_16.size = [0, 1] := rfl
    rw [hr]
    simp only [pureOps, r46_16]
    simp [pv, e, e2]
  · intro w hw
    refine PS.fin rfl (by omega) h4 fun w₁ hR => ⟨h1, h2, ga, _, rfl, ?_, ?_, hga, ?_⟩
    · simp [Act.put, hd]
    · simp [Act.put, Array.getD_eq_getD_getElem?, hsz]
    · rw [hF w₁ (hS w w₁ hw hR)]
      simp [gaArr, h1]

/-- Between the loops. -/
theorem mid46 {s : St} {PB : Nat → Prop} (hch : PB ch) (hPB : ∀ b, PB b → b = ch) (hN : N < 2 ^ 40) (h1 : s.cs.length = N) (h2 : s.cur = 0) (h3 : s.got = false) (h4 : s.vs = []) (x6 x16 x17 x18 x19 x20 x21 x22 x23 x24 x25 : Value) :
    AtP ver N (FinP N cs) s PB (And1 (FB s) ch (.cells (chArr s.cs N) 107)) (G ((base 46).at (aL1 ver N ch (N : Int) x6 x16 x17 x18 x19 x20 x21 x22 x23 x24 x25) [.code (.seq (.region 7 r46_7 false) (.seq (.seq (.region 8 r46_8 false) (.block 2 (.loop L2))) (.seq (.region 16 r46_16 false) .ret)))]) cs) := by
  have O := ok_ch (s := s) (ob := .cells (chArr s.cs N) 107) hch hPB
  refine AtP.seq O.stab (AtP.into O.stab (AtP.pures (l := [0]) (rest := [1, 2]) (a' := (⟨#[ver, .int .i64 N, undef, undef, .slice none 0 0, .slice (some ⟨ch, 0, none⟩) N N, x6, undef, undef, undef, undef, .int .i64 N, .slice (some ⟨ch, 0, none⟩) N N, .slice (some ⟨ch, 0, none⟩) N N, .int .i64 N, .int .i64 N, x16, x17, x18, x19, x20, x21, x22, x23, x24, x25, .int .i64 N, undef, undef, undef, undef, undef, undef, undef, undef, undef, undef, undef, undef, undef, undef, undef, undef, undef], []⟩ : Act)) O.stab hk46 rfl ?_))
  refine AtP.alloc (o := r46_7[1]) (ob := .cells (Array.replicate N (.slice none 0 0)) 24) (v := fun r => .slice (some ⟨r, 0, none⟩) 0 N) O hk46 rfl rfl (fun w _ => ?_) fun ga n1 m1 => ?_
  · obtain ⟨q1, q2⟩ := makeSlice_run (l := 0) (n := N) Try.und23 Try.zero24 rfl Try.size24 Try.bytes24 (by omega) (by omega) (by omega) w
    exact ⟨run_v q1, fun e he => q2 e (by
      have he' : e ∈ (do pure (Next.value (← Instr.makeSlice 23 (.int .i64 ((0 : Nat) : Int)) (.int .i64 N))) : Sem Next).events Try.prog w #[] := he
      rwa [ev_v q1] at he')⟩
  have hne : ch ≠ ga := fun e => n1 (e ▸ hch)
  have hchP : (fun b => PB b ∨ b = ga) ch := .inl hch
  have hgaP : (fun b => PB b ∨ b = ga) ga := .inr rfl
  have O2 := ok2 (PB := fun b => PB b ∨ b = ga) (s := s) (o1 := .cells (chArr s.cs N) 107) (o2 := .cells (gaArr s.vs N) 24) hchP hgaP
  refine AtP.mono (F := And1 (And1 (FB2 (fun b => PB b ∨ b = ga) s) ch (.cells (chArr s.cs N) 107)) ga (.cells (gaArr s.vs N) 24)) (fun w hw => ⟨⟨fun b hb => ?_, hw.1.2⟩, by rw [h4, gaArr_nil]; exact hw.2⟩) ?_
  · rcases hb with (hb | rfl) | hb
    · rw [hPB b hb]; exact (Array.getElem?_eq_some_iff.1 hw.1.2).1
    · exact (Array.getElem?_eq_some_iff.1 hw.2).1
    · exact hw.1.1 b hb
  show AtP _ _ _ _ _ _ (G ((base 46).at (⟨#[ver, .int .i64 N, undef, undef, .slice none 0 0, .slice (some ⟨ch, 0, none⟩) N N, x6, undef, undef, undef, undef, .int .i64 N, .slice (some ⟨ch, 0, none⟩) N N, .slice (some ⟨ch, 0, none⟩) N N, .int .i64 N, .int .i64 N, x16, x17, x18, x19, x20, x21, x22, x23, x24, x25, .int .i64 N, .slice (some ⟨ga, 0, none⟩) 0 N, undef, undef, undef, undef, undef, undef, undef, undef, undef, undef, undef, undef, undef, undef, undef, undef], []⟩ : Act) _) _)
  refine AtP.pures (l := [2]) (rest := []) (a' := (⟨#[ver, .int .i64 N, undef, undef, .slice none 0 0, .slice (some ⟨ch, 0, none⟩) N N, x6, .slice (some ⟨ga, 0, none⟩) 0 N, undef, undef, undef, .int .i64 N, .slice (some ⟨ch, 0, none⟩) N N, .slice (some ⟨ch, 0, none⟩) N N, .int .i64 N, .int .i64 N, x16, x17, x18, x19, x20, x21, x22, x23, x24, x25, .int .i64 N, .slice (some ⟨ga, 0, none⟩) 0 N, undef, undef, undef, undef, undef, undef, undef, undef, undef, undef, undef, undef, undef, undef, undef, undef], []⟩ : Act)) O2.stab hk46 rfl (AtP.out O2.stab ?_)
  refine AtP.seq O2.stab (AtP.seq O2.stab (AtP.into O2.stab (AtP.pures (l := [0]) (rest := [1, 2]) (a' := (⟨#[ver, .int .i64 N, undef, undef, .slice none 0 0, .slice (some ⟨ch, 0, none⟩) N N, x6, .slice (some ⟨ga, 0, none⟩) 0 N, undef, undef, undef, .int .i64 N, .slice (some ⟨ch, 0, none⟩) N N, .slice (some ⟨ch, 0, none⟩) N N, .int .i64 N, .int .i64 N, x16, x17, x18, x19, x20, x21, x22, x23, x24, x25, .int .i64 N, .slice (some ⟨ga, 0, none⟩) 0 N, .slice (some ⟨ch, 0, none⟩) N N, undef, undef, undef, undef, undef, undef, undef, undef, undef, undef, undef, undef, undef, undef, undef], []⟩ : Act)) O2.stab hk46 rfl ?_)))
  refine AtP.val (o := r46_8[1]) (v := .int .i64 N) O2.stab hk46 rfl rfl (fun w => len_run rfl rfl w) ?_
  show AtP _ _ _ _ _ _ (G ((base 46).at (⟨#[ver, .int .i64 N, undef, undef, .slice none 0 0, .slice (some ⟨ch, 0, none⟩) N N, x6, .slice (some ⟨ga, 0, none⟩) 0 N, undef, undef, undef, .int .i64 N, .slice (some ⟨ch, 0, none⟩) N N, .slice (some ⟨ch, 0, none⟩) N N, .int .i64 N, .int .i64 N, x16, x17, x18, x19, x20, x21, x22, x23, x24, x25, .int .i64 N, .slice (some ⟨ga, 0, none⟩) 0 N, .slice (some ⟨ch, 0, none⟩) N N, .int .i64 N, undef, undef, undef, undef, undef, undef, undef, undef, undef, undef, undef, undef, undef, undef], []⟩ : Act) _) _)
  refine AtP.pures (l := [2]) (rest := []) (a' := aL2 ver N ch ga 0 0 x6 (.int .i64 N) x16 x17 x18 x19 x20 x21 x22 x23 x24 x25 undef undef undef undef undef undef undef undef undef undef undef undef undef undef) O2.stab hk46 rfl (AtP.out O2.stab ?_)
  refine AtP.block O2.stab (AtP.loop O2.stab ?_)
  have L := loop2 (ver := ver) (Fin := FinP N cs) (k := [.code (.seq (.region 16 r46_16 false) .ret)]) (cs := cs) hne hN (fun s PB x6 x15 x16 x17 x18 x19 x20 x21 x22 x23 x24 x25 y9 y10 y31 y32 y33 y34 y35 y36 y37 y38 y39 y40 y41 y42 q1 q2 q3 q4 q5 q6 => tail46 (ok2 (s := s) q5 q6).stab q4 q1 q2 q3 q6 rfl rfl rfl fun w hw => hw.2) N s (fun b => PB b ∨ b = ga) x6 (.int .i64 N) x16 x17 x18 x19 x20 x21 x22 x23 x24 x25 undef undef undef undef undef undef undef undef undef undef undef undef undef undef (by omega) h1 h3 (by rw [h4, h2]; rfl) hchP hgaP
  rw [h2] at L
  exact L

/-- ████ PROOFS ████ -/
theorem proofs_at (hver : ver.cells = #[ver]) (hN : N < 2 ^ 40) :
    AtP ver N (FinP N cs) s0 (fun _ => False) (fun _ => True) (G ((base 46).at (⟨#[ver, .int .i64 N, undef, undef, undef, undef, undef, undef, undef, undef, undef, undef, undef, undef, undef, undef, undef, undef, undef, undef, undef, undef, undef, undef, undef, undef, undef, undef, undef, undef, undef, undef, undef, undef, undef, undef, undef, undef, undef, undef, undef, undef, undef, undef], []⟩ : Act) [.code c46]) cs) := by
  have O : Ok (fun _ => False) s0 (fun _ => True) := ⟨fun _ _ _ _ => trivial, fun _ _ _ hb => (hb.elim False.elim fun q => rd_s0 q).elim⟩
  refine AtP.seq O.stab (AtP.region (a' := (⟨#[ver, .int .i64 N, undef, undef, .slice none 0 0, undef, undef, undef, undef, undef, undef, undef, undef, undef, undef, undef, undef, undef, undef, undef, undef, undef, undef, undef, undef, undef, undef, undef, undef, undef, undef, undef, undef, undef, undef, undef, undef, undef, undef, undef, undef, undef, undef, undef], []⟩ : Act)) O.stab hk46 rfl ?_)
  refine AtP.seq O.stab (AtP.into O.stab (AtP.pures (l := [0]) (rest := [1, 2]) (a' := (⟨#[ver, .int .i64 N, undef, undef, .slice none 0 0, undef, undef, undef, undef, undef, undef, .int .i64 N, undef, undef, undef, undef, undef, undef, undef, undef, undef, undef, undef, undef, undef, undef, undef, undef, undef, undef, undef, undef, undef, undef, undef, undef, undef, undef, undef, undef, undef, undef, undef, undef], []⟩ : Act)) O.stab hk46 rfl ?_))
  refine AtP.alloc (o := r46_1[1]) (ob := .cells (Array.replicate N (.chan none)) 107) (v := fun r => .slice (some ⟨r, 0, none⟩) N N) O hk46 rfl rfl (fun w _ => ?_) fun ch n1 m1 => ?_
  · obtain ⟨q1, q2⟩ := makeSlice_run (l := N) (n := N) Try.und106 Try.zero107 rfl Try.size107 Try.bytes107 (Nat.le_refl _) (by omega) (by omega) w
    exact ⟨run_v q1, fun e he => q2 e (by
      have he' : e ∈ (do pure (Next.value (← Instr.makeSlice 106 (.int .i64 N) (.int .i64 N))) : Sem Next).events Try.prog w #[] := he
      rwa [ev_v q1] at he')⟩
  have hch : (fun b => False ∨ b = ch) ch := .inr rfl
  have hPB : ∀ b, (fun b => False ∨ b = ch) b → b = ch := fun b hb => hb.elim False.elim id
  have O1 := ok_ch (PB := fun b => False ∨ b = ch) (s := s0) (ob := .cells (chArr s0.cs N) 107) hch hPB
  refine AtP.mono (F := And1 (FB s0) ch (.cells (chArr s0.cs N) 107)) (fun w hw => ⟨fun b hb => absurd hb rd_s0, by rw [show s0.cs = [] from rfl, chArr_nil]; exact hw.2⟩) ?_
  show AtP _ _ _ _ _ _ (G ((base 46).at (⟨#[ver, .int .i64 N, undef, undef, .slice none 0 0, undef, undef, undef, undef, undef, undef, .int .i64 N, .slice (some ⟨ch, 0, none⟩) N N, undef, undef, undef, undef, undef, undef, undef, undef, undef, undef, undef, undef, undef, undef, undef, undef, undef, undef, undef, undef, undef, undef, undef, undef, undef, undef, undef, undef, undef, undef, undef], []⟩ : Act) _) _)
  refine AtP.pures (l := [2]) (rest := []) (a' := (⟨#[ver, .int .i64 N, undef, undef, .slice none 0 0, .slice (some ⟨ch, 0, none⟩) N N, undef, undef, undef, undef, undef, .int .i64 N, .slice (some ⟨ch, 0, none⟩) N N, undef, undef, undef, undef, undef, undef, undef, undef, undef, undef, undef, undef, undef, undef, undef, undef, undef, undef, undef, undef, undef, undef, undef, undef, undef, undef, undef, undef, undef, undef, undef], []⟩ : Act)) O1.stab hk46 rfl (AtP.out O1.stab ?_)
  refine AtP.seq O1.stab (AtP.seq O1.stab (AtP.into O1.stab (AtP.pures (l := [0]) (rest := [1, 2]) (a' := (⟨#[ver, .int .i64 N, undef, undef, .slice none 0 0, .slice (some ⟨ch, 0, none⟩) N N, undef, undef, undef, undef, undef, .int .i64 N, .slice (some ⟨ch, 0, none⟩) N N, .slice (some ⟨ch, 0, none⟩) N N, undef, undef, undef, undef, undef, undef, undef, undef, undef, undef, undef, undef, undef, undef, undef, undef, undef, undef, undef, undef, undef, undef, undef, undef, undef, undef, undef, undef, undef, undef], []⟩ : Act)) O1.stab hk46 rfl ?_)))
  refine AtP.val (o := r46_2[1]) (v := .int .i64 N) O1.stab hk46 rfl rfl (fun w => len_run rfl rfl w) ?_
  show AtP _ _ _ _ _ _ (G ((base 46).at (⟨#[ver, .int .i64 N, undef, undef, .slice none 0 0, .slice (some ⟨ch, 0, none⟩) N N, undef, undef, undef, undef, undef, .int .i64 N, .slice (some ⟨ch, 0, none⟩) N N, .slice (some ⟨ch, 0, none⟩) N N, .int .i64 N, undef, undef, undef, undef, undef, undef, undef, undef, undef, undef, undef, undef, undef, undef, undef, undef, undef, undef, undef, undef, undef, undef, undef, undef, undef, undef, undef, undef, undef], []⟩ : Act) _) _)
  refine AtP.pures (l := [2]) (rest := []) (a' := aL1 ver N ch 0 undef undef undef undef undef undef undef undef undef undef undef) O1.stab hk46 rfl (AtP.out O1.stab ?_)
  refine AtP.block O1.stab (AtP.loop O1.stab ?_)
  exact loop1 hch hPB hver hN (fun s x6 x16 x17 x18 x19 x20 x21 x22 x23 x24 x25 q1 q2 q3 q4 _ => mid46 hch hPB hN q1 q2 q3 q4 x6 x16 x17 x18 x19 x20 x21 x22 x23 x24 x25) N s0 undef undef undef undef undef undef undef undef undef undef undef (by show 0 + N = N; omega) rfl rfl rfl rd_s0
end
end Go.Proofs.Ytlndinigbppafaa
