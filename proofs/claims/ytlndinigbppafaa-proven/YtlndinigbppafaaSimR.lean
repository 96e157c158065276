/-
  A frame some of whose slots hold what lies outside the simulation (slices that came in from elsewhere, addresses of their elements), which are only measured and read: the checks, and its steps on the rest.
-/
import Derived.Test.YtlndinigbppafaaJ41
namespace Go.Sim
open Go.Conc (G)
variable {P : Program} {Shd : Nat → Prop} {R : BR}

/-- The operands of an operation that is borne. -/
def opnds : Op → List Operand
  | .move x | .assign x | .box _ x | .load _ x | .nilCheck x | .unOp _ _ x | .convert _ _ x | .makeInterface _ x | .field _ x _ | .fieldAddr _ x _ | .extract x _ | .panic x => [x]
  | .pick a b c => [a, b, c]
  | .build _ parts => parts.toList.map (·.2)
  | .buildSlice _ _ parts => parts.toList.map (·.2)
  | .store _ a x => [a, x]
  | .binOp _ _ x y _ => [x, y]
  | .makeFunc _ a b => a.toList ++ b.toList
  | .slice _ x lo hi mx => x :: (lo.toList ++ (hi.toList ++ mx.toList))
  | .indexAddr _ x i | .index _ x i => [x, i]
  | .makeSlice _ l c => [l, c]
  | .call c => c.args.toList ++ (match c.callee with | .value f => [f] | .invoke r _ => [r] | .builtin _ => [])
  | _ => []

theorem amap_congr {α β : Type} {f g : α → β} {l : Array α} (h : ∀ x ∈ l.toList, f x = g x) : l.map f = l.map g := by
  apply Array.ext'
  simp only [Array.toList_map]
  exact List.map_congr_left h
theorem omap_congr {α β : Type} {f g : α → β} {l : Option α} (h : ∀ x ∈ l.toList, f x = g x) : l.map f = l.map g := by
  cases l with
  | none => rfl
  | some x => simp only [Option.map_some, Option.some.injEq]; exact h x (by simp)

theorem execOp_congr {f g : Operand → Value} (o : Oper) (ho : OpOK P o.op) (h : ∀ x ∈ opnds o.op, f x = g x) : execOp f o = execOp g o := by
  unfold execOp
  cases hop : o.op with
  | build t parts =>
    rw [hop] at h
    have : (parts.map fun (i, x) => (i, f x)) = parts.map fun (i, x) => (i, g x) := amap_congr fun p hp => by
      have := h p.2 (List.mem_map.2 ⟨p, hp, rfl⟩)
      simp only [this]
    dsimp only
    rw [this]
  | buildSlice t n parts =>
    rw [hop] at h
    have : (parts.map fun (i, x) => (i, f x)) = parts.map fun (i, x) => (i, g x) := amap_congr fun p hp => by
      have := h p.2 (List.mem_map.2 ⟨p, hp, rfl⟩)
      simp only [this]
    dsimp only
    rw [this]
  | makeFunc fn a b =>
    rw [hop] at h
    have e1 : a.map f = a.map g := amap_congr fun x hx => h x (List.mem_append_left _ hx)
    have e2 : b.map f = b.map g := amap_congr fun x hx => h x (List.mem_append_right _ hx)
    dsimp only
    rw [e1, e2]
  | slice t x lo hi mx =>
    rw [hop] at h
    have e0 := h x (List.mem_cons_self ..)
    have e1 : lo.map f = lo.map g := omap_congr fun y hy => h y (List.mem_cons_of_mem _ (List.mem_append_left _ hy))
    have e2 : hi.map f = hi.map g := omap_congr fun y hy => h y (List.mem_cons_of_mem _ (List.mem_append_right _ (List.mem_append_left _ hy)))
    have e3 : mx.map f = mx.map g := omap_congr fun y hy => h y (List.mem_cons_of_mem _ (List.mem_append_right _ (List.mem_append_right _ hy)))
    dsimp only
    rw [e0, e1, e2, e3]
  | call c =>
    rw [hop] at h
    have e1 : c.args.map f = c.args.map g := amap_congr fun x hx => h x (List.mem_append_left _ hx)
    dsimp only
    have e2 : resolve f c o.type = resolve g c o.type := by
      unfold resolve
      rw [e1]
      cases hc : c.callee with
      | builtin b => rfl
      | value fv => have := h fv (List.mem_append_right _ (by rw [hc]; exact List.mem_singleton.2 rfl)); simp only [this]
      | invoke r n => have := h r (List.mem_append_right _ (by rw [hc]; exact List.mem_singleton.2 rfl)); simp only [this]
    rw [e2]
  | move x => rw [hop] at h; simp only [h x (by simp [opnds])]
  | assign x => rw [hop] at h; simp only [h x (by simp [opnds])]
  | pick c a b => rw [hop] at h; simp only [h c (by simp [opnds]), h a (by simp [opnds]), h b (by simp [opnds])]
  | alloc t => rfl
  | box t x => rw [hop] at h; simp only [h x (by simp [opnds])]
  | load t x => rw [hop] at h; simp only [h x (by simp [opnds])]
  | store t a x => rw [hop] at h; simp only [h x (by simp [opnds]), h a (by simp [opnds])]
  | nilCheck x => rw [hop] at h; simp only [h x (by simp [opnds])]
  | binOp op t x y ty => rw [hop] at h; simp only [h x (by simp [opnds]), h y (by simp [opnds])]
  | unOp op t x => rw [hop] at h; simp only [h x (by simp [opnds])]
  | convert a b x => rw [hop] at h; simp only [h x (by simp [opnds])]
  | makeInterface t x => rw [hop] at h; simp only [h x (by simp [opnds])]
  | makeSlice t l c => rw [hop] at h; simp only [h l (by simp [opnds]), h c (by simp [opnds])]
  | fieldAddr s x i => rw [hop] at h; simp only [h x (by simp [opnds])]
  | field t x i => rw [hop] at h; simp only [h x (by simp [opnds])]
  | indexAddr t x i => rw [hop] at h; simp only [h x (by simp [opnds]), h i (by simp [opnds])]
  | index t x i => rw [hop] at h; simp only [h x (by simp [opnds]), h i (by simp [opnds])]
  | extract x i => rw [hop] at h; simp only [h x (by simp [opnds])]
  | panic x => rw [hop] at h; simp only [h x (by simp [opnds])]
  | _ => rw [hop] at ho; all_goals exact ho.elim

/-- 0: a slot as any other; 1: it may hold a slice from elsewhere; 2: the address of an element of one. -/
abbrev Rl := Nat → Nat
def rolesOf (m1 m2 : List Nat) : Rl := fun i => if m1.contains i then 1 else if m2.contains i then 2 else 0
def pOpd (rl : Rl) : Operand → Bool
  | .tmp t => rl t == 0
  | _ => true
def pDst (rl : Rl) : Option Tmp → Bool
  | some d => rl d == 0
  | none => true
def plainO (rl : Rl) (o : Oper) : Bool := (opnds o.op).all (pOpd rl) && pDst rl o.dst
def oneB (P : Program) (t : TypeId) : Bool := match P.underlying t with
  | some (.slice e) => (match P.info? e with | some i => i.size == 1 | none => false)
  | _ => false
def scalB (P : Program) (t : TypeId) : Bool := match P.underlying t with
  | some .string | some (.int _) => true
  | _ => false
def dstIs (rl : Rl) (n : Nat) : Option Tmp → Bool
  | some d => rl d == n
  | none => false
/-- An operation on such slots. -/
inductive SpcO (P : Program) (rl : Rl) (o : Oper) : Prop
  | copy (x : Tmp) : (o.op = .move (.tmp x) ∨ o.op = .assign (.tmp x)) → rl x = 1 → dstIs rl 1 o.dst = true → SpcO P rl o
  | len (x : Tmp) (t : TypeId) : o.op = .call { callee := .builtin .len, args := #[.tmp x], argTypes := #[t] } → rl x = 1 → (∃ e, P.underlying t = some (.slice e)) → pDst rl o.dst = true → SpcO P rl o
  | adr (t : TypeId) (x : Tmp) (y : Operand) : o.op = .indexAddr t (.tmp x) y → rl x = 1 → pOpd rl y = true → OperandOK P y → oneB P t = true → dstIs rl 2 o.dst = true → SpcO P rl o
  | get (t : TypeId) (x : Tmp) : o.op = .load t (.tmp x) → rl x = 2 → scalB P t = true → pDst rl o.dst = true → SpcO P rl o
def guardOK (rl : Rl) (ops : Array Oper) (o : Oper) : Bool := match o.guard with
  | none => true
  | some (j, _) => pDst rl ((ops[j]?).bind (·.dst))
def OpsR (P : Program) (rl : Rl) (ops : Array Oper) : Prop := ∀ o ∈ ops, guardOK rl ops o = true ∧ (plainO rl o = true ∨ SpcO P rl o)
def CodeR (P : Program) (rl : Rl) : Code → Prop
  | .region _ ops _ => OpsR P rl ops
  | .seq a b => CodeR P rl a ∧ CodeR P rl b
  | .cond c a b => pOpd rl c = true ∧ CodeR P rl a ∧ CodeR P rl b
  | .block _ c | .loop c | .scope c => CodeR P rl c
  | _ => True
def ItemR (P : Program) (rl : Rl) : Item → Prop
  | .code c => CodeR P rl c
  | .inLoop c => CodeR P rl c
  | .inRegion ops _ => OpsR P rl ops
  | _ => True

/-- The slots, with what lies in those of a role. -/
def ovL (rl : Rl) (sv : Nat → Value) : Nat → List Value → List Value
  | _, [] => []
  | i, v :: l => (if rl i == 0 then v else sv i) :: ovL rl sv (i + 1) l
def ov (rl : Rl) (sv : Nat → Value) (t : Array Value) : Array Value := (ovL rl sv 0 t.toList).toArray
theorem ovL_get (rl : Rl) (sv : Nat → Value) : ∀ (l : List Value) (k i : Nat), (ovL rl sv k l)[i]? = (l[i]?).map fun v => if rl (k + i) == 0 then v else sv (k + i)
  | [], k, i => by simp [ovL]
  | v :: l, k, 0 => by simp [ovL]
  | v :: l, k, i + 1 => by simp only [ovL, List.getElem?_cons_succ]; rw [ovL_get rl sv l (k + 1) i, show k + 1 + i = k + (i + 1) by omega]
theorem ov_get (rl : Rl) (sv : Nat → Value) (t : Array Value) (i : Nat) : (ov rl sv t)[i]? = (t[i]?).map fun v => if rl i == 0 then v else sv i := by
  unfold ov
  rw [List.getElem?_toArray, ovL_get]
  simp
theorem ov_size (rl : Rl) (sv : Nat → Value) (t : Array Value) : (ov rl sv t).size = t.size := by
  have K : ∀ (l : List Value) (k : Nat), (ovL rl sv k l).length = l.length := by
    intro l
    induction l with
    | nil => intro k; rfl
    | cons v l ih => intro k; simp [ovL, ih]
  unfold ov
  simp [K]
theorem ov_getD {rl : Rl} {sv : Nat → Value} {t : Array Value} {i : Nat} (h : rl i = 0) : (ov rl sv t).getD i Go.undef = t.getD i Go.undef := by
  rw [Array.getD_eq_getD_getElem?, Array.getD_eq_getD_getElem?, ov_get]
  cases t[i]? <;> simp [h]
theorem ov_set {rl : Rl} {sv : Nat → Value} {t : Array Value} {d : Nat} {v : Value} (h : rl d = 0) : ov rl sv (t.setIfInBounds d v) = (ov rl sv t).setIfInBounds d v := by
  apply Array.ext_getElem?
  intro i
  rw [ov_get, Array.getElem?_setIfInBounds, Array.getElem?_setIfInBounds, ov_size, ov_get]
  by_cases hi : d = i
  · subst hi
    by_cases hd : d < t.size <;> simp [hd, h]
  · rw [if_neg hi, if_neg hi]
def upd (sv : Nat → Value) (d : Nat) (v : Value) : Nat → Value := fun i => if i = d then v else sv i
theorem ov_upd {rl : Rl} {sv : Nat → Value} {t : Array Value} {d : Nat} {v u : Value} (h : rl d ≠ 0) : ov rl (upd sv d v) (t.setIfInBounds d u) = (ov rl sv t).setIfInBounds d v := by
  apply Array.ext_getElem?
  intro i
  rw [ov_get, Array.getElem?_setIfInBounds, Array.getElem?_setIfInBounds, ov_size, ov_get]
  by_cases hi : d = i
  · subst hi
    by_cases hd : d < t.size <;> simp [hd, h, upd]
  · rw [if_neg hi, if_neg hi]
    simp [upd, Ne.symm hi]

/-- The frame with more to do, and its slots of a role. -/
def _root_.Go.Frame.ex (fr : Frame) (rl : Rl) (sv : Nat → Value) (k : List Item) : Frame := { fr with tmps := ov rl sv fr.tmps, todo := fr.todo ++ k }
theorem ex_eval {fr : Frame} {rl : Rl} {sv : Nat → Value} {k : List Item} {x : Operand} (h : pOpd rl x = true) : (fr.ex rl sv k).eval x = fr.eval x := by
  cases x with
  | tmp t => exact ov_getD (by simpa [pOpd] using h)
  | _ => rfl
theorem ex_finish {fr : Frame} {rl : Rl} {sv : Nat → Value} {k : List Item} {ops : Array Oper} {i : Nat} {rest : List Nat} {l : List Item} (hd : fr.todo = .inRegion ops (i :: rest) :: l) (hp : pDst rl ((ops[i]?).bind (·.dst)) = true) (v : Value) : (fr.ex rl sv k).finish v = (fr.finish v).ex rl sv k := by
  unfold Frame.finish Frame.ex
  simp only [hd, List.cons_append]
  cases hx : (ops[i]?).bind (·.dst) with
  | none => rfl
  | some d =>
    rw [hx] at hp
    dsimp only
    rw [ov_set (by simpa [pDst] using hp)]
theorem ex_finish2 {fr : Frame} {rl : Rl} {sv : Nat → Value} {k : List Item} {ops : Array Oper} {i : Nat} {rest : List Nat} {l : List Item} (hd : fr.todo = .inRegion ops (i :: rest) :: l) {d : Nat} (hx : (ops[i]?).bind (·.dst) = some d) (hr : rl d ≠ 0) (v : Value) : (fr.ex rl sv k).finish v = (fr.finish Go.undef).ex rl (upd sv d v) k := by
  unfold Frame.finish Frame.ex
  simp only [hd, List.cons_append, hx]
  rw [ov_upd hr]
theorem wanted_ex {rl : Rl} {sv : Nat → Value} {ops : Array Oper} {o : Oper} {t : Array Value} (h : guardOK rl ops o = true) : Region.wanted o (yielded ops (ov rl sv t)) = Region.wanted o (yielded ops t) := by
  unfold guardOK at h
  unfold Region.wanted
  cases hg : o.guard with
  | none => rfl
  | some p =>
    obtain ⟨j, b⟩ := p
    rw [hg] at h
    dsimp only at h ⊢
    have : yielded ops (ov rl sv t) j = yielded ops t j := by
      unfold yielded
      cases hd : (ops[j]?).bind (·.dst) with
      | none => rfl
      | some d =>
        rw [hd] at h
        have h0 : rl d = 0 := by simpa [pDst] using h
        simp only [Option.bind_some]
        rw [ov_get]
        cases t[d]? <;> simp [h0]
    rw [this]
theorem ex_nil (fr : Frame) (sv : Nat → Value) : fr.ex (fun _ => 0) sv [] = fr := by
  have : ov (fun _ => 0) sv fr.tmps = fr.tmps := by
    apply Array.ext_getElem?
    intro i
    rw [ov_get]
    cases fr.tmps[i]? <;> simp
  cases fr
  simp only [Frame.ex, List.append_nil] at this ⊢
  rw [this]
end Go.Sim
