/-
  Texts of ours, joined: SimR, SimS, SimU, SimV, CanQ, CanR, CanS, CanT, CanU, Sm, SumW, Wire.
-/
import Derived.Test.YtlndinigbppafaaJ39
import Derived.WalkKit
import Derived.Test.YtlndinigbppafaaRows
import Derived.WalkSpells
import Derived.WalkLawsBesides
import Derived.Laws.AppendOwnNone
import Derived.Deep.AppendLies
import Derived.Deep.RegionHeld3
/-
  A frame some of whose slots hold what lies outside the simulation (slices that came in from elsewhere, addresses of their elements), which are only measured and read: the checks, and its steps on the rest.
-/
namespace Go.Sim
open Go.Conc (G)
variable {P : Program} {Shd : Nat → Prop} {R : BR}

/-- The operands of an operation that is borne. -/
def opnds : Op → List Operand
  | .move x | .assign x | .box _ x | .load _ x | .nilCheck x | .unOp _ _ x | .convert _ _ x | .makeInterface _ x | .field _ x _ | .fieldAddr _ x _ | .extract x _ | .panic x => [x]
  | .pick a b c => [a, b, c]
  | .build _ parts => parts.toList.map (·.2)
  | .buildSlice _ _ parts => parts.toList.map (·.2)
  | .store _ a x => [a, x]
  | .binOp _ _ x y _ => [x, y]
  | .makeFunc _ a b => a.toList ++ b.toList
  | .slice _ x lo hi mx => x :: (lo.toList ++ (hi.toList ++ mx.toList))
  | .indexAddr _ x i | .index _ x i => [x, i]
  | .makeSlice _ l c => [l, c]
  | .call c => c.args.toList ++ (match c.callee with | .value f => [f] | .invoke r _ => [r] | .builtin _ => [])
  | _ => []

theorem amap_congr {α β : Type} {f g : α → β} {l : Array α} (h : ∀ x ∈ l.toList, f x = g x) : l.map f = l.map g := by
  apply Array.ext'
  simp only [Array.toList_map]
  exact List.map_congr_left h
theorem omap_congr {α β : Type} {f g : α → β} {l : Option α} (h : ∀ x ∈ l.toList, f x = g x) : l.map f = l.map g := by
  cases l with
  | none => rfl
  | some x => simp only [Option.map_some, Option.some.injEq]; exact h x (by simp)

theorem execOp_congr {f g : Operand → Value} (o : Oper) (ho : OpOK P o.op) (h : ∀ x ∈ opnds o.op, f x = g x) : execOp f o = execOp g o := by
  unfold execOp
  cases hop : o.op with
  | build t parts =>
    rw [hop] at h
    have : (parts.map fun (i, x) => (i, f x)) = parts.map fun (i, x) => (i, g x) := amap_congr fun p hp => by
      have := h p.2 (List.mem_map.2 ⟨p, hp, rfl⟩)
      simp only [this]
    dsimp only
    rw [this]
  | buildSlice t n parts =>
    rw [hop] at h
    have : (parts.map fun (i, x) => (i, f x)) = parts.map fun (i, x) => (i, g x) := amap_congr fun p hp => by
      have := h p.2 (List.mem_map.2 ⟨p, hp, rfl⟩)
      simp only [this]
    dsimp only
    rw [this]
  | makeFunc fn a b =>
    rw [hop] at h
    have e1 : a.map f = a.map g := amap_congr fun x hx => h x (List.mem_append_left _ hx)
    have e2 : b.map f = b.map g := amap_congr fun x hx => h x (List.mem_append_right _ hx)
    dsimp only
    rw [e1, e2]
  | slice t x lo hi mx =>
    rw [hop] at h
    have e0 := h x (List.mem_cons_self ..)
    have e1 : lo.map f = lo.map g := omap_congr fun y hy => h y (List.mem_cons_of_mem _ (List.mem_append_left _ hy))
    have e2 : hi.map f = hi.map g := omap_congr fun y hy => h y (List.mem_cons_of_mem _ (List.mem_append_right _ (List.mem_append_left _ hy)))
    have e3 : mx.map f = mx.map g := omap_congr fun y hy => h y (List.mem_cons_of_mem _ (List.mem_append_right _ (List.mem_append_right _ hy)))
    dsimp only
    rw [e0, e1, e2, e3]
  | call c =>
    rw [hop] at h
    have e1 : c.args.map f = c.args.map g := amap_congr fun x hx => h x (List.mem_append_left _ hx)
    dsimp only
    have e2 : resolve f c o.type = resolve g c o.type := by
      unfold resolve
      rw [e1]
      cases hc : c.callee with
      | builtin b => rfl
      | value fv => have := h fv (List.mem_append_right _ (by rw [hc]; exact List.mem_singleton.2 rfl)); simp only [this]
      | invoke r n => have := h r (List.mem_append_right _ (by rw [hc]; exact List.mem_singleton.2 rfl)); simp only [this]
    rw [e2]
  | move x => rw [hop] at h; simp only [h x (by simp [opnds])]
  | assign x => rw [hop] at h; simp only [h x (by simp [opnds])]
  | pick c a b => rw [hop] at h; simp only [h c (by simp [opnds]), h a (by simp [opnds]), h b (by simp [opnds])]
  | alloc t => rfl
  | box t x => rw [hop] at h; simp only [h x (by simp [opnds])]
  | load t x => rw [hop] at h; simp only [h x (by simp [opnds])]
  | store t a x => rw [hop] at h; simp only [h x (by simp [opnds]), h a (by simp [opnds])]
  | nilCheck x => rw [hop] at h; simp only [h x (by simp [opnds])]
  | binOp op t x y ty => rw [hop] at h; simp only [h x (by simp [opnds]), h y (by simp [opnds])]
  | unOp op t x => rw [hop] at h; simp only [h x (by simp [opnds])]
  | convert a b x => rw [hop] at h; simp only [h x (by simp [opnds])]
  | makeInterface t x => rw [hop] at h; simp only [h x (by simp [opnds])]
  | makeSlice t l c => rw [hop] at h; simp only [h l (by simp [opnds]), h c (by simp [opnds])]
  | fieldAddr s x i => rw [hop] at h; simp only [h x (by simp [opnds])]
  | field t x i => rw [hop] at h; simp only [h x (by simp [opnds])]
  | indexAddr t x i => rw [hop] at h; simp only [h x (by simp [opnds]), h i (by simp [opnds])]
  | index t x i => rw [hop] at h; simp only [h x (by simp [opnds]), h i (by simp [opnds])]
  | extract x i => rw [hop] at h; simp only [h x (by simp [opnds])]
  | panic x => rw [hop] at h; simp only [h x (by simp [opnds])]
  | _ => rw [hop] at ho; all_goals exact ho.elim

/-- 0: a slot as any other; 1: it may hold a slice from elsewhere; 2: the address of an element of one. -/
abbrev Rl := Nat → Nat
def rolesOf (m1 m2 : List Nat) : Rl := fun i => if m1.contains i then 1 else if m2.contains i then 2 else 0
def pOpd (rl : Rl) : Operand → Bool
  | .tmp t => rl t == 0
  | _ => true
def pDst (rl : Rl) : Option Tmp → Bool
  | some d => rl d == 0
  | none => true
def plainO (rl : Rl) (o : Oper) : Bool := (opnds o.op).all (pOpd rl) && pDst rl o.dst
def oneB (P : Program) (t : TypeId) : Bool := match P.underlying t with
  | some (.slice e) => (match P.info? e with | some i => i.size == 1 | none => false)
  | _ => false
def scalB (P : Program) (t : TypeId) : Bool := match P.underlying t with
  | some .string | some (.int _) => true
  | _ => false
def dstIs (rl : Rl) (n : Nat) : Option Tmp → Bool
  | some d => rl d == n
  | none => false
/-- An operation on such slots. -/
inductive SpcO (P : Program) (rl : Rl) (o : Oper) : Prop
  | copy (x : Tmp) : (o.op = .move (.tmp x) ∨ o.op = .assign (.tmp x)) → rl x = 1 → dstIs rl 1 o.dst = true → SpcO P rl o
  | len (x : Tmp) (t : TypeId) : o.op = .call { callee := .builtin .len, args := #[.tmp x], argTypes := #[t] } → rl x = 1 → (∃ e, P.underlying t = some (.slice e)) → pDst rl o.dst = true → SpcO P rl o
  | adr (t : TypeId) (x : Tmp) (y : Operand) : o.op = .indexAddr t (.tmp x) y → rl x = 1 → pOpd rl y = true → OperandOK P y → oneB P t = true → dstIs rl 2 o.dst = true → SpcO P rl o
  | get (t : TypeId) (x : Tmp) : o.op = .load t (.tmp x) → rl x = 2 → scalB P t = true → pDst rl o.dst = true → SpcO P rl o
def guardOK (rl : Rl) (ops : Array Oper) (o : Oper) : Bool := match o.guard with
  | none => true
  | some (j, _) => pDst rl ((ops[j]?).bind (·.dst))
def OpsR (P : Program) (rl : Rl) (ops : Array Oper) : Prop := ∀ o ∈ ops, guardOK rl ops o = true ∧ (plainO rl o = true ∨ SpcO P rl o)
def CodeR (P : Program) (rl : Rl) : Code → Prop
  | .region _ ops _ => OpsR P rl ops
  | .seq a b => CodeR P rl a ∧ CodeR P rl b
  | .cond c a b => pOpd rl c = true ∧ CodeR P rl a ∧ CodeR P rl b
  | .block _ c | .loop c | .scope c => CodeR P rl c
  | _ => True
def ItemR (P : Program) (rl : Rl) : Item → Prop
  | .code c => CodeR P rl c
  | .inLoop c => CodeR P rl c
  | .inRegion ops _ => OpsR P rl ops
  | _ => True

/-- The slots, with what lies in those of a role. -/
def ovL (rl : Rl) (sv : Nat → Value) : Nat → List Value → List Value
  | _, [] => []
  | i, v :: l => (if rl i == 0 then v else sv i) :: ovL rl sv (i + 1) l
def ov (rl : Rl) (sv : Nat → Value) (t : Array Value) : Array Value := (ovL rl sv 0 t.toList).toArray
theorem ovL_get (rl : Rl) (sv : Nat → Value) : ∀ (l : List Value) (k i : Nat), (ovL rl sv k l)[i]? = (l[i]?).map fun v => if rl (k + i) == 0 then v else sv (k + i)
  | [], k, i => by simp [ovL]
  | v :: l, k, 0 => by simp [ovL]
  | v :: l, k, i + 1 => by simp only [ovL, List.getElem?_cons_succ]; rw [ovL_get rl sv l (k + 1) i, show k + 1 + i = k + (i + 1) by omega]
theorem ov_get (rl : Rl) (sv : Nat → Value) (t : Array Value) (i : Nat) : (ov rl sv t)[i]? = (t[i]?).map fun v => if rl i == 0 then v else sv i := by
  unfold ov
  rw [List.getElem?_toArray, ovL_get]
  simp
theorem ov_size (rl : Rl) (sv : Nat → Value) (t : Array Value) : (ov rl sv t).size = t.size := by
  have K : ∀ (l : List Value) (k : Nat), (ovL rl sv k l).length = l.length := by
    intro l
    induction l with
    | nil => intro k; rfl
    | cons v l ih => intro k; simp [ovL, ih]
  unfold ov
  simp [K]
theorem ov_getD {rl : Rl} {sv : Nat → Value} {t : Array Value} {i : Nat} (h : rl i = 0) : (ov rl sv t).getD i Go.undef = t.getD i Go.undef := by
  rw [Array.getD_eq_getD_getElem?, Array.getD_eq_getD_getElem?, ov_get]
  cases t[i]? <;> simp [h]
theorem ov_set {rl : Rl} {sv : Nat → Value} {t : Array Value} {d : Nat} {v : Value} (h : rl d = 0) : ov rl sv (t.setIfInBounds d v) = (ov rl sv t).setIfInBounds d v := by
  apply Array.ext_getElem?
  intro i
  rw [ov_get, Array.getElem?_setIfInBounds, Array.getElem?_setIfInBounds, ov_size, ov_get]
  by_cases hi : d = i
  · subst hi
    by_cases hd : d < t.size <;> simp [hd, h]
  · rw [if_neg hi, if_neg hi]
def upd (sv : Nat → Value) (d : Nat) (v : Value) : Nat → Value := fun i => if i = d then v else sv i
theorem ov_upd {rl : Rl} {sv : Nat → Value} {t : Array Value} {d : Nat} {v u : Value} (h : rl d ≠ 0) : ov rl (upd sv d v) (t.setIfInBounds d u) = (ov rl sv t).setIfInBounds d v := by
  apply Array.ext_getElem?
  intro i
  rw [ov_get, Array.getElem?_setIfInBounds, Array.getElem?_setIfInBounds, ov_size, ov_get]
  by_cases hi : d = i
  · subst hi
    by_cases hd : d < t.size <;> simp [hd, h, upd]
  · rw [if_neg hi, if_neg hi]
    simp [upd, Ne.symm hi]

/-- The frame with more to do, and its slots of a role. -/
def _root_.Go.Frame.ex (fr : Frame) (rl : Rl) (sv : Nat → Value) (k : List Item) : Frame := { fr with tmps := ov rl sv fr.tmps, todo := fr.todo ++ k }
theorem ex_eval {fr : Frame} {rl : Rl} {sv : Nat → Value} {k : List Item} {x : Operand} (h : pOpd rl x = true) : (fr.ex rl sv k).eval x = fr.eval x := by
  cases x with
  | tmp t => exact ov_getD (by simpa [pOpd] using h)
  | _ => rfl
theorem ex_finish {fr : Frame} {rl : Rl} {sv : Nat → Value} {k : List Item} {ops : Array Oper} {i : Nat} {rest : List Nat} {l : List Item} (hd : fr.todo = .inRegion ops (i :: rest) :: l) (hp : pDst rl ((ops[i]?).bind (·.dst)) = true) (v : Value) : (fr.ex rl sv k).finish v = (fr.finish v).ex rl sv k := by
  unfold Frame.finish Frame.ex
  simp only [hd, List.cons_append]
  cases hx : (ops[i]?).bind (·.dst) with
  | none => rfl
  | some d =>
    rw [hx] at hp
    dsimp only
    rw [ov_set (by simpa [pDst] using hp)]
theorem ex_finish2 {fr : Frame} {rl : Rl} {sv : Nat → Value} {k : List Item} {ops : Array Oper} {i : Nat} {rest : List Nat} {l : List Item} (hd : fr.todo = .inRegion ops (i :: rest) :: l) {d : Nat} (hx : (ops[i]?).bind (·.dst) = some d) (hr : rl d ≠ 0) (v : Value) : (fr.ex rl sv k).finish v = (fr.finish Go.undef).ex rl (upd sv d v) k := by
  unfold Frame.finish Frame.ex
  simp only [hd, List.cons_append, hx]
  rw [ov_upd hr]
theorem wanted_ex {rl : Rl} {sv : Nat → Value} {ops : Array Oper} {o : Oper} {t : Array Value} (h : guardOK rl ops o = true) : Region.wanted o (yielded ops (ov rl sv t)) = Region.wanted o (yielded ops t) := by
  unfold guardOK at h
  unfold Region.wanted
  cases hg : o.guard with
  | none => rfl
  | some p =>
    obtain ⟨j, b⟩ := p
    rw [hg] at h
    dsimp only at h ⊢
    have : yielded ops (ov rl sv t) j = yielded ops t j := by
      unfold yielded
      cases hd : (ops[j]?).bind (·.dst) with
      | none => rfl
      | some d =>
        rw [hd] at h
        have h0 : rl d = 0 := by simpa [pDst] using h
        simp only [Option.bind_some]
        rw [ov_get]
        cases t[d]? <;> simp [h0]
    rw [this]
theorem ex_nil (fr : Frame) (sv : Nat → Value) : fr.ex (fun _ => 0) sv [] = fr := by
  have : ov (fun _ => 0) sv fr.tmps = fr.tmps := by
    apply Array.ext_getElem?
    intro i
    rw [ov_get]
    cases fr.tmps[i]? <;> simp
  cases fr
  simp only [Frame.ex, List.append_nil] at this ⊢
  rw [this]
end Go.Sim

/-
  An own step of such a frame on its other slots: the same step.
-/
namespace Go.Sim
open Go.Conc (G)
variable {P : Program} {Shd : Nat → Prop} {R : BR}

/-- The operation that stands ahead touches no slot of a role. -/
def PlainAt (rl : Rl) (fr : Frame) : Prop := ∀ ops i rest l o, fr.todo = .inRegion ops (i :: rest) :: l → ops[i]? = some o → plainO rl o = true

theorem plainO_opd {rl : Rl} {o : Oper} (h : plainO rl o = true) : ∀ x ∈ opnds o.op, pOpd rl x = true := by
  unfold plainO at h
  rw [Bool.and_eq_true, List.all_eq_true] at h
  exact h.1
theorem plainO_dst {rl : Rl} {o : Oper} (h : plainO rl o = true) : pDst rl o.dst = true := by
  unfold plainO at h
  rw [Bool.and_eq_true] at h
  exact h.2

/-- An own step, and what there is to do behind it. -/
theorem own_ex (hS : ∀ b, ¬ Shd b) (hZ : ZeroOK P) {fr Fr fr' : Frame} {cs cs1 : List Frame} {w W w' : World} {es : Array Event} {main : Bool} (rl : Rl) (h : FR P R fr Fr) (hw : WR P Shd R w W) (ht : ∀ j q, w.tape (w.drawn + j) q = W.tape (W.drawn + j) q)
    (hm : fr.mode = .run) (hne : fr.todo ≠ []) (hit : ∀ it ∈ fr.todo, ItemR P rl it) (hpl : PlainAt rl fr) (e : stepG P main (G fr cs) w = .go (G fr' cs1) w' es) (hp : ∀ ch, fr'.mode ≠ .panicking ch) :
    (cs1 = cs ∧ (∀ it ∈ fr'.todo, ItemR P rl it) ∧ ∀ sv k cs2 main, stepG P main (G (fr.ex rl sv k) cs2) w = .go (G (fr'.ex rl sv k) cs2) w' es) ∨
    (cs1 = fr :: cs ∧ (∃ ops i rest l, fr.todo = .inRegion ops (i :: rest) :: l ∧ pDst rl ((ops[i]?).bind (·.dst)) = true) ∧ ∀ sv k cs2 main, stepG P main (G (fr.ex rl sv k) cs2) w = .go (G fr' (fr.ex rl sv k :: cs2)) w' es) := by
  have same : ∀ (l : List Item), (∀ it ∈ l, ItemR P rl it) → stepG P main (G fr cs) w = .go (G { fr with todo := l } cs) w → (∀ sv k cs2 main, stepG P main (G (fr.ex rl sv k) cs2) w = .go (G { fr.ex rl sv k with todo := l ++ k } cs2) w) →
      (cs1 = cs ∧ (∀ it ∈ fr'.todo, ItemR P rl it) ∧ ∀ sv k cs2 main, stepG P main (G (fr.ex rl sv k) cs2) w = .go (G (fr'.ex rl sv k) cs2) w' es) ∨
      (cs1 = fr :: cs ∧ (∃ ops i rest l, fr.todo = .inRegion ops (i :: rest) :: l ∧ pDst rl ((ops[i]?).bind (·.dst)) = true) ∧ ∀ sv k cs2 main, stepG P main (G (fr.ex rl sv k) cs2) w = .go (G fr' (fr.ex rl sv k :: cs2)) w' es) := by
    intro l hl e1 e2
    rw [e1] at e
    obtain ⟨rfl, rfl, rfl, rfl⟩ := G_eq e
    exact .inl ⟨rfl, hl, fun sv k cs2 main => by rw [e2]; rfl⟩
  have hi := h.items
  have hM : ∀ sv k, (fr.ex rl sv k).mode = .run := fun _ _ => hm
  have hR : ∀ sv k, (fr.ex rl sv k).roundOf = none := fun _ _ => h.round
  have hK : ∀ sv k, (fr.ex rl sv k).kind = .normal := fun _ _ => h.kind
  have hfn : ∀ sv k, (fr.ex rl sv k).fn = fr.fn := fun _ _ => rfl
  cases hd : fr.todo with
  | nil => exact absurd hd hne
  | cons it l =>
    have hD : ∀ sv k, (fr.ex rl sv k).todo = it :: (l ++ k) := fun sv k => by simp [Frame.ex, hd]
    rw [hd] at hi
    have hit' := hit
    rw [hd] at hit'
    have h0 := hi it (List.mem_cons_self ..)
    have r0 := hit' it (List.mem_cons_self ..)
    have rl' : ∀ x ∈ l, ItemR P rl x := fun x hx => hit' x (List.mem_cons_of_mem _ hx)
    have cons : ∀ {a : Item} {l : List Item}, ItemR P rl a → (∀ x ∈ l, ItemR P rl x) → ∀ x ∈ a :: l, ItemR P rl x := by
      intro a l ha hl x hx
      rcases List.mem_cons.1 hx with rfl | hx
      · exact ha
      · exact hl x hx
    rw [← hd]
    cases it with
    | inBlock i => exact same l rl' (by simp [stepG, stepG.exec, G, hm, hd]) fun sv k cs2 main => (by simp [stepG, stepG.exec, G, hM, hD])
    | inScope c => exact same l rl' (by simp [stepG, stepG.exec, G, hm, hd]) fun sv k cs2 main => (by simp [stepG, stepG.exec, G, hM, hD])
    | inLoop c => exact same (.code c :: .inLoop c :: l) (cons r0 (cons r0 rl')) (by simp [stepG, stepG.exec, G, hm, hd]) fun sv k cs2 main => (by simp [stepG, stepG.exec, G, hM, hD])
    | code c =>
      cases c with
      | ret =>
        have e1 : stepG P main (G fr cs) w = .go (G { fr with mode := .returning } cs) w := by simp [stepG, stepG.exec, G, hm, hd, h.round]
        rw [e1] at e
        obtain ⟨rfl, rfl, rfl, rfl⟩ := G_eq e
        refine .inl ⟨rfl, hit, fun sv k cs2 main => ?_⟩
        have e2 : stepG P main (G (fr.ex rl sv k) cs2) w = .go (G { fr.ex rl sv k with mode := .returning } cs2) w := by simp [stepG, stepG.exec, G, hM, hD, hR]
        rw [e2]; rfl
      | skip => exact same l rl' (by simp [stepG, stepG.exec, G, hm, hd]) fun sv k cs2 main => (by simp [stepG, stepG.exec, G, hM, hD])
      | label _ => exact same l rl' (by simp [stepG, stepG.exec, G, hm, hd]) fun sv k cs2 main => (by simp [stepG, stepG.exec, G, hM, hD])
      | seq a b => exact same (.code a :: .code b :: l) (cons r0.1 (cons r0.2 rl')) (by simp [stepG, stepG.exec, G, hm, hd]) fun sv k cs2 main => (by simp [stepG, stepG.exec, G, hM, hD])
      | block i c => exact same (.code c :: .inBlock i :: l) (cons r0 (cons trivial rl')) (by simp [stepG, stepG.exec, G, hm, hd]) fun sv k cs2 main => (by simp [stepG, stepG.exec, G, hM, hD])
      | scope c => exact same (.code c :: .inScope c :: l) (cons r0 (cons trivial rl')) (by simp [stepG, stepG.exec, G, hm, hd]) fun sv k cs2 main => (by simp [stepG, stepG.exec, G, hM, hD])
      | loop c => exact same (.code c :: .inLoop c :: l) (cons r0 (cons r0 rl')) (by simp [stepG, stepG.exec, G, hm, hd]) fun sv k cs2 main => (by simp [stepG, stepG.exec, G, hM, hD])
      | exit i =>
        cases he : exitTo i l with
        | some l' => exact same l' (fun x hx => rl' x (exitTo_mem he x hx)) (by simp [stepG, stepG.exec, G, hm, hd, he]) fun sv k cs2 main => (by simp [stepG, stepG.exec, G, hM, hD, exitTo_more k he])
        | none =>
          have : ∃ o w2, stepG P main (G fr cs) w = .ended o w2 := ⟨_, w, by simp [stepG, stepG.exec, G, hm, hd, he, h.round]; rfl⟩
          obtain ⟨o, w2, q⟩ := this
          rw [q] at e; cases e
      | cond c a b =>
        have hX : ∀ sv k, (fr.ex rl sv k).eval c = fr.eval c := fun sv k => ex_eval r0.1
        generalize hx : fr.eval c = v at hX
        have nope : (∀ t, v ≠ .bool t) → ∃ o w2, stepG P main (G fr cs) w = .ended o w2 := by
          intro hb
          cases v <;> first | exact absurd rfl (hb _) | exact ⟨_, w, by simp [stepG, stepG.exec, G, hm, hd, hx]; rfl⟩
        by_cases hb : ∃ t, v = .bool t
        · obtain ⟨t, rfl⟩ := hb
          exact same (.code (if t then a else b) :: l) (cons (by cases t; exact r0.2.2; exact r0.2.1) rl') (by simp [stepG, stepG.exec, G, hm, hd, hx]) fun sv k cs2 main => (by simp [stepG, stepG.exec, G, hM, hD, hX])
        · obtain ⟨o, w2, q⟩ := nope fun t q => hb ⟨t, q⟩
          rw [q] at e; cases e
      | region i ops draw =>
        cases draw with
        | false => exact same (.inRegion ops (List.range ops.size) :: l) (cons r0 rl') (by simp [stepG, stepG.exec, G, hm, hd]) fun sv k cs2 main => (by simp [stepG, stepG.exec, G, hM, hD])
        | true =>
          have e1 : stepG P main (G fr cs) w = .go (G { fr with todo := .inRegion ops (Region.schedule (P.follows .mixedOrders) ops (w.tape w.drawn (.order fr.fn i))) :: l } cs) { w with drawn := w.drawn + 1 } := by simp [stepG, stepG.exec, G, hm, hd, choose, Sem.run, Question.forced, Question.cut]
          rw [e1] at e
          obtain ⟨rfl, rfl, rfl, rfl⟩ := G_eq e
          refine .inl ⟨rfl, cons r0 rl', fun sv k cs2 main => ?_⟩
          have e2 : stepG P main (G (fr.ex rl sv k) cs2) w = .go (G { fr.ex rl sv k with todo := .inRegion ops (Region.schedule (P.follows .mixedOrders) ops (w.tape w.drawn (.order fr.fn i))) :: (l ++ k) } cs2) { w with drawn := w.drawn + 1 } := by
            simp [stepG, stepG.exec, G, hM, hD, hfn, choose, Sem.run, Question.forced, Question.cut]
          rw [e2]; rfl
      | _ => exact h0.elim
    | inRegion ops todo =>
      cases todo with
      | nil => exact same l rl' (by simp [stepG, stepG.exec, G, hm, hd]) fun sv k cs2 main => (by simp [stepG, stepG.exec, G, hM, hD])
      | cons i rest =>
        have hfi : ∀ v, ∀ it ∈ (fr.finish v).todo, ItemR P rl it := by
          intro v
          have : (fr.finish v).todo = .inRegion ops rest :: l := by simp [Frame.finish, hd]
          rw [this]
          exact cons r0 rl'
        cases hwt : ((ops[i]?).map (Region.wanted · (yielded ops fr.tmps))).getD false with
        | false =>
          have e1 : stepG P main (G fr cs) w = .go (G (fr.finish Go.undef) cs) w := by simp [stepG, stepG.exec, G, hm, hd, hwt]
          rw [e1] at e
          obtain ⟨rfl, rfl, rfl, rfl⟩ := G_eq e
          have hdst : pDst rl ((ops[i]?).bind (·.dst)) = true := by
            cases ho : ops[i]? with
            | none => rfl
            | some o => exact plainO_dst (hpl ops i rest l o hd ho)
          have hwT : ∀ sv k, ((ops[i]?).map (Region.wanted · (yielded ops (fr.ex rl sv k).tmps))).getD false = false := fun sv k => by
            cases ho : ops[i]? with
            | none => rfl
            | some o =>
              rw [ho] at hwt
              show Region.wanted o (yielded ops (ov rl sv fr.tmps)) = false
              rw [wanted_ex (r0 o (Array.mem_of_getElem? ho)).1]
              exact hwt
          refine .inl ⟨rfl, hfi _, fun sv k cs2 main => ?_⟩
          rw [← ex_finish hd hdst]
          simp [stepG, stepG.exec, G, hM, hD, hwT]
        | true =>
          cases ho : ops[i]? with
          | none => rw [ho] at hwt; cases hwt
          | some o =>
            have hwo : Region.wanted o (yielded ops fr.tmps) = true := by rw [ho] at hwt; exact hwt
            have hmem : o ∈ ops := Array.mem_of_getElem? ho
            have hpo := hpl ops i rest l o hd ho
            have hdst : pDst rl ((ops[i]?).bind (·.dst)) = true := by rw [ho]; exact plainO_dst hpo
            have hwT : ∀ sv k, ((ops[i]?).map (Region.wanted · (yielded ops (fr.ex rl sv k).tmps))).getD false = true := fun sv k => by
              rw [ho]
              show Region.wanted o (yielded ops (ov rl sv fr.tmps)) = true
              rw [wanted_ex (r0 o hmem).1]
              exact hwo
            have hop : OpOK P o.op := h0 o hmem
            have er : fr.oper? = some o := by simp [Frame.oper?, hd, ho]
            have eR : ∀ sv k, (fr.ex rl sv k).oper? = some o := fun sv k => by simp [Frame.oper?, hD, ho]
            have hev : ∀ sv k, execOp (fr.ex rl sv k).eval o = execOp fr.eval o := fun sv k => execOp_congr o hop fun x hx => ex_eval (plainO_opd hpo x hx)
            have hsm := sim_execOp (Shd := Shd) hS hZ (f := fr.eval) (g := Fr.eval) (fun x hx => h.eval x hx) (fun _ => rfl) (fun _ => rfl) o hop w W hw ht
            have dead : ∀ {o2 : Outcome} {w2 : World} {es2 : Array Event}, stepG P main (G fr cs) w ≠ .ended o2 w2 es2 := fun q => by rw [q] at e; cases e
            cases hr : (execOp fr.eval o).run P w with
            | halt x w1 =>
              have hx := hsm.1 _ _ hr
              cases x with
              | panic v =>
                have e1 : stepG P main (G fr cs) w = .go (G (fr.raise [{ v, recovered := false }]) cs) w1 (seen P fr.fn ((execOp fr.eval o).events P w #[])) := by simp [stepG, stepG.exec, G, hm, hd, hwt, stepG.oper, er, h.round, stepG.apply, hr, h.kind, GStep.after]
                rw [e1] at e
                obtain ⟨rfl, rfl, rfl, rfl⟩ := G_eq e
                obtain ⟨ch, hc⟩ := raise_mode fr [{ v, recovered := false }]
                exact absurd hc (hp ch)
              | stuck t => exact (dead (w2 := w1) (es2 := seen P fr.fn ((execOp fr.eval o).events P w #[])) (by simp [stepG, stepG.exec, G, hm, hd, hwt, stepG.oper, er, h.round, stepG.apply, hr, h.kind, GStep.after]; rfl)).elim
              | unsupported u =>
                cases u with
                | initOrder _ => exact hx.elim
                | _ => exact (dead (w2 := w1) (es2 := seen P fr.fn ((execOp fr.eval o).events P w #[])) (by simp [stepG, stepG.exec, G, hm, hd, hwt, stepG.oper, er, h.round, stepG.apply, hr, h.kind, GStep.after]; rfl)).elim
              | _ => exact hx.elim
            | ok a w1 =>
              obtain ⟨R', b, W', -, q, -⟩ := hsm.2 _ _ hr
              cases q with
              | value hv =>
                rename_i v V
                have e1 : stepG P main (G fr cs) w = .go (G (fr.finish v) cs) w1 (seen P fr.fn ((execOp fr.eval o).events P w #[])) := by simp [stepG, stepG.exec, G, hm, hd, hwt, stepG.oper, er, h.round, stepG.apply, hr, h.kind, GStep.after]
                rw [e1] at e
                obtain ⟨rfl, rfl, rfl, rfl⟩ := G_eq e
                refine .inl ⟨rfl, hfi v, fun sv k cs2 main => ?_⟩
                rw [← ex_finish hd hdst]
                simp [stepG, stepG.exec, G, hM, hD, hwT, stepG.oper, eR, hR, stepG.apply, hev, hfn, hr, hK, GStep.after]
              | skip =>
                have e1 : stepG P main (G fr cs) w = .go (G (fr.finish Go.undef) cs) w1 (seen P fr.fn ((execOp fr.eval o).events P w #[])) := by simp [stepG, stepG.exec, G, hm, hd, hwt, stepG.oper, er, h.round, stepG.apply, hr, h.kind, GStep.after]
                rw [e1] at e
                obtain ⟨rfl, rfl, rfl, rfl⟩ := G_eq e
                refine .inl ⟨rfl, hfi _, fun sv k cs2 main => ?_⟩
                rw [← ex_finish hd hdst]
                simp [stepG, stepG.exec, G, hM, hD, hwT, stepG.oper, eR, hR, stepG.apply, hev, hfn, hr, hK, GStep.after]
              | enter f hf hv =>
                rename_i x X
                have e1 : stepG P main (G fr cs) w = .go (G (Frame.enter P f x .normal) (fr :: cs)) w1 (seen P fr.fn ((execOp fr.eval o).events P w #[])) := by simp [stepG, stepG.exec, G, hm, hd, hwt, stepG.oper, er, h.round, stepG.apply, hr, h.kind, GStep.after]
                rw [e1] at e
                obtain ⟨rfl, rfl, rfl, rfl⟩ := G_eq e
                refine .inr ⟨rfl, ⟨ops, i, rest, l, hd, hdst⟩, fun sv k cs2 main => ?_⟩
                simp [stepG, stepG.exec, G, hM, hD, hwT, stepG.oper, eR, hR, stepG.apply, hev, hfn, hr, hK, GStep.after]
    | _ => exact h0.elim
end Go.Sim

/-
  A lone run up to a stop, told step by step, for any kind of states whose steps are known.
-/
namespace Go.Sim
open Go.Conc (G)
variable {P : Program}

/-- A kind of lone states, each of which that may go on makes a step to one of them, or fails. -/
structure RelA (P : Program) (Nx : Frame → List Frame → Prop) (Rl : Frame → List Frame → World → Prop) : Prop where
  tp : ∀ {fr : Frame} {cs : List Frame} {w : World}, Rl fr cs w → ∀ τ, Rl fr cs (w.tp τ)
  bad : ∀ {fr : Frame} {cs : List Frame} {w : World}, Rl fr cs w → ∀ c ∈ cs, c.defers = [] ∧ ∃ f, P.funcs[c.fn]? = some f
  step : ∀ {fr : Frame} {cs : List Frame} {w : World}, Rl fr cs w → Nx fr cs →
    (∃ fr' cs' w', (stepG P true (G fr (cs ++ [c0 P])) w).bare = .go (G fr' (cs' ++ [c0 P])) w' ∧ Rl fr' cs' w' ∧ w'.tape = w.tape ∧ w.drawn ≤ w'.drawn ∧
      ∀ τ, (∀ j q, w.drawn ≤ j → j < w'.drawn → τ j q = w.tape j q) → (stepG P true (G fr (cs ++ [c0 P])) (w.tp τ)).bare = .go (G fr' (cs' ++ [c0 P])) (w'.tp τ)) ∨
    Fails P (c0 P) cs (stepG P true (G fr (cs ++ [c0 P])) w)

/-- Behind its return the lone run never stands as it stood. -/
theorem fin_over' {fr fr' : Frame} {w w' : World} {fn : Func} (hd : fr.defers = []) (hk : fr.kind = .normal) (hf : P.funcs[fr.fn]? = some fn) (hm : fr.mode = .returning) : ∀ n, runN P (n + 1) (lone fr [c0 P] w) ≠ .next (lone fr' [c0 P] w') := by
  intro n e
  cases hr : (results fn fr.tmps).run P w with
  | halt x w1 =>
    have hs : ∃ o w2, step P (lone fr [c0 P] w) = .ended o w2 := by
      cases x with
      | stuck t => exact ⟨_, w1, step_lone_ended (by simp [stepG, hm, unwind, hd, hf, hr]; rfl)⟩
      | _ => exact ⟨_, w1, step_lone_ended (by simp [stepG, hm, unwind, hd, hf, hr]; rfl)⟩
    obtain ⟨o, w2, hs⟩ := hs
    rw [runN, hs] at e
    cases e
  | ok v w1 =>
  have hs : step P (lone fr [c0 P] w) = .next (lone ((c0 P).finish v) [] w1) := step_lone_go (by simp [stepG, hm, unwind, hd, hf, hr, doReturn, hk])
  rw [runN, hs] at e
  cases n with
  | zero =>
    simp only [runN, Stepped.next.injEq] at e
    obtain ⟨_, x, _⟩ := lone_inj e
    cases x
  | succ n =>
    have hdoor : Extern.next "fmt's door" = none := by
      have := noDoor
      cases hx : Extern.next "fmt's door" with
      | none => rfl
      | some y => rw [hx] at this; cases this
    have hs2 : ∃ o w2, step P (lone ((c0 P).finish v) [] w1) = .ended o w2 := by
      exact ⟨_, w1, step_lone_ended (by simp [c0, Frame.finish, stepG, stepG.exec, hdoor]; rfl)⟩
    obtain ⟨o, w2, hs2⟩ := hs2
    simp only [runN, hs2] at e
    cases e

/-- The run comes to a stop, told step by step. -/
def EndsX (P : Program) (Nx : Frame → List Frame → Prop) (St : Frame → List Frame → World → Prop) : Nat → Frame → List Frame → World → Prop
  | 0, fr, cs, w => St fr cs w
  | n + 1, fr, cs, w => St fr cs w ∨ (Nx fr cs ∧ ∃ fr' cs' w', (stepG P true (G fr (cs ++ [c0 P])) w).bare = .go (G fr' (cs' ++ [c0 P])) w' ∧ EndsX P Nx St n fr' cs' w')

theorem endsX_bad {Nx : Frame → List Frame → Prop} {St : Frame → List Frame → World → Prop} (hSt : ∀ fr cs w ch, St fr cs w → fr.mode ≠ .panicking ch) : ∀ (n : Nat) {fr : Frame} {cs : List Frame} {w : World}, Bad (P := P) fr cs → ¬ EndsX P Nx St n fr cs w
  | 0, fr, cs, w, hb, h => by
    obtain ⟨ch, hm⟩ := hb.mode
    exact hSt _ _ _ _ h hm
  | n + 1, fr, cs, w, hb, h => by
    obtain ⟨ch, hm⟩ := hb.mode
    obtain ⟨f, hf⟩ := hb.func
    have hc : fr.catches P = false := by unfold Frame.catches; simp [hf]
    rcases h with h | ⟨_, fr', cs', w', e, h⟩
    · exact hSt _ _ _ _ h hm
    cases cs with
    | cons c cs =>
      have hs : (stepG P true (G fr (c :: cs ++ [c0 P])) w).bare = .go (G (c.raise ch) (cs ++ [c0 P])) w := by simp [stepG, G, hm, unwind, hb.defers, hc]
      rw [hs] at e
      obtain ⟨rfl, rfl, rfl⟩ := G_inj e
      have hcc := hb.callers c (List.mem_cons_self ..)
      exact endsX_bad hSt n ⟨raise_mode _ _, by rw [raise_defers]; exact hcc.1, by rw [raise_fn]; exact hcc.2, fun x hx => hb.callers x (List.mem_cons_of_mem _ hx)⟩ h
    | nil =>
      have hs : (stepG P true (G fr ([] ++ [c0 P])) w).bare = .go (G ((c0 P).raise ch) []) w := by simp [stepG, G, hm, unwind, hb.defers, hc]
      rw [hs] at e
      simp only [GStep.go.injEq, G, Goroutine.mk.injEq] at e
      have := e.1.2.1
      simp at this

/-- Whatever the tape answers, step by step: the run comes to the stop. -/
inductive RunX (P : Program) (Nx : Frame → List Frame → Prop) (St : Frame → List Frame → World → Prop) : Frame → List Frame → World → Prop
  | fin {fr : Frame} {cs : List Frame} {w : World} : St fr cs w → RunX P Nx St fr cs w
  | step {fr : Frame} {cs : List Frame} {w : World} : ¬ St fr cs w → Nx fr cs →
      (∀ τ, ∃ fr' cs' w', (stepG P true (G fr (cs ++ [c0 P])) (w.tp τ)).bare = .go (G fr' (cs' ++ [c0 P])) w') →
      (∀ τ fr' cs' w', (stepG P true (G fr (cs ++ [c0 P])) (w.tp τ)).bare = .go (G fr' (cs' ++ [c0 P])) w' → RunX P Nx St fr' cs' w') → RunX P Nx St fr cs w

theorem runX_bad {Nx : Frame → List Frame → Prop} {St : Frame → List Frame → World → Prop} (hSt : ∀ fr cs w ch, St fr cs w → fr.mode ≠ .panicking ch) {fr : Frame} {cs : List Frame} {w : World} (h : RunX P Nx St fr cs w) : ¬ Bad (P := P) fr cs := by
  induction h with
  | fin hf =>
    intro hb
    obtain ⟨ch, hm⟩ := hb.mode
    exact hSt _ _ _ _ hf hm
  | @step fr cs w _ hn hex hst ih =>
    intro hb
    obtain ⟨ch, hm⟩ := hb.mode
    obtain ⟨f, hf⟩ := hb.func
    have hc : fr.catches P = false := by unfold Frame.catches; simp [hf]
    cases cs with
    | cons c cs =>
      have hs : (stepG P true (G fr (c :: cs ++ [c0 P])) (w.tp w.tape)).bare = .go (G (c.raise ch) (cs ++ [c0 P])) (w.tp w.tape) := by simp [stepG, G, hm, unwind, hb.defers, hc]
      have hcc := hb.callers c (List.mem_cons_self ..)
      exact ih w.tape _ _ _ hs ⟨raise_mode _ _, by rw [raise_defers]; exact hcc.1, by rw [raise_fn]; exact hcc.2, fun x hx => hb.callers x (List.mem_cons_of_mem _ hx)⟩
    | nil =>
      obtain ⟨fr', cs', w', e⟩ := hex w.tape
      have hs : (stepG P true (G fr ([] ++ [c0 P])) (w.tp w.tape)).bare = .go (G ((c0 P).raise ch) []) (w.tp w.tape) := by simp [stepG, G, hm, unwind, hb.defers, hc]
      rw [hs] at e
      simp only [GStep.go.injEq, G, Goroutine.mk.injEq] at e
      have := e.1.2.1
      simp at this

section

theorem endsX_step {Nx : Frame → List Frame → Prop} {Rl : Frame → List Frame → World → Prop} (A : RelA P Nx Rl) {St : Frame → List Frame → World → Prop} (hSt : ∀ fr cs w ch, St fr cs w → fr.mode ≠ .panicking ch) {n : Nat} {fr : Frame} {cs : List Frame} {w : World} (hr : Rl fr cs w) (hn : ¬ St fr cs w) (h : EndsX P Nx St n fr cs w) :
    ∃ m fr' cs' w', n = m + 1 ∧ Nx fr cs ∧ (stepG P true (G fr (cs ++ [c0 P])) w).bare = .go (G fr' (cs' ++ [c0 P])) w' ∧ EndsX P Nx St m fr' cs' w' ∧ Rl fr' cs' w' ∧ w'.tape = w.tape ∧ w.drawn ≤ w'.drawn ∧
      ∀ τ, (∀ j q, w.drawn ≤ j → j < w'.drawn → τ j q = w.tape j q) → (stepG P true (G fr (cs ++ [c0 P])) (w.tp τ)).bare = .go (G fr' (cs' ++ [c0 P])) (w'.tp τ) := by
  cases n with
  | zero => exact absurd h hn
  | succ n =>
    rcases h with h | ⟨hf, fr', cs', w', e, h⟩
    · exact absurd h hn
    rcases A.step hr hf with ⟨fr1, cs1, w1, e1, r1, x1, x2, tp⟩ | hfl
    · rw [e1] at e
      obtain ⟨rfl, rfl, rfl⟩ := G_inj e
      exact ⟨n, _, _, _, rfl, hf, e1, h, r1, x1, x2, tp⟩
    · exfalso
      have hbad := A.bad hr
      rcases hfl with ⟨fr1, w1, hs, hp, hd, hfn⟩ | ⟨o, w1, hs⟩
      · rw [hs] at e
        obtain ⟨rfl, rfl, rfl⟩ := G_inj e
        exact endsX_bad hSt n ⟨hp, hd, hfn, hbad⟩ h
      · rw [hs] at e; cases e

theorem endsX_tape {Nx : Frame → List Frame → Prop} {Rl : Frame → List Frame → World → Prop} (A : RelA P Nx Rl) {St : Frame → List Frame → World → Prop} (hSt : ∀ fr cs w ch, St fr cs w → fr.mode ≠ .panicking ch) (hF : ∀ fr cs w τ, St fr cs w → St fr cs (w.tp τ)) : ∀ (n : Nat) {fr : Frame} {cs : List Frame} {w : World}, Rl fr cs w → EndsX P Nx St n fr cs w →
    ∀ τ, (∀ j q, w.drawn ≤ j → τ j q = w.tape j q) → EndsX P Nx St n fr cs (w.tp τ)
  | 0, fr, cs, w, _, h, τ, _ => hF _ _ _ _ h
  | n + 1, fr, cs, w, hr, h, τ, hτ => by
    by_cases hn : St fr cs w
    · exact .inl (hF _ _ _ _ hn)
    · obtain ⟨m, fr', cs', w', em, hf, e, h', r', x1, x2, tp⟩ := endsX_step A hSt hr hn h
      cases em
      refine .inr ⟨hf, fr', cs', _, tp τ fun j q h1 _ => hτ j q h1, endsX_tape A hSt hF n r' h' τ fun j q h1 => ?_⟩
      rw [x1]; exact hτ j q (Nat.le_trans x2 h1)

theorem goodX_step {Nx : Frame → List Frame → Prop} {Rl : Frame → List Frame → World → Prop} (A : RelA P Nx Rl) {St : Frame → List Frame → World → Prop} (hSt : ∀ fr cs w ch, St fr cs w → fr.mode ≠ .panicking ch) (hF : ∀ fr cs w τ, St fr cs w → St fr cs (w.tp τ)) {fr : Frame} {cs : List Frame} {w : World} (hr : Rl fr cs w) (hn : ¬ St fr cs w) (h : ∀ τ, ∃ n, EndsX P Nx St n fr cs (w.tp τ)) (τ : Nat → Question → Nat) :
    ∃ fr' cs' w', Nx fr cs ∧ (stepG P true (G fr (cs ++ [c0 P])) (w.tp τ)).bare = .go (G fr' (cs' ++ [c0 P])) w' ∧ (∀ τ, ∃ n, EndsX P Nx St n fr' cs' (w'.tp τ)) ∧ Rl fr' cs' w' ∧ w'.tape = τ ∧ w.drawn ≤ w'.drawn ∧
      ∀ τ2, (∀ j q, w.drawn ≤ j → j < w'.drawn → τ2 j q = τ j q) → (stepG P true (G fr (cs ++ [c0 P])) (w.tp τ2)).bare = .go (G fr' (cs' ++ [c0 P])) (w'.tp τ2) := by
  have hn' : ∀ τ, ¬ St fr cs (w.tp τ) := fun τ q => hn (by have := hF _ _ _ w.tape q; exact this)
  obtain ⟨n, hE⟩ := h τ
  obtain ⟨m, fr', cs', w', em, hf, e, h', r', x1, x2, tp⟩ := endsX_step A hSt (A.tp hr τ) (hn' τ) hE
  refine ⟨fr', cs', w', hf, e, fun τ3 => ?_, r', x1, x2, fun τ2 h2 => tp τ2 h2⟩
  obtain ⟨n2, hE2⟩ := h (fun j q => if j < w'.drawn then τ j q else τ3 j q)
  obtain ⟨m2, fr2, cs2, w2, em2, _, e2, h2, r2, y1, y2, tp2⟩ := endsX_step A hSt (A.tp hr _) (hn' _) hE2
  have e3 := tp (fun j q => if j < w'.drawn then τ j q else τ3 j q) (fun j q h1 h2 => by rw [if_pos h2]; rfl)
  have : (w.tp τ).tp (fun j q => if j < w'.drawn then τ j q else τ3 j q) = w.tp (fun j q => if j < w'.drawn then τ j q else τ3 j q) := rfl
  rw [this, e2] at e3
  obtain ⟨rfl, rfl, rfl⟩ := G_inj e3
  refine ⟨m2, ?_⟩
  have := endsX_tape A hSt hF m2 r2 h2 τ3 fun j q h1 => ?_
  · exact this
  · have h1' : w'.drawn ≤ j := h1
    show τ3 j q = if j < w'.drawn then τ j q else τ3 j q
    rw [if_neg (by omega)]

theorem runX_of_good {Nx : Frame → List Frame → Prop} {Rl : Frame → List Frame → World → Prop} (A : RelA P Nx Rl) {St : Frame → List Frame → World → Prop} (hSt : ∀ fr cs w ch, St fr cs w → fr.mode ≠ .panicking ch) (hF : ∀ fr cs w τ, St fr cs w → St fr cs (w.tp τ)) {fr : Frame} {cs : List Frame} {w : World} (hr : Rl fr cs w) (h : ∀ τ, ∃ n, EndsX P Nx St n fr cs (w.tp τ)) : RunX P Nx St fr cs w := by
  apply Classical.byContradiction
  intro hnot
  let S := { σ : Frame × List Frame × World // Rl σ.1 σ.2.1 σ.2.2 ∧ (∀ τ, ∃ n, EndsX P Nx St n σ.1 σ.2.1 (σ.2.2.tp τ)) ∧ ¬ RunX P Nx St σ.1 σ.2.1 σ.2.2 }
  have nofin : ∀ σ : S, ¬ St σ.1.1 σ.1.2.1 σ.1.2.2 := fun σ hf => σ.2.2.2 (.fin hf)
  have nx : ∀ σ : S, ∃ (τ : Nat → Question → Nat) (σ' : S), σ.1.2.2.drawn ≤ σ'.1.2.2.drawn ∧
      ∀ τ2, (∀ j q, σ.1.2.2.drawn ≤ j → j < σ'.1.2.2.drawn → τ2 j q = τ j q) → (stepG P true (G σ.1.1 (σ.1.2.1 ++ [c0 P])) (σ.1.2.2.tp τ2)).bare = .go (G σ'.1.1 (σ'.1.2.1 ++ [c0 P])) (σ'.1.2.2.tp τ2) := by
    intro σ
    have hn := nofin σ
    have : ∃ τ, ∀ fr' cs' w', (stepG P true (G σ.1.1 (σ.1.2.1 ++ [c0 P])) (σ.1.2.2.tp τ)).bare = .go (G fr' (cs' ++ [c0 P])) w' → ¬ RunX P Nx St fr' cs' w' := by
      apply Classical.byContradiction
      intro hc
      have hfin : Nx σ.1.1 σ.1.2.1 := by
        obtain ⟨_, _, _, hf, _⟩ := goodX_step A hSt hF σ.2.1 hn σ.2.2.1 σ.1.2.2.tape
        exact hf
      refine σ.2.2.2 (.step hn hfin (fun τ => ?_) fun τ fr' cs' w' e => ?_)
      · obtain ⟨fr', cs', w', _, e, _⟩ := goodX_step A hSt hF σ.2.1 hn σ.2.2.1 τ
        exact ⟨fr', cs', w', e⟩
      · apply Classical.byContradiction
        intro hc2
        refine hc ⟨τ, fun fr2 cs2 w2 e2 => ?_⟩
        rw [e] at e2
        obtain ⟨rfl, rfl, rfl⟩ := G_inj e2
        exact hc2
    obtain ⟨τ, hτ⟩ := this
    obtain ⟨fr', cs', w', _, e, hg, hr', _, hd, tp⟩ := goodX_step A hSt hF σ.2.1 hn σ.2.2.1 τ
    exact ⟨τ, ⟨(fr', cs', w'), hr', hg, hτ _ _ _ e⟩, hd, tp⟩
  let s0 : S := ⟨(fr, cs, w), hr, h, hnot⟩
  let seq : Nat → S := fun n => Nat.rec s0 (fun _ σ => (nx σ).choose_spec.choose) n
  let ts : Nat → (Nat → Question → Nat) := fun i => (nx (seq i)).choose
  have hseq : ∀ i, (seq i).1.2.2.drawn ≤ (seq (i + 1)).1.2.2.drawn ∧
      ∀ τ2, (∀ j q, (seq i).1.2.2.drawn ≤ j → j < (seq (i + 1)).1.2.2.drawn → τ2 j q = ts i j q) →
        (stepG P true (G (seq i).1.1 ((seq i).1.2.1 ++ [c0 P])) ((seq i).1.2.2.tp τ2)).bare = .go (G (seq (i + 1)).1.1 ((seq (i + 1)).1.2.1 ++ [c0 P])) ((seq (i + 1)).1.2.2.tp τ2) :=
    fun i => (nx (seq i)).choose_spec.choose_spec
  have mono : ∀ i k, (seq i).1.2.2.drawn ≤ (seq (i + k)).1.2.2.drawn := by
    intro i k
    induction k with
    | zero => exact Nat.le_refl _
    | succ k ih => exact Nat.le_trans ih (hseq (i + k)).1
  let D : Nat → Nat := fun i => (seq i).1.2.2.drawn
  let star : Nat → Question → Nat := fun j q => open Classical in if h : ∃ i, D i ≤ j ∧ j < D (i + 1) then ts h.choose j q else 0
  have hstar : ∀ i j q, D i ≤ j → j < D (i + 1) → star j q = ts i j q := by
    intro i j q h1 h2
    have hex : ∃ i, D i ≤ j ∧ j < D (i + 1) := ⟨i, h1, h2⟩
    have hc := hex.choose_spec
    have heq : hex.choose = i := by
      rcases Nat.lt_trichotomy hex.choose i with hlt | heq | hgt
      · have := mono (hex.choose + 1) (i - (hex.choose + 1))
        rw [show hex.choose + 1 + (i - (hex.choose + 1)) = i by omega] at this
        have h3 : D (hex.choose + 1) ≤ D i := this
        omega
      · exact heq
      · have := mono (i + 1) (hex.choose - (i + 1))
        rw [show i + 1 + (hex.choose - (i + 1)) = hex.choose by omega] at this
        have h3 : D (i + 1) ≤ D hex.choose := this
        omega
    have e1 : star j q = ts hex.choose j q := dif_pos hex
    rw [e1, heq]
  have stepS : ∀ i, (stepG P true (G (seq i).1.1 ((seq i).1.2.1 ++ [c0 P])) ((seq i).1.2.2.tp star)).bare = .go (G (seq (i + 1)).1.1 ((seq (i + 1)).1.2.1 ++ [c0 P])) ((seq (i + 1)).1.2.2.tp star) :=
    fun i => (hseq i).2 star fun j q h1 h2 => hstar i j q h1 h2
  have nofin' : ∀ i, ¬ St (seq i).1.1 (seq i).1.2.1 ((seq i).1.2.2.tp star) := fun i q => nofin (seq i) (by have := hF _ _ _ (seq i).1.2.2.tape q; exact this)
  have no : ∀ n i, ¬ EndsX P Nx St n (seq i).1.1 (seq i).1.2.1 ((seq i).1.2.2.tp star) := by
    intro n
    induction n with
    | zero => intro i hE; exact nofin' _ hE
    | succ n ih =>
      intro i hE
      rcases hE with hE | ⟨_, fr', cs', w', e, hE⟩
      · exact nofin' _ hE
      · rw [stepS i] at e
        obtain ⟨rfl, rfl, rfl⟩ := G_inj e
        exact ih (i + 1) hE
  obtain ⟨n, hE⟩ := h star
  exact no n 0 hE

theorem endsX_of_run {Nx : Frame → List Frame → Prop} {Rl : Frame → List Frame → World → Prop} (A : RelA P Nx Rl) {St : Frame → List Frame → World → Prop} (hSt : ∀ fr cs w ch, St fr cs w → fr.mode ≠ .panicking ch) {fr' : Frame} {w' : World} (hF : St fr' [] w') (hNx : ∀ {fr : Frame} {cs : List Frame} {w : World} (n : Nat), Rl fr cs w → runN P (n + 1) (lone fr (cs ++ [c0 P]) w) = .next (lone fr' [c0 P] w') → Nx fr cs) : ∀ (n : Nat) {fr : Frame} {cs : List Frame} {w : World}, Rl fr cs w →
    runN P n (lone fr (cs ++ [c0 P]) w) = .next (lone fr' [c0 P] w') → EndsX P Nx St n fr cs w
  | 0, fr, cs, w, hr, e => by
    simp only [runN, Stepped.next.injEq] at e
    obtain ⟨rfl, hc, rfl⟩ := lone_inj e
    have : cs = [] := List.eq_nil_of_length_eq_zero (by simpa using congrArg List.length hc)
    subst this
    exact hF
  | n + 1, fr, cs, w, hr, e => by
    have hn : Nx fr cs := hNx n hr e
    rcases A.step hr hn with ⟨fr1, cs1, w1, e1, r1, _⟩ | hf
    · have hs := step_lone_go (P := P) (fr := fr) (cs := cs ++ [c0 P]) (w := w) (by exact e1)
      rw [runN, hs] at e
      exact .inr ⟨hn, fr1, cs1, w1, e1, endsX_of_run A hSt hF hNx n r1 e⟩
    · exfalso
      have hbad := A.bad hr
      rcases hf with ⟨fr1, w1, hs, hp, hd, hfn⟩ | ⟨o, w1, hs⟩
      · have := step_lone_go (P := P) (fr := fr) (cs := cs ++ [c0 P]) (w := w) (by exact hs)
        rw [runN, this] at e
        obtain ⟨ch, hm⟩ := bad_run' n ⟨hp, hd, hfn, hbad⟩ e
        exact hSt _ _ _ _ hF hm
      · have := step_lone_ended (P := P) (fr := fr) (cs := cs ++ [c0 P]) (w := w) (by exact hs)
        rw [runN, this] at e
        cases e
end
end Go.Sim

/-
  A step that fails fails with more behind it, and slots from elsewhere, as well.
-/
namespace Go.Sim
open Go.Conc (G)
variable {P : Program} {Shd : Nat → Prop} {R : BR}

theorem pDst_zero (d : Option Tmp) : pDst (fun _ => 0) d = true := by cases d <;> rfl
theorem codeR_zero : ∀ c : Code, CodeR P (fun _ => 0) c := by
  have O : ∀ ops, OpsR P (fun _ => 0) ops := by
    intro ops o ho
    refine ⟨?_, .inl ?_⟩
    · unfold guardOK
      split
      · rfl
      · exact pDst_zero _
    · unfold plainO
      rw [Bool.and_eq_true, List.all_eq_true]
      refine ⟨fun x hx => by cases x <;> rfl, by cases o.dst <;> rfl⟩
  intro c
  induction c with
  | region i ops d => exact O ops
  | seq a b ha hb => exact ⟨ha, hb⟩
  | cond c a b ha hb => exact ⟨by cases c <;> rfl, ha, hb⟩
  | block i c h => exact h
  | loop c h => exact h
  | scope c h => exact h
  | _ => trivial
theorem itemR_zero (it : Item) : ItemR P (fun _ => 0) it := by
  cases it with
  | code c => exact codeR_zero c
  | inLoop c => exact codeR_zero c
  | inRegion ops l => have := codeR_zero (P := P) (.region 0 ops false); exact this
  | _ => trivial
theorem plainAt_zero (fr : Frame) : PlainAt (fun _ => 0) fr := by
  intro ops i rest l o _ _
  unfold plainO
  rw [Bool.and_eq_true, List.all_eq_true]
  exact ⟨fun x hx => by cases x <;> rfl, by cases o.dst <;> rfl⟩

theorem fail_ex (hS : ∀ b, ¬ Shd b) (hZ : ZeroOK P) {fr Fr c0 : Frame} {cs cs2 : List Frame} {w W : World} (rl : Rl) (sv : Nat → Value) (k : List Item) (h : FR P R fr Fr) (hw : WR P Shd R w W) (ht : ∀ j q, w.tape (w.drawn + j) q = W.tape (W.drawn + j) q)
    (hm : fr.mode = .run) (hne : fr.todo ≠ []) (hit : ∀ it ∈ fr.todo, ItemR P rl it) (hpl : PlainAt rl fr) (hk : (∃ i l, fr.todo = .code (.exit i) :: l) → k = []) (e : Fails P c0 cs (stepG P true (G fr (cs ++ [c0])) w)) :
    Fails P c0 cs2 (stepG P true (G (fr.ex rl sv k) (cs2 ++ [c0])) w) := by
  have good : ∀ {fr' : Frame} {cs' : List Frame} {w' : World}, (stepG P true (G fr (cs ++ [c0])) w).bare = .go (G fr' (cs' ++ [c0])) w' → (∀ ch, fr'.mode ≠ .panicking ch) → Fails P c0 cs2 (stepG P true (G (fr.ex rl sv k) (cs2 ++ [c0])) w) := by
    intro fr' cs' w' q hq
    exfalso
    rcases e with ⟨fr1, w1, hs, ⟨ch, hp⟩, _⟩ | ⟨o, w1, hs⟩
    · rw [q] at hs
      obtain ⟨rfl, _, _⟩ := G_inj hs
      exact hq ch hp
    · rw [q] at hs; cases hs
  have run : ∀ {l : List Item}, (stepG P true (G fr (cs ++ [c0])) w).bare = .go (G { fr with todo := l } (cs ++ [c0])) w → Fails P c0 cs2 (stepG P true (G (fr.ex rl sv k) (cs2 ++ [c0])) w) := fun q => good q fun ch hc => by
    have hc' : fr.mode = .panicking ch := hc
    rw [hm] at hc'; cases hc'
  have hi := h.items
  have hM : (fr.ex rl sv k).mode = .run := hm
  have hR : (fr.ex rl sv k).roundOf = none := h.round
  have hK : (fr.ex rl sv k).kind = .normal := h.kind
  have hfn : (fr.ex rl sv k).fn = fr.fn := rfl
  cases hd : fr.todo with
  | nil => exact absurd hd hne
  | cons it l =>
    have hD : (fr.ex rl sv k).todo = it :: (l ++ k) := by simp [Frame.ex, hd]
    rw [hd] at hi
    have r0 := hit it (by rw [hd]; exact List.mem_cons_self ..)
    have h0 := hi it (List.mem_cons_self ..)
    cases it with
    | inBlock i => exact run (l := l) (by simp [stepG, stepG.exec, G, hm, hd])
    | inScope c => exact run (l := l) (by simp [stepG, stepG.exec, G, hm, hd])
    | inLoop c => exact run (l := .code c :: .inLoop c :: l) (by simp [stepG, stepG.exec, G, hm, hd])
    | code c =>
      cases c with
      | ret => exact good (fr' := { fr with mode := .returning }) (cs' := cs) (w' := w) (by simp [stepG, stepG.exec, G, hm, hd, h.round]) fun ch hc => by cases hc
      | skip => exact run (l := l) (by simp [stepG, stepG.exec, G, hm, hd])
      | label _ => exact run (l := l) (by simp [stepG, stepG.exec, G, hm, hd])
      | seq a b => exact run (l := .code a :: .code b :: l) (by simp [stepG, stepG.exec, G, hm, hd])
      | block i c => exact run (l := .code c :: .inBlock i :: l) (by simp [stepG, stepG.exec, G, hm, hd])
      | scope c => exact run (l := .code c :: .inScope c :: l) (by simp [stepG, stepG.exec, G, hm, hd])
      | loop c => exact run (l := .code c :: .inLoop c :: l) (by simp [stepG, stepG.exec, G, hm, hd])
      | exit i =>
        cases he : exitTo i l with
        | some l' => exact run (l := l') (by simp [stepG, stepG.exec, G, hm, hd, he])
        | none =>
          have hkn := hk ⟨i, l, hd⟩
          subst hkn
          rw [List.append_nil] at hD
          exact .inr ⟨_, w, by simp [stepG, stepG.exec, G, hM, hD, he, hR]; rfl⟩
      | cond c a b =>
        have hX : (fr.ex rl sv k).eval c = fr.eval c := ex_eval r0.1
        generalize hx : fr.eval c = v at hX
        by_cases hb : ∃ t, v = .bool t
        · obtain ⟨t, rfl⟩ := hb
          exact run (l := .code (if t then a else b) :: l) (by simp [stepG, stepG.exec, G, hm, hd, hx])
        · have : ∃ o, (stepG P true (G (fr.ex rl sv k) (cs2 ++ [c0])) w).bare = .ended o w := by
            cases v <;> first | exact absurd ⟨_, rfl⟩ hb | exact ⟨_, by simp [stepG, stepG.exec, G, hM, hD, hX]; rfl⟩
          obtain ⟨o, q⟩ := this
          exact .inr ⟨o, w, q⟩
      | region i ops draw =>
        cases draw with
        | false => exact run (l := .inRegion ops (List.range ops.size) :: l) (by simp [stepG, stepG.exec, G, hm, hd])
        | true =>
          exact good (fr' := { fr with todo := .inRegion ops (Region.schedule (P.follows .mixedOrders) ops (w.tape w.drawn (.order fr.fn i))) :: l }) (cs' := cs) (w' := { w with drawn := w.drawn + 1 }) (by simp [stepG, stepG.exec, G, hm, hd, choose, Sem.run, Question.forced, Question.cut]) fun ch hc => by
            have hc' : fr.mode = .panicking ch := hc
            rw [hm] at hc'; cases hc'
      | _ => exact h0.elim
    | inRegion ops todo =>
      have hfm : ∀ v ch, (fr.finish v).mode ≠ .panicking ch := fun v ch hc => by
        have : (fr.finish v).mode = fr.mode := by unfold Frame.finish; split <;> rfl
        rw [this, hm] at hc; cases hc
      cases todo with
      | nil => exact run (l := l) (by simp [stepG, stepG.exec, G, hm, hd])
      | cons i rest =>
        cases hwt : ((ops[i]?).map (Region.wanted · (yielded ops fr.tmps))).getD false with
        | false => exact good (fr' := fr.finish Go.undef) (cs' := cs) (w' := w) (by simp [stepG, stepG.exec, G, hm, hd, hwt]) (hfm _)
        | true =>
          cases ho : ops[i]? with
          | none => rw [ho] at hwt; cases hwt
          | some o =>
            have hwo : Region.wanted o (yielded ops fr.tmps) = true := by rw [ho] at hwt; exact hwt
            have hmem : o ∈ ops := Array.mem_of_getElem? ho
            have hpo := hpl ops i rest l o hd ho
            have hwT : ((ops[i]?).map (Region.wanted · (yielded ops (fr.ex rl sv k).tmps))).getD false = true := by
              rw [ho]
              show Region.wanted o (yielded ops (ov rl sv fr.tmps)) = true
              rw [wanted_ex (r0 o hmem).1]
              exact hwo
            have hop : OpOK P o.op := h0 o hmem
            have er : fr.oper? = some o := by simp [Frame.oper?, hd, ho]
            have eR : (fr.ex rl sv k).oper? = some o := by simp [Frame.oper?, hD, ho]
            have hev : execOp (fr.ex rl sv k).eval o = execOp fr.eval o := execOp_congr o hop fun x hx => ex_eval (plainO_opd hpo x hx)
            have hsm := sim_execOp (Shd := Shd) hS hZ (f := fr.eval) (g := Fr.eval) (fun x hx => h.eval x hx) (fun _ => rfl) (fun _ => rfl) o hop w W hw ht
            cases hr : (execOp fr.eval o).run P w with
            | halt x w1 =>
              have hx := hsm.1 _ _ hr
              cases x with
              | panic v =>
                refine .inl ⟨(fr.ex rl sv k).raise [{ v, recovered := false }], w1, by simp [stepG, stepG.exec, G, hM, hD, hwT, stepG.oper, eR, hR, stepG.apply, hev, hr, hK], raise_mode _ _, ?_, ?_⟩
                · rw [raise_defers]; exact h.defers
                · obtain ⟨f, hf⟩ := h.func
                  exact ⟨f, by rw [raise_fn]; exact hf⟩
              | stuck t => exact .inr ⟨_, w1, by simp [stepG, stepG.exec, G, hM, hD, hwT, stepG.oper, eR, hR, stepG.apply, hev, hr, hK]; rfl⟩
              | unsupported u =>
                cases u with
                | initOrder _ => exact hx.elim
                | _ => exact .inr ⟨_, w1, by simp [stepG, stepG.exec, G, hM, hD, hwT, stepG.oper, eR, hR, stepG.apply, hev, hr, hK]; rfl⟩
              | _ => exact hx.elim
            | ok a w1 =>
              obtain ⟨R', b, W', -, q, -⟩ := hsm.2 _ _ hr
              cases q with
              | value hv =>
                rename_i v V
                exact good (fr' := fr.finish v) (cs' := cs) (w' := w1) (by simp [stepG, stepG.exec, G, hm, hd, hwt, stepG.oper, er, h.round, stepG.apply, hr, h.kind]) (hfm _)
              | skip => exact good (fr' := fr.finish Go.undef) (cs' := cs) (w' := w1) (by simp [stepG, stepG.exec, G, hm, hd, hwt, stepG.oper, er, h.round, stepG.apply, hr, h.kind]) (hfm _)
              | enter f hf hv =>
                rename_i x X
                exact good (fr' := Frame.enter P f x .normal) (cs' := fr :: cs) (w' := w1) (by simp [stepG, stepG.exec, G, hm, hd, hwt, stepG.oper, er, h.round, stepG.apply, hr, h.kind]) fun ch hc => by cases hc
    | _ => exact h0.elim
end Go.Sim

/-
  A frame some of whose slots hold slices from elsewhere, and all that it calls: each step.
-/
namespace Go.Proofs.Ytlndinigbppafaa
open Go.Sim Go.Conc Go.Fi

abbrev FoT := Addr → Nat → Nat → Prop
/-- What an element of such a slice may be. -/
def El (v : Value) : Prop := (∃ s, v = .string s) ∨ ∃ k n, v = .int k n
def SlV (Fo : FoT) (v : Value) : Prop := v = undef ∨ (∃ l c, v = .slice none l c) ∨ ∃ A l c, Fo A l c ∧ v = .slice (some A) l c
def PtV (Fo : FoT) (v : Value) : Prop := v = undef ∨ ∃ A l c j, Fo A l c ∧ j < l ∧ v = .pointer (some (A.add j))
def SvOK (rl : Rl) (Fo : FoT) (sv : Nat → Value) : Prop := ∀ i, (rl i = 1 → SlV Fo (sv i)) ∧ (rl i = 2 → PtV Fo (sv i))
def ExtOK (Fo : FoT) (D : Nat → Prop) (w : World) : Prop := ∀ A l c, Fo A l c → 0 < l → ¬ D A.block ∧ A.block < w.heap.size ∧ ∀ j, j < l → ∃ v, w.cell? (A.add j) = some v ∧ El v

def xF (rl : Rl) (sv : Nat → Value) (k : List Item) (fr : Frame) : List Frame → Frame
  | [] => fr.ex rl sv k
  | _ :: _ => fr
def xC (rl : Rl) (sv : Nat → Value) (k : List Item) : List Frame → List Frame
  | [] => []
  | c :: cs => xF rl sv k c cs :: xC rl sv k cs
def Bt (rl : Rl) : Frame → List Frame → Prop
  | fr, [] => ∀ it ∈ fr.todo, ItemR Try.prog rl it
  | _, c :: cs => (∃ ops i rest l, c.todo = .inRegion ops (i :: rest) :: l ∧ (cs = [] → pDst rl ((ops[i]?).bind (·.dst)) = true)) ∧ Bt rl c cs

structure InvX (rl : Rl) (Fo : FoT) (D : Nat → Prop) (sv : Nat → Value) (fr : Frame) (cs : List Frame) (w : World) : Prop where
  hfr : FR Try.prog (idOn D) fr fr
  hcs : FRs Try.prog (idOn D) cs cs
  hw : Sf D w
  bt : Bt rl fr cs
  hsv : SvOK rl Fo sv
  ext : ExtOK Fo D w

/-- What is known of a step, in whatever company, with whatever behind it. -/
structure CoX (rl : Rl) (Ks : List Item → Prop) (sv : Nat → Value) (fr : Frame) (cs : List Frame) (w : World) (sv' : Nat → Value) (fr' : Frame) (cs' : List Frame) (w' : World) : Prop where
  size : w.heap.size ≤ w'.heap.size
  tape : w'.tape = w.tape
  drawn : w.drawn ≤ w'.drawn
  go : ∀ k, Ks k → ∀ K main τ d, (∀ j q, j < w'.drawn - w.drawn → τ (d + j) q = w.tape (w.drawn + j) q) → ∃ es, stepG Try.prog main (G (xF rl sv k fr cs) (xC rl sv k cs ++ K)) (w.td τ d) = .go (G (xF rl sv' k fr' cs') (xC rl sv' k cs' ++ K)) (w'.td τ (d + (w'.drawn - w.drawn))) es ∧ ∀ e ∈ es, EvF w'.heap.size e

theorem fr_own {R : BR} {fr Fr : Frame} (h : FR Try.prog R fr Fr) : FR Try.prog (idOn (domR R)) fr fr :=
  { fn := rfl, tmps := vrs_self h.tmps, todo := rfl, items := h.items, defers := h.defers, defers' := h.defers, mode := rfl, modes := h.modes, kind := h.kind, kind' := h.kind, round := h.round, round' := h.round, func := h.func }
theorem frs_own {R : BR} : ∀ {cs Cs : List Frame}, FRs Try.prog R cs Cs → FRs Try.prog (idOn (domR R)) cs cs
  | [], [], _ => trivial
  | [], _ :: _, k => k.elim
  | _ :: _, [], k => k.elim
  | _ :: _, _ :: _, k => ⟨fr_own k.1, k.2.1, frs_own k.2.2⟩

/-- A step of what stands for itself. -/
theorem self_step {D : Nat → Prop} {fr : Frame} {cs : List Frame} {w : World} (h : FR Try.prog (idOn D) fr fr) (hcs : FRs Try.prog (idOn D) cs cs) (hw : Sf D w) (hn : fr.mode = .returning → cs ≠ []) :
    (∃ (D' : Nat → Prop) (fr' : Frame) (cs' : List Frame) (w' : World), (∀ b, D b → D' b) ∧ (∀ b, D' b → D b ∨ w.heap.size ≤ b) ∧ FR Try.prog (idOn D') fr' fr' ∧ FRs Try.prog (idOn D') cs' cs' ∧ Sf D' w' ∧ (∀ b, b < w.heap.size → ¬ D b → w'.heap[b]? = w.heap[b]?) ∧
      (stepG Try.prog true (G fr (cs ++ [c0 Try.prog])) w).bare = .go (G fr' (cs' ++ [c0 Try.prog])) w' ∧ (∀ ch, fr'.mode ≠ .panicking ch) ∧ Co Try.prog fr cs w fr' cs' w') ∨
    Fails Try.prog (c0 Try.prog) cs (stepG Try.prog true (G fr (cs ++ [c0 Try.prog])) w) := by
  rcases step_sim noShd zeroOK bodiesOK (c0 := c0 Try.prog) (K := [c0 Try.prog]) h hcs hw (fun _ _ => rfl) hn true true with hs | hf
  · obtain ⟨fr', cs', w', e, R', Fr', Cs', W', Es, E, f1, f2, f3, x, _, _⟩ := hs
    have e2 := e
    rw [E] at e2
    obtain ⟨rfl, rfl, rfl⟩ := G_inj e2
    have hnp : ∀ ch, Fr'.mode ≠ .panicking ch := fun ch hc => by rcases f1.modes with q | q <;> rw [q] at hc <;> cases hc
    refine .inl ⟨domR R', Fr', Cs', W', fun b hb => ⟨b, x.sub b b ⟨rfl, hb⟩⟩, fun b hb => ?_, fr_own f1, frs_own f2, wr_self f3, fun b hb hnD => ?_, e, hnp, step_co noShd zeroOK h hcs hw (fun _ _ => rfl) hn e hnp⟩
    · obtain ⟨B, hB⟩ := hb
      rcases x.new b B hB with q | q
      · exact .inl q.2
      · exact .inr q.1
    · exact x.keep b hb fun b' hb' => absurd (hb'.1 ▸ hb'.2) hnD
  · exact .inr hf

theorem sf_td {D : Nat → Prop} {w : World} (h : Sf D w) (τ : Nat → Question → Nat) (d : Nat) : Sf D (w.td τ d) := ⟨h.dom, h.inj, h.shd, h.low, h.glob⟩

theorem bt_any {rl : Rl} {fr fr' c : Frame} {cs : List Frame} (h : Bt rl fr (c :: cs)) : Bt rl fr' (c :: cs) := h

theorem ext_keep {Fo : FoT} {D D' : Nat → Prop} {w w' : World} (h : ExtOK Fo D w) (hn : ∀ b, D' b → D b ∨ w.heap.size ≤ b) (hs : w.heap.size ≤ w'.heap.size) (hk : ∀ b, b < w.heap.size → ¬ D b → w'.heap[b]? = w.heap[b]?) : ExtOK Fo D' w' := by
  intro A l c hA hl
  obtain ⟨h1, h2, h3⟩ := h A l c hA hl
  refine ⟨fun hD => (hn _ hD).elim h1 fun q => by omega, Nat.lt_of_lt_of_le h2 hs, fun j hj => ?_⟩
  obtain ⟨v, e, hv⟩ := h3 j hj
  refine ⟨v, ?_, hv⟩
  have hb : (A.add j).block = A.block := by unfold Addr.add; split <;> rfl
  rw [← e]
  unfold World.cell?
  rw [hb, hk A.block h2 h1]

section
variable {rl : Rl} {Fo : FoT} {Ks : List Item → Prop} {D : Nat → Prop} {sv : Nat → Value} {fr : Frame} {cs : List Frame} {w : World}

/-- A step of a frame above. -/
theorem stepX_above {c : Frame} {cs : List Frame} (h : InvX rl Fo D sv fr (c :: cs) w) :
    (∃ (D' : Nat → Prop) (fr' : Frame) (cs' : List Frame) (w' : World), (∀ b, D b → D' b) ∧ (∀ b, b < w.heap.size → ¬ D b → w'.heap[b]? = w.heap[b]?) ∧ InvX rl Fo D' sv fr' cs' w' ∧ CoX rl Ks sv fr (c :: cs) w sv fr' cs' w') ∨
    Fails Try.prog (c0 Try.prog) (xC rl sv [] (c :: cs)) (stepG Try.prog true (G (xF rl sv [] fr (c :: cs)) (xC rl sv [] (c :: cs) ++ [c0 Try.prog])) w) := by
  rcases self_step h.hfr h.hcs h.hw (fun _ q => by cases q) with ⟨D', fr', cs', w', s1, s2, f1, f2, f3, kp, e, hnp, co⟩ | hf
  · left
    have ext' := ext_keep h.ext s2 co.size kp
    have mk : Bt rl fr' cs' → (∀ k K main τ d es, stepG Try.prog main (G fr (c :: cs ++ K)) (w.td τ d) = .go (G fr' (cs' ++ K)) (w'.td τ (d + (w'.drawn - w.drawn))) es → stepG Try.prog main (G fr (xC rl sv k (c :: cs) ++ K)) (w.td τ d) = .go (G (xF rl sv k fr' cs') (xC rl sv k cs' ++ K)) (w'.td τ (d + (w'.drawn - w.drawn))) es) →
        ∃ (D' : Nat → Prop) (fr' : Frame) (cs' : List Frame) (w' : World), (∀ b, D b → D' b) ∧ (∀ b, b < w.heap.size → ¬ D b → w'.heap[b]? = w.heap[b]?) ∧ InvX rl Fo D' sv fr' cs' w' ∧ CoX rl Ks sv fr (c :: cs) w sv fr' cs' w' := by
      intro hb hgo
      refine ⟨D', fr', cs', w', s1, kp, ⟨f1, f2, f3, hb, h.hsv, ext'⟩, co.size, co.tape, co.drawn, fun k _ K main τ d hτ => ?_⟩
      obtain ⟨es, g1, g2⟩ := co.go K main τ d hτ
      exact ⟨es, hgo k K main τ d es g1, g2⟩
    rcases h.hfr.modes with hm | hm
    · by_cases hne : fr.todo = []
      · have e1 : ∀ main X W, stepG Try.prog main (G fr X) W = .go (G { fr with mode := .returning } X) W := fun main X W => by simp [stepG, stepG.exec, G, hm, hne, h.hfr.round]
        rw [e1] at e
        obtain ⟨rfl, q, rfl⟩ := G_inj e
        subst q
        refine mk h.bt fun k K main τ d es g => ?_
        rw [e1] at g ⊢
        obtain ⟨_, _, q3, q4⟩ := G_eq g
        rw [← q4, q3]
        rfl
      · -- which of the two it is
        obtain ⟨es0, g0, _⟩ := co.go [c0 Try.prog] true w.tape w.drawn fun _ _ _ => rfl
        have hall := fun (K : List Frame) (main : Bool) (τ : Nat → Question → Nat) (d : Nat) (es : Array Event) (g : stepG Try.prog main (G fr (c :: cs ++ K)) (w.td τ d) = .go (G fr' (cs' ++ K)) (w'.td τ (d + (w'.drawn - w.drawn))) es) =>
          own_ex noShd zeroOK (fun _ => 0) h.hfr (sf_td h.hw τ d) (fun _ _ => rfl) hm hne (fun it _ => itemR_zero it) (plainAt_zero fr) g hnp
        rcases hall _ _ _ _ _ g0 with ⟨q1, _⟩ | ⟨q1, ⟨ops, i, rest, l, hd, _⟩, _⟩
        · have : cs' = c :: cs := List.append_cancel_right q1
          subst this
          refine mk h.bt fun k K main τ d es g => ?_
          rcases hall _ _ _ _ _ g with ⟨_, _, q2⟩ | ⟨q2, _⟩
          · have := q2 sv [] (xC rl sv k (c :: cs) ++ K) main
            rw [ex_nil, ex_nil] at this
            exact this
          · have : c :: cs = fr :: c :: cs := List.append_cancel_right (bs := K) q2
            exact absurd (congrArg List.length this) (by simp)
        · have : cs' = fr :: c :: cs := List.append_cancel_right (bs := [c0 Try.prog]) q1
          subst this
          refine mk ⟨⟨ops, i, rest, l, hd, fun q => by cases q⟩, h.bt⟩ fun k K main τ d es g => ?_
          rcases hall _ _ _ _ _ g with ⟨q2, _⟩ | ⟨_, _, q2⟩
          · have : fr :: c :: cs = c :: cs := List.append_cancel_right (bs := K) q2
            exact absurd (congrArg List.length this) (by simp)
          · have := q2 sv [] (xC rl sv k (c :: cs) ++ K) main
            rw [ex_nil] at this
            exact this
    · obtain ⟨fn, hf⟩ := h.hfr.func
      have key : ∀ (main : Bool) (c : Frame) (X : List Frame) (v : Value) (W w1 : World), (results fn fr.tmps).run Try.prog W = .ok v w1 → stepG Try.prog main (G fr (c :: X)) W = .go (G (c.finish v) X) w1 (seen Try.prog fr.fn ((results fn fr.tmps).events Try.prog W #[])) := by
        intro main c X v W w1 hr
        simp [stepG, G, hm, unwind, h.hfr.defers, hf, hr, doReturn, h.hfr.kind, GStep.after]
      have bad : ∀ (main : Bool) (X : List Frame) (W w1 : World) (x : Halt), (results fn fr.tmps).run Try.prog W = .halt x w1 → ∃ o es2, stepG Try.prog main (G fr (c :: X)) W = .ended o w1 es2 := by
        intro main X W w1 x hr
        cases x with
        | stuck t => exact ⟨_, _, by simp [stepG, G, hm, unwind, h.hfr.defers, hf, hr, GStep.after]; exact ⟨rfl, rfl⟩⟩
        | _ => exact ⟨_, _, by simp [stepG, G, hm, unwind, h.hfr.defers, hf, hr, GStep.after]; exact ⟨rfl, rfl⟩⟩
      obtain ⟨⟨ops, i, rest, l, hd, hp⟩, hb2⟩ := h.bt
      cases hr : (results fn fr.tmps).run Try.prog w with
      | halt x w1 =>
        exfalso
        obtain ⟨o, es2, q⟩ := bad true (cs ++ [c0 Try.prog]) w w1 x hr
        rw [show c :: cs ++ [c0 Try.prog] = c :: (cs ++ [c0 Try.prog]) from rfl, q] at e
        cases e
      | ok v w1 =>
        have e2 := key true c (cs ++ [c0 Try.prog]) v w w1 hr
        rw [show c :: cs ++ [c0 Try.prog] = c :: (cs ++ [c0 Try.prog]) from rfl, e2] at e
        obtain ⟨rfl, rfl, rfl⟩ := G_inj e
        have hb3 : Bt rl (c.finish v) cs := by
          cases cs with
          | nil =>
            intro it hit
            have : (c.finish v).todo = .inRegion ops rest :: l := by simp [Frame.finish, hd]
            rw [this] at hit
            rcases List.mem_cons.1 hit with rfl | hit
            · exact hb2 (.inRegion ops (i :: rest)) (by rw [hd]; exact List.mem_cons_self ..)
            · exact hb2 it (by rw [hd]; exact List.mem_cons_of_mem _ hit)
          | cons d cs => exact hb2
        refine mk hb3 fun k K main τ d es g => ?_
        show stepG Try.prog main (G fr (xF rl sv k c cs :: (xC rl sv k cs ++ K))) (w.td τ d) = _
        rw [show c :: cs ++ K = c :: (cs ++ K) from rfl] at g
        cases hr2 : (results fn fr.tmps).run Try.prog (w.td τ d) with
        | halt x w2 =>
          obtain ⟨o, es2, q⟩ := bad main (cs ++ K) _ w2 x hr2
          rw [q] at g; cases g
        | ok u w2 =>
          rw [key main c (cs ++ K) u _ w2 hr2] at g
          rw [key main (xF rl sv k c cs) (xC rl sv k cs ++ K) u _ w2 hr2]
          obtain ⟨q1, _, q3, q4⟩ := G_eq g
          rw [← q4, q3]
          cases cs with
          | nil => simp only [xF]; rw [ex_finish hd (hp rfl), q1]
          | cons d cs => simp only [xF]; rw [q1]
  · right
    rcases h.hfr.modes with hm | hm
    · by_cases hne : fr.todo = []
      · exfalso
        have e1 : (stepG Try.prog true (G fr (c :: cs ++ [c0 Try.prog])) w).bare = .go (G { fr with mode := .returning } (c :: cs ++ [c0 Try.prog])) w := by simp [stepG, stepG.exec, G, hm, hne, h.hfr.round]
        rcases hf with ⟨fr1, w1, hs, ⟨ch, hp⟩, _⟩ | ⟨o, w1, hs⟩
        · rw [e1] at hs
          obtain ⟨rfl, _, _⟩ := G_inj hs
          cases hp
        · rw [e1] at hs; cases hs
      · have := fail_ex noShd zeroOK (cs2 := xC rl sv [] (c :: cs)) (fun _ => 0) sv [] h.hfr h.hw (fun _ _ => rfl) hm hne (fun it _ => itemR_zero it) (plainAt_zero fr) (fun _ => rfl) hf
        rw [ex_nil] at this
        exact this
    · obtain ⟨fn, hfn⟩ := h.hfr.func
      cases hr : (results fn fr.tmps).run Try.prog w with
      | halt x w1 =>
        right
        cases x with
        | stuck t => exact ⟨_, w1, by simp [xF, xC, stepG, G, hm, unwind, h.hfr.defers, hfn, hr]; rfl⟩
        | _ => exact ⟨_, w1, by simp [xF, xC, stepG, G, hm, unwind, h.hfr.defers, hfn, hr]; rfl⟩
      | ok v w1 =>
        exfalso
        have e1 : (stepG Try.prog true (G fr (c :: cs ++ [c0 Try.prog])) w).bare = .go (G (c.finish v) (cs ++ [c0 Try.prog])) w1 := by simp [stepG, G, hm, unwind, h.hfr.defers, hfn, hr, doReturn, h.hfr.kind]
        rcases hf with ⟨fr1, w1, hs, ⟨ch, hp⟩, _⟩ | ⟨o, w1, hs⟩
        · rw [e1] at hs
          obtain ⟨rfl, _, _⟩ := G_inj hs
          have : (c.finish v).mode = c.mode := by unfold Frame.finish; split <;> rfl
          rw [this, h.hcs.2.1] at hp
          cases hp
        · rw [e1] at hs; cases hs
end
end Go.Proofs.Ytlndinigbppafaa

/-
  The frame itself: each step.
-/
namespace Go.Proofs.Ytlndinigbppafaa
open Go.Sim Go.Conc Go.Fi

section
variable {rl : Rl} {Fo : FoT} {D : Nat → Prop} {sv : Nat → Value} {fr : Frame} {w : World}

theorem slot_one (hsv : SvOK rl Fo sv) {x : Nat} (hx : rl x = 1) : SlV Fo ((fr.ex rl sv []).eval (.tmp x)) := by
  show SlV Fo ((ov rl sv fr.tmps).getD x undef)
  rw [Array.getD_eq_getD_getElem?, ov_get]
  cases fr.tmps[x]? with
  | none => exact .inl rfl
  | some v => simp [hx]; exact (hsv x).1 hx
theorem slot_two (hsv : SvOK rl Fo sv) {x : Nat} (hx : rl x = 2) : PtV Fo ((fr.ex rl sv []).eval (.tmp x)) := by
  show PtV Fo ((ov rl sv fr.tmps).getD x undef)
  rw [Array.getD_eq_getD_getElem?, ov_get]
  cases fr.tmps[x]? with
  | none => exact .inl rfl
  | some v => simp [hx]; exact (hsv x).2 hx

theorem vs_el {v : Value} (h : El v) : Vs D v := by
  rcases h with ⟨s, rfl⟩ | ⟨k, n, rfl⟩
  · exact VR.string s
  · exact VR.int k n

set_option maxRecDepth 100000 in
/-- An operation on such slots: its result, or its failing. -/
theorem spec_run (o : Oper) (hs : SpcO Try.prog rl o) (hsv : SvOK rl Fo sv) (hext : ExtOK Fo D w) (hfr : FR Try.prog (idOn D) fr fr) :
    Fine Try.prog (execOp (fr.ex rl sv []).eval o) ∧
    ((∃ v, (execOp (fr.ex rl sv []).eval o).run Try.prog w = .ok (.value v) w ∧ ((pDst rl o.dst = true ∧ Vs D v) ∨ (∃ d, o.dst = some d ∧ rl d = 1 ∧ SlV Fo v) ∨ (∃ d, o.dst = some d ∧ rl d = 2 ∧ PtV Fo v))) ∨
      ∃ x w1, (execOp (fr.ex rl sv []).eval o).run Try.prog w = .halt x w1 ∧ HaltOK x) := by
  have dst : ∀ {n : Nat}, dstIs rl n o.dst = true → ∃ d, o.dst = some d ∧ rl d = n := by
    intro n h
    unfold dstIs at h
    cases hd : o.dst with
    | none => rw [hd] at h; cases h
    | some d => rw [hd] at h; exact ⟨d, rfl, by simpa using h⟩
  cases hs with
  | copy x hop hx hd =>
    obtain ⟨d, e1, e2⟩ := dst hd
    have : execOp (fr.ex rl sv []).eval o = pure (.value ((fr.ex rl sv []).eval (.tmp x))) := by
      unfold execOp
      rcases hop with hop | hop <;> rw [hop]
    rw [this]
    exact ⟨Fine.pure _, .inl ⟨_, rfl, .inr (.inl ⟨d, e1, e2, slot_one hsv hx⟩)⟩⟩
  | len x t hop hx ht hd =>
    obtain ⟨e, ht⟩ := ht
    have : execOp (fr.ex rl sv []).eval o = (do pure (.value (← Builtin.len_ #[t] o.type #[(fr.ex rl sv []).eval (.tmp x)]))) := by
      unfold execOp
      rw [hop]
      simp [resolve, invoke, builtin]
    rw [this]
    refine ⟨Fine.bind (fine_blen _ _ _) fun _ => Fine.pure _, ?_⟩
    have hu : ∀ w, (underlying t).run Try.prog w = .ok (.slice e) w := fun w => by simp [underlying, program, ht, bind, Sem.bind, Sem.run, pure]
    rcases slot_one (fr := fr) hsv hx with q | ⟨l, c, q⟩ | ⟨A, l, c, _, q⟩
    · right
      rw [q]
      exact ⟨.stuck _, w, by simp [Builtin.len_, hu, undef]; rfl, trivial⟩
    · left
      rw [q]
      exact ⟨.int .i64 l, by simp [Builtin.len_, hu, goInt], .inl ⟨hd, VR.int _ _⟩⟩
    · left
      rw [q]
      exact ⟨.int .i64 l, by simp [Builtin.len_, hu, goInt], .inl ⟨hd, VR.int _ _⟩⟩
  | adr t x y hop hx hy hyo h1 hd =>
    obtain ⟨d, e1, e2⟩ := dst hd
    have : execOp (fr.ex rl sv []).eval o = (do pure (.value (← Instr.indexAt t ((fr.ex rl sv []).eval (.tmp x)) ((fr.ex rl sv []).eval y)))) := by
      unfold execOp
      rw [hop]
    rw [this]
    refine ⟨Fine.bind (fine_indexAt _ _ _) fun _ => Fine.pure _, ?_⟩
    have hyv : VR Try.prog (idOn D) ((fr.ex rl sv []).eval y) ((fr.ex rl sv []).eval y) := by rw [ex_eval hy]; exact hfr.eval y hyo
    generalize (fr.ex rl sv []).eval y = yv at hyv ⊢
    obtain ⟨e, ht⟩ : ∃ e, Try.prog.underlying t = some (.slice e) := by
      unfold oneB at h1
      split at h1
      · exact ⟨_, by assumption⟩
      · cases h1
    unfold oneB at h1
    rw [ht] at h1
    dsimp only at h1
    have hi : ∃ i, Try.prog.info? e = some i ∧ i.size = 1 := by
      cases hh : Try.prog.info? e with
      | none => rw [hh] at h1; cases h1
      | some i => rw [hh] at h1; exact ⟨i, rfl, by simpa using h1⟩
    obtain ⟨i, hi, hi1⟩ := hi
    have hu : ∀ w, (underlying t).run Try.prog w = .ok (.slice e) w := fun w => by simp [underlying, program, ht, bind, Sem.bind, Sem.run, pure]
    have hz : ∀ w, (sizeOf e).run Try.prog w = .ok 1 w := fun w => by simp [sizeOf, typeInfo, hi, hi1]
    have hb : ∀ (α : Type) (k : IntKind) (a b : Int) (w : World), ∃ x w1, (boundsPanic k a b .index : Sem α).run Try.prog w = .halt x w1 ∧ HaltOK x := fun α k a b w => dead_boundsPanic k a b .index w
    by_cases hn : ∃ k n, yv = .int k n
    · obtain ⟨k, n, rfl⟩ := hn
      rcases slot_one (fr := fr) hsv hx with q | ⟨l, c, q⟩ | ⟨A, l, c, hA, q⟩
      · right
        rw [q]
        exact ⟨.stuck _, w, by simp [Instr.indexAt, asIntOf, hu, undef]; rfl, trivial⟩
      · right
        rw [q]
        obtain ⟨x, w1, q1, q2⟩ := hb Value k n 0 w
        exact ⟨x, w1, by simp [Instr.indexAt, asIntOf, hu, q1, Result.andThen], q2⟩
      · rw [q]
        by_cases hr : 0 ≤ n ∧ n < l
        · left
          refine ⟨.pointer (some (A.add n.toNat)), by simp [Instr.indexAt, asIntOf, hu, hz, hr], .inr (.inr ⟨d, e1, e2, .inr ⟨A, l, c, n.toNat, hA, by omega, rfl⟩⟩)⟩
        · right
          obtain ⟨x, w1, q1, q2⟩ := hb Value k n l w
          exact ⟨x, w1, by simp [Instr.indexAt, asIntOf, hu, hr, q1, Result.andThen], q2⟩
    · right
      have : ∃ x w1, (asIntOf yv).run Try.prog w = .halt x w1 ∧ HaltOK x := by
        cases hyv <;> first | exact absurd ⟨_, _, rfl⟩ hn | exact ⟨_, w, rfl, trivial⟩
      obtain ⟨x, w1, q1, q2⟩ := this
      exact ⟨x, w1, by simp [Instr.indexAt, q1, Result.andThen], q2⟩
  | get t x hop hx hsc hd =>
    have : execOp (fr.ex rl sv []).eval o = (do pure (.value (← Instr.loadAt t ((fr.ex rl sv []).eval (.tmp x))))) := by
      unfold execOp
      rw [hop]
    rw [this]
    refine ⟨Fine.bind (fine_loadAt _ _) fun _ => Fine.pure _, ?_⟩
    have ha : ∀ w, (isAgg t).run Try.prog w = .ok false w := by
      intro w
      unfold scalB at hsc
      cases ht : Try.prog.underlying t with
      | none => rw [ht] at hsc; cases hsc
      | some u =>
        have hu : (underlying t).run Try.prog w = .ok u w := by simp [underlying, program, ht, bind, Sem.bind, Sem.run, pure]
        rw [ht] at hsc
        cases u <;> first | (cases hsc; done) | simp [isAgg, hu]
    rcases slot_two (fr := fr) hsv hx with q | ⟨A, l, c, j, hA, hj, q⟩
    · right
      rw [q]
      exact ⟨.stuck _, w, by simp [Instr.loadAt, Instr.sureAddr, undef]; rfl, trivial⟩
    · left
      rw [q]
      obtain ⟨v, hv, hel⟩ := (hext A l c hA (by omega)).2.2 j hj
      exact ⟨v, by simp [Instr.loadAt, Instr.sureAddr, loadVar, ha, load, Sem.run, hv], .inl ⟨hd, vs_el hel⟩⟩
end
end Go.Proofs.Ytlndinigbppafaa

/-
  A frame some of whose slots hold slices from elsewhere: a piece of its code, or all that is left of it, by the lone walk: in company.
-/
namespace Go.Proofs.Ytlndinigbppafaa
open Go.Sim Go.Conc Go.Fi

section
variable {rl : Rl} {Fo : FoT} {Ks : List Item → Prop} {D : Nat → Prop} {sv : Nat → Value} {fr : Frame} {cs : List Frame} {w : World}

theorem svOK_upd (h : SvOK rl Fo sv) {d : Nat} {v : Value} (hv : (rl d = 1 → SlV Fo v) ∧ (rl d = 2 → PtV Fo v)) : SvOK rl Fo (upd sv d v) := by
  intro i
  unfold upd
  by_cases hi : i = d
  · subst hi; rw [if_pos rfl]; exact hv
  · rw [if_neg hi]; exact h i

theorem ex_eval_any (fr : Frame) (rl : Rl) (sv : Nat → Value) (k : List Item) : (fr.ex rl sv k).eval = (fr.ex rl sv []).eval := by funext x; cases x <;> rfl

/-- A step of the frame itself. -/
theorem stepX_low (h : InvX rl Fo D sv fr [] w) (hm : fr.mode = .run) (hend : fr.todo = [] → ∀ k, Ks k → k = []) :
    (∃ (D' : Nat → Prop) (sv' : Nat → Value) (fr' : Frame) (cs' : List Frame) (w' : World), (∀ b, D b → D' b) ∧ (∀ b, b < w.heap.size → ¬ D b → w'.heap[b]? = w.heap[b]?) ∧ InvX rl Fo D' sv' fr' cs' w' ∧ CoX rl Ks sv fr [] w sv' fr' cs' w') ∨
    Fails Try.prog (c0 Try.prog) (xC rl sv [] []) (stepG Try.prog true (G (xF rl sv [] fr []) (xC rl sv [] [] ++ [c0 Try.prog])) w) := by
  by_cases hne : fr.todo = []
  · left
    refine ⟨D, sv, { fr with mode := .returning }, [], w, fun _ q => q, fun _ _ _ => rfl, ⟨h.hfr.ret, trivial, h.hw, h.bt, h.hsv, h.ext⟩, Nat.le_refl _, rfl, Nat.le_refl _, fun k hk K main τ d _ => ⟨#[], ?_, fun e he => by simp at he⟩⟩
    have hk := hend hne k hk
    subst hk
    have h1 : (fr.ex rl sv []).mode = .run := hm
    have h2 : (fr.ex rl sv []).todo = [] := by simp [Frame.ex, hne]
    have h3 : (fr.ex rl sv []).roundOf = none := h.hfr.round
    have : stepG Try.prog main (G (fr.ex rl sv []) K) (w.td τ d) = .go (G { fr.ex rl sv [] with mode := .returning } K) (w.td τ d) := by simp [stepG, stepG.exec, G, h1, h2, h3]
    show stepG Try.prog main (G (fr.ex rl sv []) K) (w.td τ d) = _
    rw [this, Nat.sub_self, Nat.add_zero]
    rfl
  by_cases hpl : PlainAt rl fr
  · rcases self_step h.hfr (cs := []) trivial h.hw (fun q => by rw [hm] at q; cases q) with ⟨D', fr', cs', w', s1, s2, f1, f2, f3, kp, e, hnp, co⟩ | hf
    · left
      have ext' := ext_keep h.ext s2 co.size kp
      have hall := fun (K : List Frame) (main : Bool) (τ : Nat → Question → Nat) (d : Nat) (es : Array Event) (g : stepG Try.prog main (G fr ([] ++ K)) (w.td τ d) = .go (G fr' (cs' ++ K)) (w'.td τ (d + (w'.drawn - w.drawn))) es) =>
        own_ex noShd zeroOK rl h.hfr (sf_td h.hw τ d) (fun _ _ => rfl) hm hne h.bt hpl g hnp
      obtain ⟨es0, g0, _⟩ := co.go [c0 Try.prog] true w.tape w.drawn fun _ _ _ => rfl
      rcases hall _ _ _ _ _ g0 with ⟨q1, q2, _⟩ | ⟨q1, ⟨ops, i, rest, l, hd, hp⟩, _⟩
      · have : cs' = [] := List.append_cancel_right q1
        subst this
        refine ⟨D', sv, fr', [], w', s1, kp, ⟨f1, f2, f3, q2, h.hsv, ext'⟩, co.size, co.tape, co.drawn, fun k _ K main τ d hτ => ?_⟩
        obtain ⟨es, g1, g2⟩ := co.go K main τ d hτ
        refine ⟨es, ?_, g2⟩
        rcases hall _ _ _ _ _ g1 with ⟨_, _, q3⟩ | ⟨q3, _⟩
        · exact q3 sv k K main
        · have : ([] : List Frame) = [fr] := List.append_cancel_right (bs := K) q3
          cases this
      · have : cs' = [fr] := List.append_cancel_right (bs := [c0 Try.prog]) q1
        subst this
        refine ⟨D', sv, fr', [fr], w', s1, kp, ⟨f1, f2, f3, ⟨⟨ops, i, rest, l, hd, fun _ => hp⟩, h.bt⟩, h.hsv, ext'⟩, co.size, co.tape, co.drawn, fun k _ K main τ d hτ => ?_⟩
        obtain ⟨es, g1, g2⟩ := co.go K main τ d hτ
        refine ⟨es, ?_, g2⟩
        rcases hall _ _ _ _ _ g1 with ⟨q3, _⟩ | ⟨_, _, q3⟩
        · have : [fr] = ([] : List Frame) := List.append_cancel_right (bs := K) q3
          cases this
        · exact q3 sv k K main
    · right
      exact fail_ex noShd zeroOK (cs2 := []) rl sv [] h.hfr h.hw (fun _ _ => rfl) hm hne h.bt hpl (fun _ => rfl) hf
  · -- an operation on slots of a role
    obtain ⟨ops, i, rest, l, o, hd, ho, hnp⟩ : ∃ ops i rest l o, fr.todo = .inRegion ops (i :: rest) :: l ∧ ops[i]? = some o ∧ ¬ plainO rl o = true := by
      apply Classical.byContradiction
      intro hc
      apply hpl
      intro ops i rest l o hd ho
      apply Classical.byContradiction
      intro hq
      exact hc ⟨ops, i, rest, l, o, hd, ho, hq⟩
    have hR : OpsR Try.prog rl ops := h.bt (.inRegion ops (i :: rest)) (by rw [hd]; exact List.mem_cons_self ..)
    have hmem : o ∈ ops := Array.mem_of_getElem? ho
    have hg := (hR o hmem).1
    have hsp : SpcO Try.prog rl o := (hR o hmem).2.resolve_left hnp
    have hdst : (ops[i]?).bind (·.dst) = o.dst := by rw [ho]; rfl
    have hM : ∀ k, (fr.ex rl sv k).mode = .run := fun _ => hm
    have hRo : ∀ k, (fr.ex rl sv k).roundOf = none := fun _ => h.hfr.round
    have hK : ∀ k, (fr.ex rl sv k).kind = .normal := fun _ => h.hfr.kind
    have hfn : ∀ k, (fr.ex rl sv k).fn = fr.fn := fun _ => rfl
    have hD : ∀ k, (fr.ex rl sv k).todo = .inRegion ops (i :: rest) :: (l ++ k) := fun k => by simp [Frame.ex, hd]
    have eR : ∀ k, (fr.ex rl sv k).oper? = some o := fun k => by simp [Frame.oper?, hD, ho]
    have hev : ∀ k, execOp (fr.ex rl sv k).eval o = execOp (fr.ex rl sv []).eval o := fun k => by rw [ex_eval_any]
    have hfin : ∀ v, ∀ it ∈ (fr.finish v).todo, ItemR Try.prog rl it := by
      intro v it hit
      have : (fr.finish v).todo = .inRegion ops rest :: l := by simp [Frame.finish, hd]
      rw [this] at hit
      rcases List.mem_cons.1 hit with rfl | hit
      · exact hR
      · exact h.bt it (by rw [hd]; exact List.mem_cons_of_mem _ hit)
    -- behind it: the slot of a role, or any other
    have next : ∀ (v : Value), ((pDst rl o.dst = true ∧ Vs D v) ∨ (∃ d, o.dst = some d ∧ rl d = 1 ∧ SlV Fo v) ∨ (∃ d, o.dst = some d ∧ rl d = 2 ∧ PtV Fo v)) →
        ∃ sv' fr', InvX rl Fo D sv' fr' [] w ∧ ∀ k, (fr.ex rl sv k).finish v = fr'.ex rl sv' k := by
      intro v hv
      rcases hv with ⟨q1, q2⟩ | ⟨d, q1, q2, q3⟩ | ⟨d, q1, q2, q3⟩
      · exact ⟨sv, fr.finish v, ⟨h.hfr.finish q2, trivial, h.hw, hfin v, h.hsv, h.ext⟩, fun k => ex_finish hd (by rw [hdst]; exact q1) v⟩
      · exact ⟨upd sv d v, fr.finish undef, ⟨h.hfr.finish VR.undef, trivial, h.hw, hfin _, svOK_upd h.hsv ⟨fun _ => q3, fun q => (by rw [q2] at q; cases q)⟩, h.ext⟩, fun k => ex_finish2 hd (by rw [hdst]; exact q1) (by rw [q2]; decide) v⟩
      · exact ⟨upd sv d v, fr.finish undef, ⟨h.hfr.finish VR.undef, trivial, h.hw, hfin _, svOK_upd h.hsv ⟨fun q => (by rw [q2] at q; cases q), fun _ => q3⟩, h.ext⟩, fun k => ex_finish2 hd (by rw [hdst]; exact q1) (by rw [q2]; decide) v⟩
    cases hwt : Region.wanted o (yielded ops fr.tmps) with
    | false =>
      left
      have hwT : ∀ k, ((ops[i]?).map (Region.wanted · (yielded ops (fr.ex rl sv k).tmps))).getD false = false := fun k => by
        rw [ho]
        show Region.wanted o (yielded ops (ov rl sv fr.tmps)) = false
        rw [wanted_ex hg]; exact hwt
      have hu : (pDst rl o.dst = true ∧ Vs D undef) ∨ (∃ d, o.dst = some d ∧ rl d = 1 ∧ SlV Fo undef) ∨ (∃ d, o.dst = some d ∧ rl d = 2 ∧ PtV Fo undef) := by
        have dst : ∀ {n : Nat}, dstIs rl n o.dst = true → ∃ d, o.dst = some d ∧ rl d = n := by
          intro n h
          unfold dstIs at h
          cases hd : o.dst with
          | none => rw [hd] at h; cases h
          | some d => rw [hd] at h; exact ⟨d, rfl, by simpa using h⟩
        cases hsp with
        | copy x _ _ hd => obtain ⟨d, q1, q2⟩ := dst hd; exact .inr (.inl ⟨d, q1, q2, .inl rfl⟩)
        | len x t _ _ _ hd => exact .inl ⟨hd, VR.undef⟩
        | adr t x y _ _ _ _ _ hd => obtain ⟨d, q1, q2⟩ := dst hd; exact .inr (.inr ⟨d, q1, q2, .inl rfl⟩)
        | get t x _ _ _ hd => exact .inl ⟨hd, VR.undef⟩
      obtain ⟨sv', fr', hI, hF⟩ := next undef hu
      refine ⟨D, sv', fr', [], w, fun _ q => q, fun _ _ _ => rfl, hI, Nat.le_refl _, rfl, Nat.le_refl _, fun k _ K main τ d _ => ⟨#[], ?_, fun e he => by simp at he⟩⟩
      have : stepG Try.prog main (G (fr.ex rl sv k) K) (w.td τ d) = .go (G ((fr.ex rl sv k).finish undef) K) (w.td τ d) := by simp [stepG, stepG.exec, G, hM, hD, hwT]
      show stepG Try.prog main (G (fr.ex rl sv k) K) (w.td τ d) = _
      rw [this, hF k, Nat.sub_self, Nat.add_zero]
      rfl
    | true =>
      have hwT : ∀ k, ((ops[i]?).map (Region.wanted · (yielded ops (fr.ex rl sv k).tmps))).getD false = true := fun k => by
        rw [ho]
        show Region.wanted o (yielded ops (ov rl sv fr.tmps)) = true
        rw [wanted_ex hg]; exact hwt
      obtain ⟨hfine, hr⟩ := spec_run o hsp h.hsv h.ext h.hfr
      rcases hr with ⟨v, hr, hv⟩ | ⟨x, w1, hr, hx⟩
      · left
        obtain ⟨sv', fr', hI, hF⟩ := next v hv
        refine ⟨D, sv', fr', [], w, fun _ q => q, fun _ _ _ => rfl, hI, Nat.le_refl _, rfl, Nat.le_refl _, fun k _ K main τ d _ => ?_⟩
        obtain ⟨_, _, _, _, h5⟩ := hfine.shift hr
        have h6 := h5 τ d fun j q hj => by rw [Nat.sub_self] at hj; omega
        rw [Nat.sub_self, Nat.add_zero] at h6
        obtain ⟨_, s2⟩ := hfine.events h6
        refine ⟨seen Try.prog fr.fn ((execOp (fr.ex rl sv []).eval o).events Try.prog (w.td τ d) #[]), ?_, fun e he => s2 e (mem_seen he)⟩
        have : stepG Try.prog main (G (fr.ex rl sv k) K) (w.td τ d) = .go (G ((fr.ex rl sv k).finish v) K) (w.td τ d) (seen Try.prog fr.fn ((execOp (fr.ex rl sv []).eval o).events Try.prog (w.td τ d) #[])) := by
          simp [stepG, stepG.exec, G, hM, hD, hwT, stepG.oper, eR, hRo, stepG.apply, hev, hfn, h6, hK, GStep.after]
        show stepG Try.prog main (G (fr.ex rl sv k) K) (w.td τ d) = _
        rw [this, hF k, Nat.sub_self, Nat.add_zero]
        rfl
      · right
        show Fails Try.prog (c0 Try.prog) [] (stepG Try.prog true (G (fr.ex rl sv []) ([] ++ [c0 Try.prog])) w)
        cases x with
        | panic v =>
          refine .inl ⟨(fr.ex rl sv []).raise [{ v, recovered := false }], w1, by simp [stepG, stepG.exec, G, hM, hD, hwT, stepG.oper, eR, hRo, stepG.apply, hr, hK], raise_mode _ _, ?_, ?_⟩
          · rw [raise_defers]; exact h.hfr.defers
          · obtain ⟨f, hf⟩ := h.hfr.func
            exact ⟨f, by rw [raise_fn]; exact hf⟩
        | stuck t => exact .inr ⟨_, w1, by simp [stepG, stepG.exec, G, hM, hD, hwT, stepG.oper, eR, hRo, stepG.apply, hr, hK]; rfl⟩
        | unsupported u =>
          cases u with
          | initOrder _ => exact hx.elim
          | _ => exact .inr ⟨_, w1, by simp [stepG, stepG.exec, G, hM, hD, hwT, stepG.oper, eR, hRo, stepG.apply, hr, hK]; rfl⟩
        | _ => exact hx.elim
end
end Go.Proofs.Ytlndinigbppafaa

/-
  Frames some of whose slots hold slices from elsewhere: the run; a piece of code; the rest of a frame; a call.
-/
namespace Go.Proofs.Ytlndinigbppafaa
open Go.Sim Go.Conc Go.Fi

/-- A lone state of such frames. -/
def RlX (rl : Rl) (Fo : FoT) (fr : Frame) (cs : List Frame) (w : World) : Prop := ∃ D sv fr0 cs0, InvX rl Fo D sv fr0 cs0 w ∧ fr = xF rl sv [] fr0 cs0 ∧ cs = xC rl sv [] cs0

section
variable {rl : Rl} {Fo : FoT} {Ks : List Item → Prop} {D : Nat → Prop} {sv : Nat → Value} {fr : Frame} {cs : List Frame} {w : World}

theorem InvX.tp (h : InvX rl Fo D sv fr cs w) (τ : Nat → Question → Nat) : InvX rl Fo D sv fr cs (w.tp τ) := ⟨h.hfr, h.hcs, ⟨h.hw.dom, h.hw.inj, h.hw.shd, h.hw.low, h.hw.glob⟩, h.bt, h.hsv, h.ext⟩
theorem xF_mode {k : List Item} : (xF rl sv k fr cs).mode = fr.mode := by cases cs <;> rfl
theorem xF_fn {k : List Item} : (xF rl sv k fr cs).fn = fr.fn := by cases cs <;> rfl
theorem xF_defers {k : List Item} : (xF rl sv k fr cs).defers = fr.defers := by cases cs <;> rfl
theorem xF_kind {k : List Item} : (xF rl sv k fr cs).kind = fr.kind := by cases cs <;> rfl
theorem xF_todo : (xF rl sv [] fr cs).todo = fr.todo := by cases cs <;> simp [xF, Frame.ex]
theorem xC_nil {k : List Item} (h : xC rl sv k cs = []) : cs = [] := by cases cs with | nil => rfl | cons _ _ => cases h
theorem xC_bad : ∀ {cs : List Frame}, FRs Try.prog (idOn D) cs cs → ∀ c ∈ xC rl sv [] cs, c.defers = [] ∧ ∃ f, Try.prog.funcs[c.fn]? = some f
  | [], _, c, hc => by cases hc
  | a :: cs, h, c, hc => by
    rcases List.mem_cons.1 hc with rfl | hc
    · exact ⟨by rw [xF_defers]; exact h.1.defers, by rw [xF_fn]; exact h.1.func⟩
    · exact xC_bad h.2.2 c hc

theorem stepX (h : InvX rl Fo D sv fr cs w) (hn : fr.mode = .returning → cs ≠ []) (hend : cs = [] → fr.todo = [] → ∀ k, Ks k → k = []) :
    (∃ (D' : Nat → Prop) (sv' : Nat → Value) (fr' : Frame) (cs' : List Frame) (w' : World), (∀ b, D b → D' b) ∧ (∀ b, b < w.heap.size → ¬ D b → w'.heap[b]? = w.heap[b]?) ∧ InvX rl Fo D' sv' fr' cs' w' ∧ CoX rl Ks sv fr cs w sv' fr' cs' w') ∨
    Fails Try.prog (c0 Try.prog) (xC rl sv [] cs) (stepG Try.prog true (G (xF rl sv [] fr cs) (xC rl sv [] cs ++ [c0 Try.prog])) w) := by
  cases cs with
  | nil => exact stepX_low h (h.hfr.modes.resolve_right fun q => absurd rfl (hn q)) (hend rfl)
  | cons c cs =>
    rcases stepX_above (Ks := Ks) h with ⟨D', fr', cs', w', a, b, c, d⟩ | hf
    · exact .inl ⟨D', sv, fr', cs', w', a, b, c, d⟩
    · exact .inr hf

theorem CoX.bare {sv' : Nat → Value} {fr' : Frame} {cs' : List Frame} {w' : World} (h : CoX rl Ks sv fr cs w sv' fr' cs' w') (h0 : Ks []) (τ : Nat → Question → Nat) (hτ : ∀ j q, w.drawn ≤ j → j < w'.drawn → τ j q = w.tape j q) :
    (stepG Try.prog true (G (xF rl sv [] fr cs) (xC rl sv [] cs ++ [c0 Try.prog])) (w.tp τ)).bare = .go (G (xF rl sv' [] fr' cs') (xC rl sv' [] cs' ++ [c0 Try.prog])) (w'.tp τ) := by
  obtain ⟨es, g, _⟩ := h.go [] h0 [c0 Try.prog] true τ w.drawn fun j q hj => hτ _ q (by omega) (by omega)
  have e1 : w.td τ w.drawn = w.tp τ := rfl
  have e2 : w'.td τ (w.drawn + (w'.drawn - w.drawn)) = w'.tp τ := by
    rw [show w.drawn + (w'.drawn - w.drawn) = w'.drawn by have := h.drawn; omega]; rfl
  rw [e1, e2] at g
  rw [g]
  rfl

/-- These states' steps are known. -/
theorem relA {Nx : Frame → List Frame → Prop} (h1 : ∀ fr cs, Nx fr cs → fr.mode = .returning → cs ≠ []) (h2 : ∀ fr cs, Nx fr cs → cs = [] → fr.todo = [] → ∀ k, Ks k → k = []) (h0 : Ks []) : RelA Try.prog Nx (RlX rl Fo) := by
  refine ⟨fun {fr cs w} h τ => ?_, fun {fr cs w} h => ?_, fun {fr cs w} h hN => ?_⟩
  · obtain ⟨D, sv, fr0, cs0, h, rfl, rfl⟩ := h
    exact ⟨D, sv, fr0, cs0, h.tp τ, rfl, rfl⟩
  · obtain ⟨D, sv, fr0, cs0, h, rfl, rfl⟩ := h
    exact xC_bad h.hcs
  · obtain ⟨D, sv, fr0, cs0, h, rfl, rfl⟩ := h
    rcases stepX (Ks := Ks) h (fun hm hc => h1 _ _ hN (by rw [xF_mode]; exact hm) (by rw [hc]; rfl)) (fun hc ht => h2 _ _ hN (by rw [hc]; rfl) (by rw [xF_todo]; exact ht)) with ⟨D', sv', fr', cs', w', _, _, hI, co⟩ | hf
    · have hb := co.bare h0 w.tape fun _ _ _ _ => rfl
      rw [show w'.tp w.tape = w' by rw [← co.tape]; rfl] at hb
      exact .inl ⟨_, _, w', hb, ⟨D', sv', fr', cs', hI, rfl, rfl⟩, co.tape, co.drawn, fun τ hτ => co.bare h0 τ hτ⟩
    · exact .inr hf

variable {Gl : Array Goroutine → World → Option (Nat × Nat) → Trace → Prop} {n : Nat}

/-- The run, with more behind it, in company. -/
theorem Can.runX {Nx : Frame → List Frame → Prop} {St : Frame → List Frame → World → Prop} (h1 : ∀ fr cs, Nx fr cs → fr.mode = .returning → cs ≠ []) (h2 : ∀ fr cs, Nx fr cs → cs = [] → fr.todo = [] → ∀ k, Ks k → k = []) (h0 : Ks []) {k : List Item} (hk : Ks k) {K : List Frame}
    (hSt : ∀ fr cs w, St fr cs w → cs = []) (hSp : ∀ fr cs w ch, St fr cs w → fr.mode ≠ .panicking ch) {fr : Frame} {cs : List Frame} {w : World} (h : RunX Try.prog Nx St fr cs w) :
    ∀ {D : Nat → Prop} {sv : Nat → Value} {fr0 : Frame} {cs0 : List Frame}, InvX rl Fo D sv fr0 cs0 w → fr = xF rl sv [] fr0 cs0 → cs = xC rl sv [] cs0 →
      (∀ {D' : Nat → Prop} {sv' : Nat → Value} {fr' : Frame} {w' : World}, (∀ b, D b → D' b) → InvX rl Fo D' sv' fr' [] w' → St (fr'.ex rl sv' []) [] w' → Can Gl n (G (fr'.ex rl sv' k) K) w') → Can Gl n (G (xF rl sv k fr0 cs0) (xC rl sv k cs0 ++ K)) w := by
  induction h with
  | @fin fr cs w hf =>
    intro D sv fr0 cs0 hI e1 e2 hK
    subst e1; subst e2
    have : cs0 = [] := xC_nil (hSt _ _ _ hf)
    subst this
    exact hK (fun _ q => q) hI hf
  | @step fr cs w hns hN hex hst ih =>
    intro D sv fr0 cs0 hI e1 e2 hK
    subst e1; subst e2
    refine Can.step rfl fun w₁ hE => ?_
    have hww : (w.tp (Sim.mt w₁ w)).td w₁.tape w₁.drawn = w₁ := by rw [hE.td]; rfl
    rcases stepX (Ks := Ks) (hI.tp (Sim.mt w₁ w)) (fun hm hc => h1 _ _ hN (by rw [xF_mode]; exact hm) (by rw [hc]; rfl)) (fun hc ht => h2 _ _ hN (by rw [hc]; rfl) (by rw [xF_todo]; exact ht)) with ⟨D', sv', fr', cs', w', s1, _, hI', co⟩ | hf
    · obtain ⟨es, g1, g2⟩ := co.go k hk K true w₁.tape w₁.drawn fun j q _ => by
        show w₁.tape (w₁.drawn + j) q = Sim.mt w₁ w (w.drawn + j) q
        simp [Sim.mt]
      rw [hww] at g1
      refine ⟨_, _, es, g1, g2, ?_, ?_⟩
      · have := co.size
        show w₁.heap.size ≤ w'.heap.size
        rw [hE.heap]
        exact this
      · have e := co.bare h0 (Sim.mt w₁ w) fun _ _ _ _ => rfl
        have hI2 : InvX rl Fo D' sv' fr' cs' (w'.tp (Sim.mt w₁ w)) := hI'.tp _
        have e' : (stepG Try.prog true (G (xF rl sv [] fr0 cs0) (xC rl sv [] cs0 ++ [c0 Try.prog])) (w.tp (Sim.mt w₁ w))).bare = .go (G (xF rl sv' [] fr' cs') (xC rl sv' [] cs' ++ [c0 Try.prog])) (w'.tp (Sim.mt w₁ w)) := e
        exact (ih (Sim.mt w₁ w) _ _ _ e' hI2 rfl rfl fun s2 q1 q2 => hK (fun b hb => s2 b (s1 b hb)) q1 q2).eqv ⟨rfl, rfl, rfl⟩
    · exfalso
      rcases hf with ⟨fr1, w1, hs, hp, hd, hfn⟩ | ⟨o, w1, hs⟩
      · exact runX_bad hSp (hst (Sim.mt w₁ w) fr1 _ w1 hs) ⟨hp, hd, hfn, xC_bad hI.hcs⟩
      · obtain ⟨fr', cs', w', e⟩ := hex (Sim.mt w₁ w)
        rw [hs] at e
        cases e

theorem invX_start {f : FuncId} {fn : Func} {c : Code} {a : Act} (hf : Try.prog.funcs[f]? = some fn) (hc : CodeOK Try.prog c) (hr : CodeR Try.prog rl c) (htm : ∀ v ∈ a.tmps, Vs D v) (hd : a.defers = []) (hw : Sf D w) (hsv : SvOK rl Fo sv) (hext : ExtOK Fo D w) : InvX rl Fo D sv ((base f).at a [.code c]) [] w :=
  ⟨fr_self hf hc htm hd, trivial, hw, fun it hit => by
    have : it = .code c := by simpa [Frame.at] using hit
    subst this
    exact hr, hsv, hext⟩

/-- A PIECE OF CODE, BY THE LONE WALK. -/
theorem Can.pieceX {f : FuncId} {fn : Func} {c : Code} {a : Act} {k : List Item} {K : List Frame} {Q : Act → World → Prop} (hf : Try.prog.funcs[f]? = some fn) (hc : CodeOK Try.prog c) (hr : CodeR Try.prog rl c) (htm : ∀ v ∈ a.tmps, Vs D v) (hd : a.defers = []) (hw : Sf D w) (hsv : SvOK rl Fo sv) (hext : ExtOK Fo D w)
    (hQ : ∀ a w τ, Q a w → Q a (w.tp τ)) (hwp : ∀ τ, c.wp Try.prog (fun e a' w' => e = .normal ∧ Q a' w') ⟨ov rl sv a.tmps, []⟩ (w.tp τ))
    (hK : ∀ {D' : Nat → Prop} {sv' : Nat → Value} {t' : Array Value} {w' : World}, (∀ b, D b → D' b) → (∀ v ∈ t', Vs D' v) → Sf D' w' → SvOK rl Fo sv' → ExtOK Fo D' w' → Q ⟨ov rl sv' t', []⟩ w' → Can Gl n (G ((base f).at ⟨ov rl sv' t', []⟩ k) K) w') : Can Gl n (G ((base f).at ⟨ov rl sv a.tmps, []⟩ (.code c :: k)) K) w := by
  have hI := invX_start (sv := sv) hf hc hr htm hd hw hsv hext
  have hx : ∀ k', ((base f).at a [.code c]).ex rl sv k' = (base f).at ⟨ov rl sv a.tmps, []⟩ (.code c :: k') := fun k' => by simp [Frame.ex, Frame.at, hd]
  let Nx : Frame → List Frame → Prop := fun fr cs => (fr.mode = .returning → cs ≠ []) ∧ (cs = [] → fr.todo ≠ [])
  let St : Frame → List Frame → World → Prop := fun fr cs w => cs = [] ∧ ∃ a', fr = (base f).at a' [] ∧ Q a' w
  have n1 : ∀ fr cs, Nx fr cs → fr.mode = .returning → cs ≠ [] := fun _ _ h => h.1
  have n2 : ∀ fr cs, Nx fr cs → cs = [] → fr.todo = [] → ∀ k : List Item, True → k = [] := fun _ _ h hc ht => absurd ht (h.2 hc)
  have sp : ∀ fr cs w ch, St fr cs w → fr.mode ≠ .panicking ch := by
    rintro fr cs w ch ⟨_, a', rfl, _⟩ hp
    cases hp
  have A := relA (rl := rl) (Fo := Fo) (Ks := fun _ => True) n1 n2 trivial
  have hRel : RlX rl Fo ((base f).at ⟨ov rl sv a.tmps, []⟩ [.code c]) [] w := ⟨D, sv, _, [], hI, (hx []).symm, rfl⟩
  have hrun : RunX Try.prog Nx St ((base f).at ⟨ov rl sv a.tmps, []⟩ [.code c]) [] w := by
    refine runX_of_good A sp (fun fr cs w τ q => ?_) hRel fun τ => ?_
    · obtain ⟨q1, a', q2, q3⟩ := q
      exact ⟨q1, a', q2, hQ _ _ _ q3⟩
    · obtain ⟨e, a', w', hq, harr⟩ := hwp τ (base f) [] [c0 Try.prog]
      obtain ⟨rfl, hq⟩ := hq
      obtain ⟨m, hm⟩ := harr
      refine ⟨m, endsX_of_run A sp (fr' := (base f).at a' []) (w' := w') ⟨rfl, a', rfl, hq⟩ (fun {fr cs w} n hr e => ?_) m (A.tp hRel τ) hm⟩
      obtain ⟨D1, sv1, fr1, cs1, hI1, rfl, rfl⟩ := hr
      obtain ⟨fn1, hf1⟩ := hI1.hfr.func
      have fo : ∀ {w : World} (n : Nat), cs1 = [] → ∀ fr2 : Frame, fr2.mode = .returning → fr2.defers = [] → fr2.kind = .normal → fr2.fn = fr1.fn → runN Try.prog (n + 1) (lone fr2 [c0 Try.prog] w) ≠ .next (lone ((base f).at a' []) [c0 Try.prog] w') :=
        fun n _ fr2 hm2 hd2 hk2 hfn2 => fin_over' (fn := fn1) hd2 hk2 (by rw [hfn2]; exact hf1) hm2 n
      refine ⟨fun hm hc => ?_, fun hc ht => ?_⟩
      · have := xC_nil hc
        subst this
        exact fo n rfl _ hm (by rw [xF_defers]; exact hI1.hfr.defers) (by rw [xF_kind]; exact hI1.hfr.kind) xF_fn e
      · have := xC_nil hc
        subst this
        rw [xF_todo] at ht
        have hm1 : (xF rl sv1 [] fr1 []).mode = .run ∨ (xF rl sv1 [] fr1 []).mode = .returning := by rw [xF_mode]; exact hI1.hfr.modes
        rcases hm1 with hm1 | hm1
        · have hs : Go.step Try.prog (lone (xF rl sv1 [] fr1 []) ([] ++ [c0 Try.prog]) w) = .next (lone { xF rl sv1 [] fr1 [] with mode := .returning } ([] ++ [c0 Try.prog]) w) := by
            have h2 : (xF rl sv1 [] fr1 []).todo = [] := by rw [xF_todo]; exact ht
            have h3 : (xF rl sv1 [] fr1 []).roundOf = none := hI1.hfr.round
            exact step_lone_go (by simp [stepG, stepG.exec, hm1, h2, h3])
          show False
          have e' := e
          rw [show xC rl sv1 [] [] ++ [c0 Try.prog] = [] ++ [c0 Try.prog] from rfl, runN, hs] at e'
          cases n with
          | zero =>
            simp only [runN, Stepped.next.injEq] at e'
            obtain ⟨q, _, _⟩ := lone_inj e'
            have := congrArg Frame.mode q
            cases this
          | succ n => exact fo n rfl { xF rl sv1 [] fr1 [] with mode := .returning } rfl hI1.hfr.defers hI1.hfr.kind rfl e'
        · exact fo n rfl _ hm1 (by rw [xF_defers]; exact hI1.hfr.defers) (by rw [xF_kind]; exact hI1.hfr.kind) xF_fn e
  rw [← hx k]
  refine Can.runX (Ks := fun _ => True) n1 n2 trivial (k := k) trivial (K := K) (fun _ _ _ q => q.1) sp hrun hI (hx []).symm rfl ?_
  intro D' sv' fr' w' s1 hI' q
  obtain ⟨_, a', e, hq⟩ := q
  have e1 : fr'.ex rl sv' k = (base f).at ⟨ov rl sv' fr'.tmps, []⟩ k := by
    have t1 := congrArg Frame.todo e
    have t2 := congrArg Frame.fn e
    have t3 := congrArg Frame.mode e
    simp only [Frame.ex, Frame.at, List.append_nil] at t1 t2 t3
    simp only [Frame.ex, Frame.at, t1, t2, t3, hI'.hfr.defers, hI'.hfr.kind, hI'.hfr.round, List.nil_append]
    rfl
  have e2 : a' = ⟨ov rl sv' fr'.tmps, []⟩ := by
    have t1 := congrArg Frame.tmps e
    have t2 := congrArg Frame.defers e
    simp only [Frame.ex, Frame.at] at t1 t2
    rw [hI'.hfr.defers] at t2
    cases a'
    simp only at t1 t2
    rw [t1, t2]
  rw [e1]
  rw [e2] at hq
  refine hK s1 (fun v hv => ?_) hI'.hw hI'.hsv hI'.ext hq
  obtain ⟨i, hi, rfl⟩ := Array.mem_iff_getElem.1 hv
  exact hI'.hfr.tmps.2 i _ _ (Array.getElem?_eq_getElem hi) (Array.getElem?_eq_getElem hi)
end
end Go.Proofs.Ytlndinigbppafaa

/-
  Frames some of whose slots hold slices from elsewhere: to the return; the closed check of their code.
-/
namespace Go.Proofs.Ytlndinigbppafaa
open Go.Sim Go.Conc Go.Fi

section
variable {rl : Rl} {Fo : FoT} {D : Nat → Prop} {sv : Nat → Value} {w : World}
variable {Gl : Array Goroutine → World → Option (Nat × Nat) → Trace → Prop} {n : Nat}

/-- It stands at its return. -/
def RetX (f : FuncId) (fn : Func) (Q : Value → World → Prop) (fr : Frame) (cs : List Frame) (w : World) : Prop := cs = [] ∧ fr.mode = .returning ∧ fr.fn = f ∧ ∃ v, results fn fr.tmps = pure v ∧ Q v w

theorem Can.retX {f : FuncId} {fn : Func} {c : Code} {a : Act} {K : List Frame} {Q : Value → World → Prop} (hf : Try.prog.funcs[f]? = some fn) (hc : CodeOK Try.prog c) (hr : CodeR Try.prog rl c) (htm : ∀ v ∈ a.tmps, Vs D v) (hd : a.defers = []) (hw : Sf D w) (hsv : SvOK rl Fo sv) (hext : ExtOK Fo D w)
    (hQ : ∀ v w τ, Q v w → Q v (w.tp τ)) (hrn : ∀ τ, ∃ m fr' w', runN Try.prog m (lone ((base f).at ⟨ov rl sv a.tmps, []⟩ [.code c]) [c0 Try.prog] (w.tp τ)) = .next (lone fr' [c0 Try.prog] w') ∧ RetX f fn Q fr' [] w')
    (hK : ∀ {D' : Nat → Prop} {sv' : Nat → Value} {fr' : Frame} {w' : World}, (∀ b, D b → D' b) → InvX rl Fo D' sv' fr' [] w' → RetX f fn Q (fr'.ex rl sv' []) [] w' → Can Gl n (G (fr'.ex rl sv' []) K) w') : Can Gl n (G ((base f).at ⟨ov rl sv a.tmps, []⟩ [.code c]) K) w := by
  have hI := invX_start (sv := sv) hf hc hr htm hd hw hsv hext
  have hx : ((base f).at a [.code c]).ex rl sv [] = (base f).at ⟨ov rl sv a.tmps, []⟩ [.code c] := by simp [Frame.ex, Frame.at, hd]
  have n2 : ∀ (fr : Frame) (cs : List Frame), (fr.mode = .returning → cs ≠ []) → cs = [] → fr.todo = [] → ∀ k : List Item, k = [] → k = [] := fun _ _ _ _ _ _ h => h
  have sp : ∀ fr cs w ch, RetX f fn Q fr cs w → fr.mode ≠ .panicking ch := by
    rintro fr cs w ch ⟨_, hm, _⟩ hp
    rw [hm] at hp; cases hp
  have A := relA (rl := rl) (Fo := Fo) (Ks := fun k => k = []) (Nx := fun fr cs => fr.mode = .returning → cs ≠ []) (fun _ _ h => h) n2 rfl
  have hRel : RlX rl Fo ((base f).at ⟨ov rl sv a.tmps, []⟩ [.code c]) [] w := ⟨D, sv, _, [], hI, hx.symm, rfl⟩
  have hrun : RunX Try.prog (fun fr cs => fr.mode = .returning → cs ≠ []) (RetX f fn Q) ((base f).at ⟨ov rl sv a.tmps, []⟩ [.code c]) [] w := by
    refine runX_of_good A sp (fun fr cs w τ q => ?_) hRel fun τ => ?_
    · obtain ⟨q1, q2, q3, v, q4, q5⟩ := q
      exact ⟨q1, q2, q3, v, q4, hQ _ _ _ q5⟩
    · obtain ⟨m, fr', w', hm, hq⟩ := hrn τ
      refine ⟨m, endsX_of_run A sp (fr' := fr') (w' := w') hq (fun {fr cs w} n hr e hm hc => ?_) m (A.tp hRel τ) hm⟩
      obtain ⟨D1, sv1, fr1, cs1, hI1, rfl, rfl⟩ := hr
      obtain ⟨fn1, hf1⟩ := hI1.hfr.func
      have := xC_nil hc
      subst this
      exact fin_over' (fn := fn1) (by rw [xF_defers]; exact hI1.hfr.defers) (by rw [xF_kind]; exact hI1.hfr.kind) (by rw [xF_fn]; exact hf1) hm n e
  rw [← hx]
  exact Can.runX (Ks := fun k => k = []) (Nx := fun fr cs => fr.mode = .returning → cs ≠ []) (fun _ _ h => h) n2 rfl (k := []) rfl (K := K) (fun _ _ _ q => q.1) sp hrun hI hx.symm rfl hK

/-- From the walk of what is left. -/
theorem run_of_wp {f : FuncId} {fn : Func} {c : Code} {a : Act} {Q : Value → World → Prop} (hres : ∀ r ∈ fn.results, ∃ t, r = .tmp t) (hwp : c.wp Try.prog (bodyPost Try.prog fn fun e w' => match e with | .returned v => Q v w' | _ => False) a w) :
    ∃ m fr' w', runN Try.prog m (lone ((base f).at a [.code c]) [c0 Try.prog] w) = .next (lone fr' [c0 Try.prog] w') ∧ RetX f fn Q fr' [] w' := by
  obtain ⟨e, a', w', hq, harr⟩ := hwp (base f) [] [c0 Try.prog]
  have fin : ∀ {todo : List Item} {v : Value}, Steps Try.prog (lone ((base f).at a [.code c]) [c0 Try.prog] w) (lone { (base f).at a' todo with mode := .returning } [c0 Try.prog] w') → (results fn a'.tmps).run Try.prog w' = .ok v w' → Q v w' →
      ∃ m fr' w', runN Try.prog m (lone ((base f).at a [.code c]) [c0 Try.prog] w) = .next (lone fr' [c0 Try.prog] w') ∧ RetX f fn Q fr' [] w' := by
    intro todo v hs hr hp
    obtain ⟨m, hm⟩ := hs
    obtain ⟨v', hv'⟩ := results_pure hres a'.tmps
    rw [hv'] at hr
    cases hr
    exact ⟨m, _, w', hm, rfl, rfl, rfl, _, hv', hp⟩
  cases e with
  | normal =>
    obtain ⟨_, v, hr, hp⟩ := hq
    exact fin (Steps.trans harr (.one step_end)) hr hp
  | ret =>
    obtain ⟨_, v, hr, hp⟩ := hq
    obtain ⟨todo, hs⟩ := harr
    exact fin hs hr hp
  | panic ch => exact hq.2.elim
  | outgrown => exact hq.elim
  | exit _ => exact hq.elim
  | goto _ => exact hq.elim

theorem results_ov {fn : Func} (hr : ∀ r ∈ fn.results, ∃ t, r = .tmp t ∧ rl t = 0) (t : Array Value) : results fn (ov rl sv t) = results fn t := by
  rw [results_eq, results_eq]
  congr 1
  rw [Array.mapM_eq_mapM_toList, Array.mapM_eq_mapM_toList]
  congr 1
  have K : ∀ l : List ResultVar, (∀ r ∈ l, ∃ t, r = .tmp t ∧ rl t = 0) → l.mapM (rdv (ov rl sv t)) = l.mapM (rdv t) := by
    intro l
    induction l with
    | nil => intro _; rfl
    | cons r l ih =>
      intro hl
      obtain ⟨x, rfl, h0⟩ := hl r (List.mem_cons_self ..)
      rw [List.mapM_cons, List.mapM_cons, ih fun r hr => hl r (List.mem_cons_of_mem _ hr)]
      have : rdv (ov rl sv t) (.tmp x) = rdv t (.tmp x) := by
        show pure ((ov rl sv t).getD x Go.undef) = pure (t.getD x Go.undef)
        rw [ov_getD h0]
      rw [this]
  exact K _ fun r h => hr r (by simpa using h)

/-- THE REST OF THE LAST FRAME. -/
theorem Can.restX {f : FuncId} {fn : Func} {c : Code} {a : Act} {Post : Value → World → Prop} (hf : Try.prog.funcs[f]? = some fn) (hc : CodeOK Try.prog c) (hr : CodeR Try.prog rl c) (htm : ∀ v ∈ a.tmps, Vs D v) (hd : a.defers = []) (hw : Sf D w) (hsv : SvOK rl Fo sv) (hext : ExtOK Fo D w)
    (hres : ∀ r ∈ fn.results, ∃ t, r = .tmp t) (hin : Try.prog.inits.idxOf? f = none) (hP : ∀ v w w₁, Post v w → Eqv w w₁ → Post v w₁)
    (hwp : ∀ τ, c.wp Try.prog (bodyPost Try.prog fn fun e w' => match e with | .returned v => Post v w' | _ => False) ⟨ov rl sv a.tmps, []⟩ (w.tp τ)) : Can (Done Post) n (G ((base f).at ⟨ov rl sv a.tmps, []⟩ [.code c]) []) w := by
  refine Can.retX (Q := Post) hf hc hr htm hd hw hsv hext (fun v w τ h => hP v w _ h ⟨rfl, rfl, rfl⟩) (fun τ => run_of_wp hres (hwp τ)) ?_
  intro D' sv' fr' w' _ hI hR
  obtain ⟨_, hm, hfn, v, hv, hq⟩ := hR
  refine Can.done (v := v) rfl fun w₁ hE => ⟨?_, hP v w' w₁ hq hE⟩
  exact stepG_done hm hI.hfr.defers hI.hfr.kind (by rw [hfn]; exact hf) hv (by rw [hfn]; exact hin) w₁

/-- A CALL, SOME OF WHOSE ARGUMENTS ARE FROM ELSEWHERE. -/
theorem Can.callX {b : Frame} {a : Act} {k : List Item} {cs : List Frame} {ops : Array Oper} {i : Nat} {rest : List Nat} {o : Oper} {f : FuncId} {fn : Func} {c : Code} {args : Array Operand} {ats : Array TypeId} {vs : List Value} {t0 : Array Value} {Q : Value → World → Prop} (hk : b.kind ≠ .early) (ho : ops[i]? = some o) (hwt : Region.wanted o (yielded ops a.tmps) = true) (hop : o.op = .call { callee := .value (.func f), args, argTypes := ats })
    (hf : Try.prog.funcs[f]? = some fn) (hname : fn.name ∈ names) (hb : fn.body = some c) (hr : CodeR Try.prog rl c) (hres : ∀ r ∈ fn.results, ∃ t, r = .tmp t ∧ rl t = 0) (hargs : args.map a.eval = vs.toArray)
    (hov : vs.toArray ++ Array.replicate (fn.ntmps - vs.toArray.size) undef = ov rl sv t0) (ht0 : ∀ v ∈ t0, Vs D v) (hw : Sf D w) (hsv : SvOK rl Fo sv) (hext : ExtOK Fo D w) (hQ : ∀ v w τ, Q v w → Q v (w.tp τ))
    (hc : ∀ τ, Calls Try.prog f vs.toArray (w.tp τ) fun e w' => match e with | .returned v => Q v w' | _ => False)
    (hK : ∀ {D' : Nat → Prop} {v : Value} {w' : World}, (∀ b, D b → D' b) → Vs D' v → Sf D' w' → ExtOK Fo D' w' → Q v w' → Can Gl n (G (b.at (a.put o.dst v) (.inRegion ops rest :: k)) cs) w') :
    Can Gl n (G (b.at a (.inRegion ops (i :: rest) :: k)) cs) w := by
  have hn : (fn.name == "runtime.NumGoroutine") = false := by
    have : fn.name ≠ "runtime.NumGoroutine" := fun x => by rw [x] at hname; revert hname; decide
    simpa using this
  refine Can.enter hk ho hwt hop hf hn hb ?_
  rw [hargs, hov]
  have hres' : ∀ r ∈ fn.results, ∃ t, r = .tmp t := fun r hr => (hres r hr).imp fun _ q => q.1
  refine Can.retX (a := ⟨t0, []⟩) (Q := Q) hf (bodiesOK f fn c hf hname hb) hr ht0 rfl hw hsv hext hQ (fun τ => ?_) ?_
  · obtain ⟨e, w', fr, hp, hs, h1, h2⟩ := hc τ [c0 Try.prog]
    rw [enter_at _ hf hb] at hs
    rw [hov] at hs
    cases e with
    | returned v =>
      obtain ⟨m, hm⟩ := hs
      obtain ⟨hmd, _, _, fn', hf', hr'⟩ := h2
      have : fn' = fn := by rw [h1, hf] at hf'; cases hf'; rfl
      subst this
      obtain ⟨v', hv'⟩ := results_pure hres' fr.tmps
      rw [hv'] at hr'
      cases hr'
      exact ⟨m, fr, w', hm, rfl, hmd, h1, _, hv', hp⟩
    | panicked ch => exact hp.elim
    | outgrown => exact hp.elim
  · intro D' sv' fr' w' s1 hI hR
    obtain ⟨_, hm, hfn, v, hv, hq⟩ := hR
    have hv2 : results fn fr'.tmps = Pure.pure v := by rw [← results_ov (sv := sv') hres]; exact hv
    obtain ⟨v2, V, hvv, e3, _⟩ := results_run hres' hI.hfr.tmps
    rw [hv2] at e3
    cases e3
    refine Can.pure (g' := G (b.at (a.put o.dst v) (.inRegion ops rest :: k)) cs) rfl (fun w => ?_) (hK s1 (by have := vr_self hvv; exact this.mono (idOn_mono fun b hb => by obtain ⟨B, h⟩ := hb; exact h.2)) hI.hw hI.ext hq)
    have hfin : (b.at a (.inRegion ops (i :: rest) :: k)).finish v = b.at (a.put o.dst v) (.inRegion ops rest :: k) := by rw [Frame.finish_at, ho]; rfl
    rw [← hfin]
    have hd : (fr'.ex rl sv' []).defers = [] := hI.hfr.defers
    have hkd : (fr'.ex rl sv' []).kind = .normal := hI.hfr.kind
    have hfn' : Try.prog.funcs[(fr'.ex rl sv' []).fn]? = some fn := by rw [hfn]; exact hf
    simp [stepG, G, hm, unwind, hd, hfn', hv, doReturn, hkd, seen, GStep.after]

theorem ov_zero (sv : Nat → Value) (t : Array Value) : ov (fun _ => 0) sv t = t := by
  apply Array.ext_getElem?
  intro i
  rw [ov_get]
  cases t[i]? <;> simp
/-- A CALL OF PLAIN ARGUMENTS, what lies elsewhere kept in mind. -/
theorem Can.callE {b : Frame} {a : Act} {k : List Item} {cs : List Frame} {ops : Array Oper} {i : Nat} {rest : List Nat} {o : Oper} {f : FuncId} {fn : Func} {c : Code} {args : Array Operand} {ats : Array TypeId} {vs : List Value} {Q : Value → World → Prop} (hk : b.kind ≠ .early) (ho : ops[i]? = some o) (hwt : Region.wanted o (yielded ops a.tmps) = true) (hop : o.op = .call { callee := .value (.func f), args, argTypes := ats })
    (hf : Try.prog.funcs[f]? = some fn) (hname : fn.name ∈ names) (hb : fn.body = some c) (hres : ∀ r ∈ fn.results, ∃ t, r = .tmp t) (hargs : args.map a.eval = vs.toArray)
    (hA : ∀ v ∈ vs, Vs D v) (hw : Sf D w) (hext : ExtOK Fo D w) (hQ : ∀ v w τ, Q v w → Q v (w.tp τ))
    (hc : ∀ τ, Calls Try.prog f vs.toArray (w.tp τ) fun e w' => match e with | .returned v => Q v w' | _ => False)
    (hK : ∀ {D' : Nat → Prop} {v : Value} {w' : World}, (∀ b, D b → D' b) → Vs D' v → Sf D' w' → ExtOK Fo D' w' → Q v w' → Can Gl n (G (b.at (a.put o.dst v) (.inRegion ops rest :: k)) cs) w') :
    Can Gl n (G (b.at a (.inRegion ops (i :: rest) :: k)) cs) w := by
  refine Can.callX (rl := fun _ => 0) (sv := fun _ => undef) (t0 := vs.toArray ++ Array.replicate (fn.ntmps - vs.toArray.size) undef) hk ho hwt hop hf hname hb (codeR_zero c) (fun r hr => (hres r hr).imp fun _ q => ⟨q, rfl⟩) hargs (ov_zero _ _).symm (fun v hv => ?_) hw (fun i => ⟨fun q => (by cases q), fun q => (by cases q)⟩) hext hQ hc hK
  rcases Array.mem_append.1 hv with hv | hv
  · exact hA v (by simpa using hv)
  · rw [Array.mem_replicate] at hv
    rw [hv.2]
    exact VR.undef

def spcB (P : Program) (rl : Rl) (o : Oper) : Bool := match o.op with
  | .move (.tmp x) | .assign (.tmp x) => rl x == 1 && dstIs rl 1 o.dst
  | .indexAddr t (.tmp x) (.tmp y) => rl x == 1 && (rl y == 0 && (oneB P t && dstIs rl 2 o.dst))
  | .load t (.tmp x) => rl x == 2 && (scalB P t && pDst rl o.dst)
  | .call c => (match c.callee, c.args, c.argTypes with
    | .builtin .len, ⟨[.tmp x]⟩, ⟨[t]⟩ => rl x == 1 && (sliceB P t && pDst rl o.dst)
    | _, _, _ => false)
  | _ => false
theorem spcB_ok {P : Program} {o : Oper} (h : spcB P rl o = true) : SpcO P rl o := by
  unfold spcB at h
  split at h
  · rename_i x hop
    rw [Bool.and_eq_true] at h
    exact .copy x (.inl hop) (by simpa using h.1) h.2
  · rename_i x hop
    rw [Bool.and_eq_true] at h
    exact .copy x (.inr hop) (by simpa using h.1) h.2
  · rename_i t x y hop
    simp only [Bool.and_eq_true] at h
    exact .adr t x (.tmp y) hop (by simpa using h.1) h.2.1 trivial h.2.2.1 h.2.2.2
  · rename_i t x hop
    simp only [Bool.and_eq_true] at h
    exact .get t x hop (by simpa using h.1) h.2.1 h.2.2
  · rename_i c hop
    split at h
    · rename_i x t h1 h2 h3
      simp only [Bool.and_eq_true] at h
      refine .len x t ?_ (by simpa using h.1) (sliceB_ok h.2.1) h.2.2
      rw [hop]
      cases c
      simp only at h1 h2 h3
      rw [h1, h2, h3]
    · cases h
  · cases h
def opsRB (P : Program) (rl : Rl) (ops : Array Oper) : Bool := ops.all fun o => guardOK rl ops o && (plainO rl o || spcB P rl o)
def codeRB (P : Program) (rl : Rl) : Code → Bool
  | .region _ ops _ => opsRB P rl ops
  | .seq a b => codeRB P rl a && codeRB P rl b
  | .cond c a b => pOpd rl c && (codeRB P rl a && codeRB P rl b)
  | .block _ c | .loop c | .scope c => codeRB P rl c
  | _ => true
theorem codeRB_ok {P : Program} : ∀ {c : Code}, codeRB P rl c = true → CodeR P rl c := by
  have O : ∀ {ops : Array Oper}, opsRB P rl ops = true → OpsR P rl ops := by
    intro ops h o ho
    unfold opsRB at h
    rw [Array.all_eq_true_iff_forall_mem] at h
    have := h o ho
    simp only [Bool.and_eq_true, Bool.or_eq_true] at this
    exact ⟨this.1, this.2.imp id spcB_ok⟩
  intro c
  induction c with
  | region i ops d => exact O
  | seq a b ha hb => intro h; simp only [codeRB, Bool.and_eq_true] at h; exact ⟨ha h.1, hb h.2⟩
  | cond c a b ha hb => intro h; simp only [codeRB, Bool.and_eq_true] at h; exact ⟨h.1, ha h.2.1, hb h.2.2⟩
  | block i c ih => exact ih
  | loop c ih => exact ih
  | scope c ih => exact ih
  | _ => intro _; trivial
end
end Go.Proofs.Ytlndinigbppafaa

/-
  The sum of a text, as plain mathematics: no program in it.
-/
namespace Go.Proofs.Ytlndinigbppafaa

/-- One byte more. -/
def smStep (v : Int) (b : UInt8) : Int := (v * 257 + b.toNat + 1) % 65521
def smFrom (v : Int) (l : List UInt8) : Int := l.foldl smStep v
/-- The document's sum. -/
def sm (l : List UInt8) : Int := smFrom 1 l

theorem smStep_bd (v : Int) (b : UInt8) : 0 ≤ smStep v b ∧ smStep v b ≤ 65520 := by unfold smStep; omega
theorem smFrom_snoc (v : Int) (l : List UInt8) (b : UInt8) : smFrom v (l ++ [b]) = smStep (smFrom v l) b := by simp [smFrom]
theorem smFrom_append (v : Int) (l r : List UInt8) : smFrom v (l ++ r) = smFrom (smFrom v l) r := by simp [smFrom]
theorem smFrom_bd (v : Int) (l : List UInt8) (h : 0 ≤ v ∧ v ≤ 65520) : 0 ≤ smFrom v l ∧ smFrom v l ≤ 65520 := by
  induction l generalizing v with
  | nil => exact h
  | cons b l ih => exact ih _ (smStep_bd v b)
theorem sm_bd (l : List UInt8) : 0 ≤ sm l ∧ sm l ≤ 65520 := smFrom_bd 1 l (by omega)
theorem sm_snoc (l : List UInt8) (b : UInt8) : sm (l ++ [b]) = smStep (sm l) b := smFrom_snoc 1 l b
theorem sm_append (l r : List UInt8) : sm (l ++ r) = smFrom (sm l) r := smFrom_append 1 l r
theorem sm_nil : sm [] = 1 := rfl

theorem take_snoc {α : Type} (l : List α) (k : Nat) (h : k < l.length) : l.take (k + 1) = l.take k ++ [l[k]] := List.take_succ_eq_append_getElem h
theorem bytes_snoc (s : ByteArray) (k : Nat) (h : k < s.size) : s.data.toList.take (k + 1) = s.data.toList.take k ++ [s[k]] := by
  rw [List.take_succ_eq_append_getElem (by simpa using h)]; rfl
theorem flatten_snoc {α : Type} (ls : List (List α)) (k : Nat) (h : k < ls.length) : (ls.take (k + 1)).flatten = (ls.take k).flatten ++ ls[k] := by
  rw [take_snoc ls k h, List.flatten_append]; simp only [List.flatten_cons, List.flatten_nil, List.append_nil]

theorem ret_int {k : IntKind} {a b : Int} (h : a = b) : Ending.returned (.int k a) = .returned (.int k b) := by rw [h]
end Go.Proofs.Ytlndinigbppafaa

/-
  What slices of bytes, of such slices, and of strings hold in a world: no program in it, but the numbers of the types of their elements.
-/
namespace Go.Proofs.Ytlndinigbppafaa
open Go.RowKit

/-- The slice v holds the bytes l. -/
def BytesAt (w : World) (v : Value) (l : List UInt8) : Prop :=
  ∃ ao cap, v = .slice ao l.length cap ∧ (ao = none → cap = 0) ∧ (0 < l.length → ∃ b o cur fr, ao = some ⟨b, o, none⟩ ∧ w.heap[b]? = some (.cells cur 5 fr) ∧ ∀ j (h : j < l.length), cur[o + j]? = some (.int .u8 l[j].toNat))

/-- The slice v holds slices that hold the texts ls. -/
def RowsAt (w : World) (v : Value) (ls : List (List UInt8)) : Prop :=
  ∃ ao cap, v = .slice ao ls.length cap ∧ (0 < ls.length → ∃ b o cur fr, ao = some ⟨b, o, none⟩ ∧ w.heap[b]? = some (.cells cur 24 fr) ∧ ∀ j (h : j < ls.length), ∃ u, cur[o + j]? = some u ∧ BytesAt w u ls[j])

/-- The slice v holds the strings ps. -/
def StringsAt (w : World) (v : Value) (ps : List ByteArray) : Prop :=
  ∃ ao cap, v = .slice ao ps.length cap ∧ (0 < ps.length → ∃ b o, ao = some ⟨b, o, none⟩ ∧ b < w.heap.size ∧ ∀ j (h : j < ps.length), w.cell? ⟨b, o + j, none⟩ = some (.string ps[j]))

/-- Every block of type t is as it was. -/
def KeepsT (t : TypeId) (w w' : World) : Prop := ∀ (b : Nat) (cur : Array Value) (fr : Nat × Nat), w.heap[b]? = some (Obj.cells cur t fr) → w'.heap[b]? = some (Obj.cells cur t fr)

theorem KeepsT.refl (t : TypeId) (w : World) : KeepsT t w w := fun _ _ _ h => h
theorem KeepsT.trans {t : TypeId} {a b c : World} (h : KeepsT t a b) (k : KeepsT t b c) : KeepsT t a c := fun i u f e => k i u f (h i u f e)
theorem lt_of_heap {w : World} {b : Nat} {o : Obj} (h : w.heap[b]? = some o) : b < w.heap.size := (Array.getElem?_eq_some_iff.1 h).1
theorem KeepsT.of_below {t : TypeId} {w w' : World} {B : Nat} (h : Below B w w') (hB : w.heap.size ≤ B) : KeepsT t w w' := fun b cur fr e => by
  rw [h.block b (Nat.lt_of_lt_of_le (lt_of_heap e) hB)]; exact e
theorem KeepsT.alloc {t : TypeId} {a w : World} (h : KeepsT t a w) (o : Obj) : KeepsT t a (w.alloc o) := fun b cur fr e => by
  have := h b cur fr e
  rw [Below.heap_alloc _ _ _ (lt_of_heap this)]; exact this
theorem KeepsT.drew {t : TypeId} {a w : World} (h : KeepsT t a w) : KeepsT t a w.drew := fun b cur fr e => h b cur fr e
/-- Behind an append on a row of another type. -/
theorem KeepsT.grown {t e : TypeId} {a w w' : World} {base size : Nat} {v : Value} {n : Nat} {xs : List Value} (h : KeepsT t a w) (hown : w.ownsRow base e size v n xs) (hg : w.grownBy w' v.ownBlock) (hne : t ≠ e) : KeepsT t a w' := fun b cur fr hb => by
  have h1 := h b cur fr hb
  rw [hg.block b (lt_of_heap h1) ?_]; exact h1
  intro he
  rcases hown.2 with ⟨rfl, _⟩ | ⟨g, cap, cur', rfl, _, hgg, _⟩
  · simp [Value.ownBlock] at he
  · simp [Value.ownBlock] at he
    subst he
    rw [hgg] at h1
    simp at h1
    exact hne h1.2.1.symm

theorem BytesAt.keep {w w' : World} {v : Value} {l : List UInt8} (h : BytesAt w v l) (hb : KeepsT 5 w w') : BytesAt w' v l := by
  obtain ⟨ao, cap, rfl, hz, h⟩ := h
  refine ⟨ao, cap, rfl, hz, fun hl => ?_⟩
  obtain ⟨b, o, cur, fr, rfl, hlt, hc⟩ := h hl
  exact ⟨b, o, cur, fr, rfl, hb _ _ _ hlt, hc⟩

theorem RowsAt.keep {w w' : World} {v : Value} {ls : List (List UInt8)} (h : RowsAt w v ls) (hb : KeepsT 5 w w') (hb2 : KeepsT 24 w w') : RowsAt w' v ls := by
  obtain ⟨ao, cap, rfl, h⟩ := h
  refine ⟨ao, cap, rfl, fun hl => ?_⟩
  obtain ⟨b, o, cur, fr, rfl, hlt, hc⟩ := h hl
  refine ⟨b, o, cur, fr, rfl, hb2 _ _ _ hlt, fun j hj => ?_⟩
  obtain ⟨u, hu, hB'⟩ := hc j hj
  exact ⟨u, hu, hB'.keep hb⟩

theorem BytesAt.cells {w : World} {v : Value} {l : List UInt8} (h : BytesAt w v l) : ∃ ao cap, v = .slice ao l.length cap ∧ (ao = none → cap = 0) ∧ (0 < l.length → ∃ b o, ao = some ⟨b, o, none⟩ ∧ ∀ j (h : j < l.length), w.cell? ⟨b, o + j, none⟩ = some (.int .u8 l[j].toNat)) := by
  obtain ⟨ao, cap, rfl, hz, h⟩ := h
  refine ⟨ao, cap, rfl, hz, fun hl => ?_⟩
  obtain ⟨b, o, cur, fr, rfl, hlt, hc⟩ := h hl
  exact ⟨b, o, rfl, fun j hj => by rw [cell_of_row _ _ _ _ _ _ hlt]; exact hc j hj⟩

theorem RowsAt.cells {w : World} {v : Value} {ls : List (List UInt8)} (h : RowsAt w v ls) : ∃ ao cap, v = .slice ao ls.length cap ∧ (0 < ls.length → ∃ b o, ao = some ⟨b, o, none⟩ ∧ ∀ j (h : j < ls.length), ∃ u, w.cell? ⟨b, o + j, none⟩ = some u ∧ BytesAt w u ls[j]) := by
  obtain ⟨ao, cap, rfl, h⟩ := h
  refine ⟨ao, cap, rfl, fun hl => ?_⟩
  obtain ⟨b, o, cur, fr, rfl, hlt, hc⟩ := h hl
  exact ⟨b, o, rfl, fun j hj => by rw [cell_of_row _ _ _ _ _ _ hlt]; exact hc j hj⟩

/-- What '[]byte(s)' lays. -/
theorem BytesAt.made (w : World) (s : ByteArray) (cap : Nat) (fr : Nat × Nat) : BytesAt (w.alloc (.cells (bytesRow s cap) 5 fr)) (.slice (some ⟨w.heap.size, 0, none⟩) s.size cap) s.data.toList := by
  refine ⟨some ⟨w.heap.size, 0, none⟩, cap, by rw [Array.length_toList]; rfl, fun h => (by cases h), fun _ => ⟨_, _, _, _, rfl, heap_alloc_new w _, fun j hj => ?_⟩⟩
  have hj' : j < s.data.size := by simpa using hj
  rw [Nat.zero_add, bytesRow_at s cap j hj']
  simp

/-- A row that the call made, of slices that hold the texts. -/
theorem RowsAt.of_owns {w : World} {base : Nat} {v : Value} {n : Nat} {us : List Value} {ls : List (List UInt8)} (h : w.ownsRow base 24 1 v n us) (hn : ls.length = n) (hu : ∀ j (h : j < ls.length), ∃ u, us[j]? = some u ∧ BytesAt w u ls[j]) : RowsAt w v ls := by
  subst hn
  rcases h.2 with ⟨rfl, h0⟩ | ⟨g, cap, cur, rfl, _, hgg, _, _, _, htake⟩
  · exact ⟨none, 0, by rw [h0], fun hl => by omega⟩
  · refine ⟨_, cap, rfl, fun _ => ⟨g, 0, cur, _, rfl, hgg, fun j hj => ?_⟩⟩
    obtain ⟨u, h1, h2⟩ := hu j hj
    refine ⟨u, ?_, h2⟩
    rw [← htake, List.getElem?_take] at h1
    split at h1
    · simpa using h1
    · cases h1

/-- Bytes as cells. -/
def bytes8 (l : List UInt8) : List Value := l.map fun b => Value.int .u8 b.toNat
theorem bytes8_length (l : List UInt8) : (bytes8 l).length = l.length := List.length_map _
theorem bytes8_append (l r : List UInt8) : bytes8 (l ++ r) = bytes8 l ++ bytes8 r := List.map_append
theorem bytes8_one (l : List UInt8) : ∀ u ∈ bytes8 l, u.oneCell' = true := by
  intro u hu
  obtain ⟨b, _, rfl⟩ := List.mem_map.1 hu
  rfl
/-- A row of bytes that the call made. -/
theorem BytesAt.of_owns {w : World} {base : Nat} {v : Value} {n : Nat} {l : List UInt8} (h : w.ownsRow base 5 1 v n (bytes8 l)) : BytesAt w v l := by
  have hn : l.length = n := by have := h.1; rw [bytes8_length] at this; omega
  subst hn
  rcases h.2 with ⟨rfl, h0⟩ | ⟨g, cap, cur, rfl, _, hgg, _, _, _, htake⟩
  · exact ⟨none, 0, by rw [h0], fun _ => rfl, fun hl => by omega⟩
  · refine ⟨_, cap, rfl, fun h => (by cases h), fun _ => ⟨g, 0, cur, _, rfl, hgg, fun j hj => ?_⟩⟩
    have h1 : (bytes8 l)[j]? = some (.int .u8 l[j].toNat) := by simp [bytes8, hj]
    rw [← htake, List.getElem?_take] at h1
    split at h1
    · simpa using h1
    · cases h1

/-- A row of slices, as it lies. -/
theorem RowsAt.lit {w : World} {b cap : Nat} {cur : Array Value} {fr : Nat × Nat} {ls : List (List UInt8)} {n : Nat} (hn : n = ls.length) (h : w.heap[b]? = some (.cells cur 24 fr)) (hu : ∀ j (h : j < ls.length), ∃ u, cur[j]? = some u ∧ BytesAt w u ls[j]) : RowsAt w (.slice (some ⟨b, 0, none⟩) n cap) ls := by
  subst hn
  exact ⟨_, _, rfl, fun _ => ⟨b, 0, cur, fr, rfl, h, fun j hj => by rw [Nat.zero_add]; exact hu j hj⟩⟩

/-- All strings, one behind the other. -/
def cat (ps : List ByteArray) : List UInt8 := (ps.map (·.data.toList)).flatten
theorem cat_snoc (ps : List ByteArray) (k : Nat) (h : k < ps.length) : cat (ps.take (k + 1)) = cat (ps.take k) ++ ps[k].data.toList := by
  unfold cat
  rw [take_snoc ps k h, List.map_append, List.flatten_append]
  simp only [List.map_cons, List.map_nil, List.flatten_cons, List.flatten_nil, List.append_nil]
theorem cat_le (ps : List ByteArray) (k : Nat) : (cat (ps.take k)).length ≤ (cat ps).length := by
  have h : cat ps = cat (ps.take k) ++ cat (ps.drop k) := by
    unfold cat
    rw [← List.flatten_append, ← List.map_append, List.take_append_drop]
  rw [h, List.length_append]; omega
theorem mk_append (l : List UInt8) (s : ByteArray) : (⟨l.toArray⟩ : ByteArray) ++ s = ⟨(l ++ s.data.toList).toArray⟩ := by
  cases s with | mk d => rw [ByteArray.mk_append_mk]
theorem mk_size (l : List UInt8) : (⟨l.toArray⟩ : ByteArray).size = l.length := by simp [ByteArray.size]
end Go.Proofs.Ytlndinigbppafaa

/-
  The depth of a tree, the kind of a node, two bytes of a number: plain mathematics.
-/
namespace Go.Proofs.Ytlndinigbppafaa

/-- 2 to the power d. -/
def pw (d : Nat) : Nat := 2 ^ d
theorem pw_zero : pw 0 = 1 := rfl
theorem pw_succ (d : Nat) : pw (d + 1) = 2 * pw d := by unfold pw; rw [Nat.pow_succ]; omega
theorem pw_le {d e : Nat} (h : d ≤ e) : pw d ≤ pw e := Nat.pow_le_pow_right (by omega) h
theorem pw_lt {d e : Nat} (h : d < e) : pw d < pw e := Nat.pow_lt_pow_right (by omega) h
theorem pw_pos (d : Nat) : 0 < pw d := Nat.pow_pos (by omega)
theorem pw_half (d : Nat) (h : 0 < d) : pw d = 2 * pw (d - 1) := by
  obtain ⟨e, rfl⟩ : ∃ e, d = e + 1 := ⟨d - 1, by omega⟩
  rw [Nat.add_sub_cancel]; exact pw_succ e
theorem pw_9 : pw 9 = 512 := rfl
theorem pw_16 : pw 16 = 65536 := rfl
theorem pw_62 : pw 62 = 4611686018427387904 := by decide

/-- D(n). -/
def dep (n : Nat) : Nat := if n ≤ 1 then 0 else Nat.log2 (n - 1) + 1
theorem dep_spec (n : Nat) : n ≤ pw (dep n) := by
  unfold dep; split
  · simpa [pw] using ‹n ≤ 1›
  · have := @Nat.lt_log2_self (n - 1); unfold pw; omega
theorem dep_least (n e : Nat) (h : e < dep n) : pw e < n := by
  unfold dep at h; split at h
  · omega
  · have h1 : pw (Nat.log2 (n - 1)) ≤ n - 1 := Nat.log2_self_le (by omega)
    have h2 : pw e ≤ pw (Nat.log2 (n - 1)) := pw_le (by omega)
    omega
theorem dep_of (n d : Nat) (h1 : n ≤ pw d) (h2 : ∀ e, e < d → pw e < n) : dep n = d := by
  have a := dep_spec n
  rcases Nat.lt_trichotomy (dep n) d with h | h | h
  · have := h2 _ h; omega
  · exact h
  · have := dep_least n d h; omega
theorem dep_le (n d : Nat) (h : n ≤ pw d) : dep n ≤ d := by
  rcases Nat.lt_or_ge d (dep n) with h1 | h1
  · have := dep_least n d h1; omega
  · exact h1

/-- Which kind of node stands at p of depth d in a proof. -/
def kindOf (k M N : Int) (p d : Nat) : Int :=
  if (if k = 2 then ((p : Int) + pw d ≤ M ∨ M ≤ p) else (M < p ∨ (p : Int) + pw d ≤ M)) then 0 else if d = 0 then 1 else if (p : Int) + pw (d - 1) < N then 2 else 3

/-- Two bytes of a number. -/
def two8 (n : Int) : List UInt8 := [UInt8.ofNat (n / 256 % 256).toNat, UInt8.ofNat (n % 256).toNat]
theorem two8_length (n : Int) : (two8 n).length = 2 := rfl
end Go.Proofs.Ytlndinigbppafaa

/-
  Nodes and messages as plain data, their bytes, and how nodes lie in a world.
-/
namespace Go.Proofs.Ytlndinigbppafaa
open Go.RowKit

/-- A byte's number, as a byte. -/
def b8 (x : Int) : UInt8 := UInt8.ofNat x.toNat
theorem b8_nat (x : Int) (h0 : 0 ≤ x) (h1 : x ≤ 255) : ((b8 x).toNat : Int) = x := by
  unfold b8; rw [UInt8.toNat_ofNat_of_lt' (by show x.toNat < 256; omega)]; omega

/-- A node of a pruned tree. -/
structure PN where
  kind : Int
  dig : Int
  ev : ByteArray

/-- A node's bytes. -/
def encN (x : PN) : List UInt8 :=
  b8 x.kind :: ((if x.kind = 0 then two8 x.dig else []) ++ (if x.kind = 1 then b8 x.ev.size :: x.ev.data.toList else []))
def encNs (ns : List PN) : List UInt8 := (ns.map encN).flatten
/-- The bytes ahead of the tree. -/
def encH (k M N R : Int) : List UInt8 := b8 k :: ((if k = 1 then [] else two8 M) ++ (two8 N ++ (if k = 3 then [] else two8 R)))
def encM (k M N R : Int) (ns : List PN) : List UInt8 := encH k M N R ++ encNs ns

theorem encNs_snoc (ns : List PN) (k : Nat) (h : k < ns.length) : encNs (ns.take (k + 1)) = encNs (ns.take k) ++ encN ns[k] := by
  unfold encNs
  rw [take_snoc ns k h, List.map_append, List.flatten_append]
  simp only [List.map_cons, List.map_nil, List.flatten_cons, List.flatten_nil, List.append_nil]
theorem encNs_append (a b : List PN) : encNs (a ++ b) = encNs a ++ encNs b := by unfold encNs; rw [List.map_append, List.flatten_append]
theorem encN_le (x : PN) (m : Nat) (h : x.ev.size ≤ m) : (encN x).length ≤ 4 + m := by
  have e : x.ev.data.toList.length = x.ev.size := by rw [Array.length_toList]; rfl
  unfold encN
  split <;> split <;> simp [two8_length] <;> omega
theorem encNs_le (ns : List PN) (m : Nat) (h : ∀ x ∈ ns, x.ev.size ≤ m) : (encNs ns).length ≤ ns.length * (4 + m) := by
  induction ns with
  | nil => simp [encNs]
  | cons x ns ih =>
    have h1 := encN_le x m (h x (by simp))
    have h2 := ih (fun y hy => h y (by simp [hy]))
    have e : encNs (x :: ns) = encN x ++ encNs ns := by unfold encNs; rw [List.map_cons, List.flatten_cons]
    rw [e, List.length_append, List.length_cons, Nat.succ_mul]; omega
theorem encH_le (k M N R : Int) : (encH k M N R).length ≤ 7 := by
  unfold encH
  split <;> split <;> simp [two8_length]

/-- The nodes' cells. -/
def cellsN (ns : List PN) : List Value := (ns.map fun x => [Value.int .i64 x.kind, .int .i64 x.dig, .string x.ev]).flatten

/-- The slice v holds the nodes ns. -/
def NodesAt (w : World) (v : Value) (ns : List PN) : Prop :=
  ∃ ao cap, v = .slice ao ns.length cap ∧ (ao = none → cap = 0) ∧ (0 < ns.length → ∃ b o cur fr, ao = some ⟨b, o, none⟩ ∧ w.heap[b]? = some (.cells cur 100 fr) ∧
    ∀ j (h : j < ns.length), cur[o + j * 3]? = some (.int .i64 ns[j].kind) ∧ cur[o + j * 3 + 1]? = some (.int .i64 ns[j].dig) ∧ cur[o + j * 3 + 2]? = some (.string ns[j].ev))

theorem NodesAt.keep {w w' : World} {v : Value} {ns : List PN} (h : NodesAt w v ns) (hb : KeepsT 100 w w') : NodesAt w' v ns := by
  obtain ⟨ao, cap, rfl, hz, h⟩ := h
  refine ⟨ao, cap, rfl, hz, fun hl => ?_⟩
  obtain ⟨b, o, cur, fr, rfl, hlt, hc⟩ := h hl
  exact ⟨b, o, cur, fr, rfl, hb _ _ _ hlt, hc⟩

theorem NodesAt.cells {w : World} {v : Value} {ns : List PN} (h : NodesAt w v ns) : ∃ ao cap, v = .slice ao ns.length cap ∧ (ao = none → cap = 0) ∧ (0 < ns.length → ∃ b o, ao = some ⟨b, o, none⟩ ∧ b < w.heap.size ∧
    ∀ j (h : j < ns.length), w.cell? ⟨b, o + j * 3, none⟩ = some (.int .i64 ns[j].kind) ∧ w.cell? ⟨b, o + j * 3 + 1, none⟩ = some (.int .i64 ns[j].dig) ∧ w.cell? ⟨b, o + j * 3 + 2, none⟩ = some (.string ns[j].ev)) := by
  obtain ⟨ao, cap, rfl, hz, h⟩ := h
  refine ⟨ao, cap, rfl, hz, fun hl => ?_⟩
  obtain ⟨b, o, cur, fr, rfl, hlt, hc⟩ := h hl
  refine ⟨b, o, rfl, lt_of_heap hlt, fun j hj => ?_⟩
  rw [cell_of_row _ _ _ _ _ _ hlt, cell_of_row _ _ _ _ _ _ hlt, cell_of_row _ _ _ _ _ _ hlt]
  exact hc j hj

/-- Nodes that lie in a block of whatever type: what is handed in. -/
def NodesG (w : World) (v : Value) (ns : List PN) : Prop :=
  ∃ ao cap, v = .slice ao ns.length cap ∧ (ao = none → cap = 0) ∧ (0 < ns.length → ∃ b o cur t fr, ao = some ⟨b, o, none⟩ ∧ w.heap[b]? = some (.cells cur t fr) ∧
    ∀ j (h : j < ns.length), cur[o + j * 3]? = some (.int .i64 ns[j].kind) ∧ cur[o + j * 3 + 1]? = some (.int .i64 ns[j].dig) ∧ cur[o + j * 3 + 2]? = some (.string ns[j].ev))

theorem NodesAt.any {w : World} {v : Value} {ns : List PN} (h : NodesAt w v ns) : NodesG w v ns := by
  obtain ⟨ao, cap, rfl, hz, h⟩ := h
  refine ⟨ao, cap, rfl, hz, fun hl => ?_⟩
  obtain ⟨b, o, cur, fr, rfl, hlt, hc⟩ := h hl
  exact ⟨b, o, cur, _, fr, rfl, hlt, hc⟩

theorem NodesG.keep {w w' : World} {v : Value} {ns : List PN} (h : NodesG w v ns) (hb : ∀ {t : TypeId}, KeepsT t w w') : NodesG w' v ns := by
  obtain ⟨ao, cap, rfl, hz, h⟩ := h
  refine ⟨ao, cap, rfl, hz, fun hl => ?_⟩
  obtain ⟨b, o, cur, t, fr, rfl, hlt, hc⟩ := h hl
  exact ⟨b, o, cur, t, fr, rfl, hb _ _ _ hlt, hc⟩

theorem NodesG.cells {w : World} {v : Value} {ns : List PN} (h : NodesG w v ns) : ∃ ao cap, v = .slice ao ns.length cap ∧ (ao = none → cap = 0) ∧ (0 < ns.length → ∃ b o, ao = some ⟨b, o, none⟩ ∧ b < w.heap.size ∧
    ∀ j (h : j < ns.length), w.cell? ⟨b, o + j * 3, none⟩ = some (.int .i64 ns[j].kind) ∧ w.cell? ⟨b, o + j * 3 + 1, none⟩ = some (.int .i64 ns[j].dig) ∧ w.cell? ⟨b, o + j * 3 + 2, none⟩ = some (.string ns[j].ev)) := by
  obtain ⟨ao, cap, rfl, hz, h⟩ := h
  refine ⟨ao, cap, rfl, hz, fun hl => ?_⟩
  obtain ⟨b, o, cur, t, fr, rfl, hlt, hc⟩ := h hl
  refine ⟨b, o, rfl, lt_of_heap hlt, fun j hj => ?_⟩
  rw [cell_of_row _ _ _ _ _ _ hlt, cell_of_row _ _ _ _ _ _ hlt, cell_of_row _ _ _ _ _ _ hlt]
  exact hc j hj

/-- The values that a message of two-byte numbers may have. -/
structure SmallM (k M N R : Int) (ns : List PN) : Prop where
  k : 0 ≤ k ∧ k ≤ 255
  m : 0 ≤ M ∧ M ≤ 65535
  n : 0 ≤ N ∧ N ≤ 65535
  r : 0 ≤ R ∧ R ≤ 65535
  len : ns.length ≤ 1000000
  each : ∀ x ∈ ns, (0 ≤ x.kind ∧ x.kind ≤ 255) ∧ (0 ≤ x.dig ∧ x.dig ≤ 65535) ∧ x.ev.size ≤ 255

theorem encHN_le {k M N R : Int} (ns : List PN) (j : Nat) (hS : SmallM k M N R ns) : (encH k M N R ++ encNs (ns.take j)).length ≤ 1000000000 := by
  rw [List.length_append]
  have h0 := hS.len
  have h1 := encH_le k M N R
  have h2 := encNs_le (ns.take j) 255 (fun x hx => (hS.each x (List.mem_of_mem_take hx)).2.2)
  rw [List.length_take] at h2
  have h3 : min j ns.length * (4 + 255) ≤ 1000000 * 259 := Nat.mul_le_mul (by omega) (by omega)
  omega
end Go.Proofs.Ytlndinigbppafaa

/-
  The walks of the two sums: the document's (steleref.Sum) and the program's (stele.Sum, sum.Of).
-/
namespace Go.Proofs.Ytlndinigbppafaa
open Go.RowKit

theorem byte_bd (b : UInt8) : 0 ≤ (b.toNat : Int) ∧ (b.toNat : Int) ≤ 255 := by have := b.toNat_lt; omega
theorem smStep_l (v : Int) (b : UInt8) : smStep v b = (257 * v + b.toNat + 1) % 65521 := by unfold smStep; rw [Int.mul_comm]

set_option maxHeartbeats 400000 in
theorem refSum_any (s : ByteArray) (w : World) (hs : s.size ≤ maxLen) :
    Calls Try.prog 11 #[.string s] w fun e w' => e = .returned (.int .i64 (sm s.data.toList)) ∧ w' = w := by
  unfold maxLen at hs
  go_enter Try.func11, Try.ntmps11
  go_wp2
  go_loop [3, 4] (fun v i => ∃ k : Nat, k ≤ s.size ∧ i = .int .i64 k ∧ v = .int .i64 (sm (s.data.toList.take k))) (fun _ i => s.size - (intOf i).toNat)
  case atStart => exact ⟨0, Nat.zero_le _, rfl, rfl⟩
  case round =>
    obtain ⟨k, hk, rfl, rfl⟩ := hrel
    have hd := sm_bd (s.data.toList.take k)
    by_cases hlt : k < s.size
    · have HS : Hid (sm (s.data.toList.take (k + 1)) = smStep (sm (s.data.toList.take k)) s[k]) := by
        rw [bytes_snoc s k hlt]; exact sm_snoc _ _
      generalize sm (s.data.toList.take k) = v at *
      have hb := byte_bd s[k]
      go_wp2
      go_round
      case rel => exact ⟨k + 1, by omega, by go_num, by rw [HS.out, smStep_l]; try simp only [wrap64_byte]; go_num⟩
      case measure => simp [intOf]; omega
    · go_wp2
      go_ret
      exact ⟨ret_int (by rw [List.take_of_length_le (by simp; omega)]), rfl⟩

set_option maxHeartbeats 400000 in
theorem sumOf_any (ls : List (List UInt8)) (v : Value) (w : World) (hv : RowsAt w v ls) (hn : ls.length ≤ 9223372036854775807) (hl : ∀ l ∈ ls, l.length ≤ 9223372036854775807) :
    Calls Try.prog 29 #[v] w fun e w' => e = .returned (.int .i64 (sm ls.flatten)) ∧ w' = w := by
  obtain ⟨ao, cap, rfl, hc⟩ := hv.cells
  clear hv
  go_enter Try.func29, Try.ntmps29
  go_wp2
  go_loop [3, 10] (fun v i => ∃ k : Nat, k ≤ ls.length ∧ i = .int .i64 k ∧ v = .int .i64 (sm (ls.take k).flatten)) (fun _ i => ls.length - (intOf i).toNat)
  case atStart => exact ⟨0, Nat.zero_le _, rfl, rfl⟩
  case round =>
    obtain ⟨k, hk, rfl, rfl⟩ := hrel
    by_cases hlt : k < ls.length
    · obtain ⟨b, o, rfl, hcell⟩ := hc (by omega)
      obtain ⟨u, hu, hbytes⟩ := hcell k hlt
      obtain ⟨bo, cp, rfl, _, hb⟩ := hbytes.cells
      clear hbytes
      have hll := hl _ (List.getElem_mem hlt)
      have HF : Hid (sm (ls.take (k + 1)).flatten = smFrom (sm (ls.take k).flatten) ls[k]) := by rw [flatten_snoc ls k hlt]; exact sm_append _ _
      have hv0 := sm_bd (ls.take k).flatten
      generalize sm (ls.take k).flatten = v0 at *
      generalize ls[k] = l at *
      clear hcell hc
      go_wp2
      go_loop [3, 16] (fun v i => ∃ j : Nat, j ≤ l.length ∧ i = .int .i64 j ∧ v = .int .i64 (smFrom v0 (l.take j))) (fun _ i => l.length - (intOf i).toNat)
      case atStart => exact ⟨0, Nat.zero_le _, rfl, rfl⟩
      case round =>
        obtain ⟨j, hj, rfl, rfl⟩ := hrel
        have hd := smFrom_bd v0 (l.take j) hv0
        by_cases hjl : j < l.length
        · obtain ⟨bb, oo, rfl, hcb⟩ := hb (by omega)
          have hcj := hcb j hjl
          have hbd := byte_bd l[j]
          have HS : Hid (smFrom v0 (l.take (j + 1)) = smStep (smFrom v0 (l.take j)) l[j]) := by rw [take_snoc l j hjl]; exact smFrom_snoc _ _ _
          generalize smFrom v0 (l.take j) = v1 at *
          clear hcb
          go_wp2
          go_round
          case rel => exact ⟨j + 1, by omega, by go_num, by rw [HS.out]; unfold smStep; first | rfl | (refine congrArg (Value.int .i64) ?_; omega)⟩
          case measure => simp [intOf]; omega
        · have HT : Hid (smFrom v0 (l.take j) = smFrom v0 l) := by rw [List.take_of_length_le (by omega)]; exact rfl
          clear hb
          go_wp2
          go_round
          case rel => exact ⟨k + 1, by omega, by go_num, by rw [HF.out, HT.out]⟩
          case measure => simp [intOf]; omega
    · go_wp2
      go_ret
      exact ⟨ret_int (by rw [List.take_of_length_le (by omega)]), rfl⟩

set_option maxHeartbeats 400000 in
theorem sum_any (ls : List (List UInt8)) (v : Value) (w : World) (hv : RowsAt w v ls) (hn : ls.length ≤ 9223372036854775807) (hl : ∀ l ∈ ls, l.length ≤ 9223372036854775807) :
    Calls Try.prog 10 #[v] w fun e w' => e = .returned (.int .i64 (sm ls.flatten)) ∧ w' = w := by
  go_enter Try.func10, Try.ntmps10
  go_wp2_with (go_at_call 29; refine (sumOf_any ls _ _ hv hn hl).mono ?_; rintro e w' ⟨rfl, rfl⟩)
  go_ret
  exact ⟨rfl, rfl⟩
end Go.Proofs.Ytlndinigbppafaa

/-
  Rows that a call made, and what a call leaves as it was: lemmas that name no function of the program.
-/
namespace Go.Proofs.Ytlndinigbppafaa
open Go.RowKit

theorem grown_of_below {w w' : World} (hb : Below w.heap.size w w') : w.grownBy w' none := ⟨hb.os, hb.tape, hb.output, hb.size, fun k hk _ => hb.block k hk⟩
theorem below_step {a u w' : World} (h : Below a.heap.size a u) (hb : Below u.heap.size u w') : Below a.heap.size a w' := h.trans (hb.mono h.size)
theorem cell_keep {W W' : World} {a : Addr} {u : Value} (h : W.cell? a = some u) (hb : Below W.heap.size W W') : W'.cell? a = some u :=
  (hb.cell (World.block_lt_of_cell? W a h)).trans h
theorem owns_below {w w' : World} {base : Nat} {e : TypeId} {size : Nat} {v : Value} {n : Nat} {xs : List Value} (h : w.ownsRow base e size v n xs) (hb : Below w.heap.size w w') : w'.ownsRow base e size v n xs :=
  h.kept (grown_of_below hb) (by cases hv : v.ownBlock <;> simp)
theorem frozen_keep {W W' : World} {a : Addr} {u : Value} (h : W.cell? a = some u) (hz : W.frozen? a = false) (hb : Below W.heap.size W W') : W'.frozen? a = false :=
  (hb.frozen (World.block_lt_of_cell? W a h)).trans hz
theorem Try.infoNode : (Try.prog.info? 100).map (fun i => (i.zero, i.size, i.bytes)) = some (some (.agg #[.int .i64 0, .int .i64 0, .string ByteArray.empty]), 3, 32) := by kernel_rfl
theorem cellsN_length (ns : List PN) : (cellsN ns).length = ns.length * 3 := by
  induction ns with
  | nil => rfl
  | cons x ns ih =>
    have e : cellsN (x :: ns) = [Value.int .i64 x.kind, .int .i64 x.dig, .string x.ev] ++ cellsN ns := by unfold cellsN; rw [List.map_cons, List.flatten_cons]
    rw [e, List.length_append, ih, List.length_cons]; simp; omega
theorem cellsN_append (a b : List PN) : cellsN (a ++ b) = cellsN a ++ cellsN b := by unfold cellsN; rw [List.map_append, List.flatten_append]
theorem cellsN_one (ns : List PN) : ∀ u ∈ cellsN ns, u.oneCell' = true := by
  intro u hu
  unfold cellsN at hu
  obtain ⟨l, hl, hu⟩ := List.mem_flatten.1 hu
  obtain ⟨x, _, rfl⟩ := List.mem_map.1 hl
  simp at hu
  rcases hu with rfl | rfl | rfl <;> rfl
theorem cellsN_get (ns : List PN) (j r : Nat) (hj : j < ns.length) (hr : r < 3) : (cellsN ns)[j * 3 + r]? = [Value.int .i64 ns[j].kind, .int .i64 ns[j].dig, .string ns[j].ev][r]? := by
  induction ns generalizing j with
  | nil => simp at hj
  | cons x ns ih =>
    have e : cellsN (x :: ns) = [Value.int .i64 x.kind, .int .i64 x.dig, .string x.ev] ++ cellsN ns := by unfold cellsN; rw [List.map_cons, List.flatten_cons]
    rw [e]
    cases j with
    | zero =>
      rw [List.getElem?_append_left (by simp; omega)]
      simp
    | succ j =>
      rw [List.getElem?_append_right (by simp; omega)]
      have e2 : (j + 1) * 3 + r - [Value.int .i64 x.kind, .int .i64 x.dig, .string x.ev].length = j * 3 + r := by simp; omega
      rw [e2, ih j (by simpa using hj)]
      rfl
/-- A row of nodes that the call made. -/
theorem NodesAt.of_owns {w : World} {base : Nat} {v : Value} {n : Nat} {ns : List PN} (h : w.ownsRow base 100 3 v n (cellsN ns)) : NodesAt w v ns := by
  have hn : ns.length = n := by have := h.1; rw [cellsN_length] at this; omega
  subst hn
  rcases h.2 with ⟨rfl, h0⟩ | ⟨g, cap, cur, rfl, _, hgg, _, _, _, htake⟩
  · exact ⟨none, 0, by rw [h0], fun _ => rfl, fun hl => by omega⟩
  · refine ⟨_, cap, rfl, fun h => (by cases h), fun _ => ⟨g, 0, cur, _, rfl, hgg, fun j hj => ?_⟩⟩
    have H : ∀ r, r < 3 → cur[j * 3 + r]? = [Value.int .i64 ns[j].kind, .int .i64 ns[j].dig, .string ns[j].ev][r]? := by
      intro r hr
      have h1 := cellsN_get ns j r hj hr
      rw [← htake, List.getElem?_take, if_pos (by omega)] at h1
      simpa using h1
    rw [Nat.zero_add]
    exact ⟨H 0 (by omega), H 1 (by omega), H 2 (by omega)⟩
/-- The cells of nodes, as an append reads them. -/
theorem NodesAt.news {w : World} {ao : Option Addr} {n cap : Nat} {ns : List PN} (h : NodesAt w (.slice ao n cap) ns) (a : Addr) (ha : ao = some a) : ∀ j u, (cellsN ns)[j]? = some u → w.cell? (a.add j) = some u := by
  intro j u hu
  obtain ⟨ao', cap', e, _, hh⟩ := h
  simp only [Value.slice.injEq] at e
  obtain ⟨rfl, rfl, rfl⟩ := e
  have hjl : j < ns.length * 3 := by have := (List.getElem?_eq_some_iff.1 hu).1; rwa [cellsN_length] at this
  obtain ⟨b, o, cur, fr, e, hg, hc⟩ := hh (by omega)
  rw [e] at ha
  cases ha
  rw [show (⟨b, o, none⟩ : Addr).add j = ⟨b, o + j, none⟩ by unfold Addr.add; split <;> simp_all, cell_of_row _ _ _ _ _ _ hg]
  obtain ⟨c0, c1, c2⟩ := hc (j / 3) (by omega)
  have hget := cellsN_get ns (j / 3) (j % 3) (by omega) (by omega)
  rw [show j / 3 * 3 + j % 3 = j by omega, hu] at hget
  have hr : j % 3 = 0 ∨ j % 3 = 1 ∨ j % 3 = 2 := by omega
  rcases hr with hr | hr | hr
  · rw [hr] at hget; rw [show o + j = o + j / 3 * 3 by omega, c0]; exact hget.symm
  · rw [hr] at hget; rw [show o + j = o + j / 3 * 3 + 1 by omega, c1]; exact hget.symm
  · rw [hr] at hget; rw [show o + j = o + j / 3 * 3 + 2 by omega, c2]; exact hget.symm
theorem owns_base {w : World} {base base' : Nat} {e : TypeId} {size : Nat} {v : Value} {n : Nat} {xs : List Value} (h : w.ownsRow base e size v n xs) (hb : base' ≤ base) : w.ownsRow base' e size v n xs := by
  obtain ⟨h1, h2⟩ := h
  refine ⟨h1, ?_⟩
  rcases h2 with h2 | ⟨g, cap, cur, hv, hg, r⟩
  · exact .inl h2
  · exact .inr ⟨g, cap, cur, hv, by omega, r⟩
/-- All blocks but a log's own and its row's are as they were. -/
structure Frame2 (w w' : World) (B : Nat) (row : Option Nat) : Prop where
  os : w'.os = w.os
  tape : w'.tape = w.tape
  output : w'.output = w.output
  size : w.heap.size ≤ w'.heap.size
  block : ∀ k, k < w.heap.size → k ≠ B → some k ≠ row → w'.heap[k]? = w.heap[k]?
theorem Frame2.below {w w' : World} {B b : Nat} {row : Option Nat} (h : Frame2 w w' B row) (hB : b ≤ B) (hr : ∀ k, row = some k → b ≤ k) (hw : b ≤ w.heap.size) : Below b w w' :=
  ⟨h.os, h.tape, h.output, h.size, fun k hk => h.block k (by omega) (by omega) (fun e => by have := hr k e.symm; omega)⟩
theorem owns_frame2 {w w' : World} {B base : Nat} {row : Option Nat} {e : TypeId} {size : Nat} {v : Value} {n : Nat} {xs : List Value} (h : w.ownsRow base e size v n xs) (hF : Frame2 w w' B row) (hB : v.ownBlock ≠ some B) (hr : ∀ g, v.ownBlock = some g → row ≠ some g) : w'.ownsRow base e size v n xs := by
  obtain ⟨h1, h2⟩ := h
  refine ⟨h1, ?_⟩
  rcases h2 with h2 | ⟨g, cap, cur, rfl, hb, hg, r⟩
  · exact .inl h2
  · refine .inr ⟨g, cap, cur, rfl, hb, ?_, r⟩
    rw [hF.block g (lt_of_heap hg) (fun e => hB (by rw [← e]; rfl)) (fun e => hr g rfl e.symm)]
    exact hg
end Go.Proofs.Ytlndinigbppafaa

/-
  The walks of the program's wire: Two, Join.
-/
namespace Go.Proofs.Ytlndinigbppafaa
open Go.RowKit

theorem Try.infoByte : (Try.prog.info? 5).map (fun i => (i.zero, i.size, i.bytes)) = some (some (.int .u8 0), 1, 1) := by kernel_rfl

set_option maxRecDepth 100000 in
set_option maxHeartbeats 400000 in
theorem wireTwo_any (n : Int) (w : World) (h0 : 0 ≤ n) (h1 : n ≤ 65535) :
    Calls Try.prog 87 #[.int .i64 n] w fun e w' => e = .returned (.slice (some ⟨w.heap.size, 0, none⟩) 2 2) ∧ w' = w.alloc (.cells #[.int .u8 (n / 256), .int .u8 (n % 256)] 5) := by
  go_enter Try.func87, Try.ntmps87
  go_wp2
  go_ret
  exact ⟨rfl, rfl⟩

theorem two8_at (n : Int) (w : World) (b : Nat) (h0 : 0 ≤ n) (h1 : n ≤ 65535) (hb : b = w.heap.size) : BytesAt (w.alloc (.cells #[.int .u8 (n / 256), .int .u8 (n % 256)] 5)) (.slice (some ⟨b, 0, none⟩) 2 2) (two8 n) := by
  subst hb
  refine ⟨_, _, rfl, fun h => (by cases h), fun _ => ⟨_, _, _, _, rfl, heap_alloc_new w _, fun j hj => ?_⟩⟩
  have e1 := b8_nat (n / 256 % 256) (by omega) (by omega)
  have e2 := b8_nat (n % 256) (by omega) (by omega)
  unfold b8 at e1 e2
  match j, hj with
  | 0, _ => show some (Value.int .u8 (n / 256)) = some (.int .u8 ((UInt8.ofNat (n / 256 % 256).toNat).toNat : Int)); rw [e1, show n / 256 % 256 = n / 256 by omega]
  | 1, _ => show some (Value.int .u8 (n % 256)) = some (.int .u8 ((UInt8.ofNat (n % 256).toNat).toNat : Int)); rw [e2]

set_option maxRecDepth 100000 in
set_option maxHeartbeats 400000 in
theorem join_any (ls : List (List UInt8)) (v : Value) (w : World) (hv : RowsAt w v ls) (hn : ls.length ≤ 2000000) (hl : ls.flatten.length ≤ 1000000000) :
    Calls Try.prog 71 #[v] w fun e w' => ∃ v', e = .returned v' ∧ w'.ownsRow w.heap.size 5 1 v' ls.flatten.length (bytes8 ls.flatten) ∧ Below w.heap.size w w' := by
  obtain ⟨ao, cap, rfl, hc⟩ := hv.cells
  clear hv
  obtain ⟨i0, hi, hz0, hz1, hz2⟩ := info_parts Try.infoByte
  go_enter Try.func71, Try.ntmps71
  go_wp2
  go_loopw [3, 8] (fun v i wr => ∃ k : Nat, k ≤ ls.length ∧ i = .int .i64 k ∧ wr.ownsRow w.heap.size 5 1 v (ls.take k).flatten.length (bytes8 (ls.take k).flatten) ∧ Below w.heap.size w wr) (fun _ i _ => ls.length - (intOf i).toNat)
  case atStart => exact ⟨0, Nat.zero_le _, rfl, World.ownsRow_nil _ _ _ _, Below.refl _ _⟩
  case round =>
    obtain ⟨k, hk, rfl, hown, hbel⟩ := hrel
    have hsz := hbel.size
    by_cases hlt : k < ls.length
    · obtain ⟨b, o, rfl, hcell⟩ := hc (by omega)
      obtain ⟨u, hu, hbytes⟩ := hcell k hlt
      have hbB : b < w.heap.size := World.block_lt_of_cell? w _ hu
      have hu' := (hbel.cell (p := ⟨b, o + k, none⟩) hbB).trans hu
      have hb2 := hbytes.keep (KeepsT.of_below hbel (Nat.le_refl _))
      obtain ⟨bo, cp, rfl, hz, hb⟩ := hb2.cells
      have HF : Hid ((ls.take (k + 1)).flatten = (ls.take k).flatten ++ ls[k]) := flatten_snoc ls k hlt
      have hfl : (ls.take k).flatten.length + ls[k].length ≤ 1000000000 := by
        have e : ls.flatten = (ls.take (k + 1)).flatten ++ (ls.drop (k + 1)).flatten := by rw [← List.flatten_append, List.take_append_drop]
        have e2 := congrArg List.length e
        rw [HF.out, List.length_append, List.length_append] at e2
        omega
      clear hcell hc hu hbytes hb2
      generalize hL : ls[k] = l at *
      generalize hM : (ls.take k).flatten = M at *
      clear hL hM
      cases bo with
      | none =>
        have hl0 : l.length = 0 := by
          rcases Nat.eq_zero_or_pos l.length with h | h
          · exact h
          · obtain ⟨_, _, h1, _⟩ := hb h; cases h1
        obtain rfl : l = [] := List.eq_nil_of_length_eq_zero hl0
        obtain rfl := hz rfl
        rw [List.append_nil] at HF
        clear hb hz hl0
        go_wp2_with (at_builtin; refine wpList_append_own_none rfl (.tmp 12) (.tmp 13) 24 rfl w.heap.size 5 i0 1 Try.underlying24 hi _ _ _ rfl hown rfl ?_)
        go_roundw
        case rel => exact ⟨k + 1, by omega, by go_num, by rw [HF.out]; exact hown, hbel⟩
        case measure => simp [intOf]; omega
      | some ad =>
        go_wp2_with (at_builtin; refine wpList_append_own _ rfl (.tmp 12) (.tmp 13) 24 rfl w.heap.size 5 i0 (.int .u8 0) 1 1 Try.underlying24 hi hz0 hz1 hz2 rfl (by decide) _ _ _ rfl hown ad l.length cp (bytes8 l) rfl (by rw [bytes8_length]; omega) ?c1 (bytes8_one l) (by unfold maxLen; omega) (by omega) hsz ?_)
        case c1 =>
          intro j u hj
          have hjl : j < l.length := by have := (List.getElem?_eq_some_iff.1 hj).1; rwa [bytes8_length] at this
          obtain ⟨b', o', h1, h2⟩ := hb (by omega)
          cases h1
          have h3 : (bytes8 l)[j]? = some (.int .u8 l[j].toNat) := by simp [bytes8, hjl]
          rw [h3] at hj
          cases hj
          rw [show (⟨b', o', none⟩ : Addr).add j = ⟨b', o' + j, none⟩ by unfold Addr.add; split <;> simp_all]
          exact h2 j hjl
        · intro v' w1 hown' hgrow _
          have R := hbel.grown hgrow hsz (fun g hg => (hown.lt g hg).1)
          clear hown hbel hgrow hu'
          go_wp2
          go_roundw
          case rel => exact ⟨k + 1, by omega, by go_num, by rw [HF.out, List.length_append, bytes8_append]; exact hown', R⟩
          case measure => simp [intOf]; omega
    · have hkl : k = ls.length := by omega
      subst hkl
      rw [List.take_length] at hown
      go_wp2
      go_ret
      exact ⟨_, rfl, hown, hbel⟩
end Go.Proofs.Ytlndinigbppafaa

/-
  The walks of the program's wire: node.
-/
namespace Go.Proofs.Ytlndinigbppafaa
open Go.RowKit

theorem byte_at (x : Int) (w : World) (b : Nat) (h0 : 0 ≤ x) (h1 : x ≤ 255) (hb : b = w.heap.size) : BytesAt (w.alloc (.cells #[.int .u8 x] 5)) (.slice (some ⟨b, 0, none⟩) 1 1) [b8 x] := by
  subst hb
  refine ⟨_, _, rfl, fun h => (by cases h), fun _ => ⟨_, _, _, _, rfl, heap_alloc_new w _, fun j hj => ?_⟩⟩
  match j, hj with
  | 0, _ => show some (Value.int .u8 x) = some (.int .u8 ((b8 x).toNat : Int)); rw [b8_nat x h0 h1]
theorem made_at (w : World) (s : ByteArray) (b n cap : Nat) (fr : Nat × Nat) (hb : b = w.heap.size) (hn : n = s.size) : BytesAt (w.alloc (.cells (bytesRow s cap) 5 fr)) (.slice (some ⟨b, 0, none⟩) n cap) s.data.toList := by
  subst hb hn
  exact BytesAt.made w s cap fr
theorem heap_new (w : World) (o : Obj) (b : Nat) (hb : b = w.heap.size) : (w.alloc o).heap[b]? = some o := by subst hb; exact heap_alloc_new w o
theorem heap_old (w : World) (o : Obj) (b : Nat) (x : Obj) (h : w.heap[b]? = some x) : (w.alloc o).heap[b]? = some x := by rw [Below.heap_alloc _ _ _ (lt_of_heap h)]; exact h
/-- Two slices of bytes in a new row. -/
theorem rows2 (w : World) (b : Nat) (u0 u1 : Value) (l0 l1 : List UInt8) (hb : b = w.heap.size) (h0 : BytesAt w u0 l0) (h1 : BytesAt w u1 l1) : RowsAt (w.alloc (.cells #[u0, u1] 24)) (.slice (some ⟨b, 0, none⟩) 2 2) [l0, l1] := by
  refine RowsAt.lit rfl (heap_new w _ b hb) fun j hj => ?_
  match j, hj with
  | 0, _ => exact ⟨u0, rfl, h0.keep ((KeepsT.refl _ w).alloc _)⟩
  | 1, _ => exact ⟨u1, rfl, h1.keep ((KeepsT.refl _ w).alloc _)⟩
theorem rows3 (w : World) (b : Nat) (u0 u1 u2 : Value) (l0 l1 l2 : List UInt8) (hb : b = w.heap.size) (h0 : BytesAt w u0 l0) (h1 : BytesAt w u1 l1) (h2 : BytesAt w u2 l2) : RowsAt (w.alloc (.cells #[u0, u1, u2] 24)) (.slice (some ⟨b, 0, none⟩) 3 3) [l0, l1, l2] := by
  refine RowsAt.lit rfl (heap_new w _ b hb) fun j hj => ?_
  match j, hj with
  | 0, _ => exact ⟨u0, rfl, h0.keep ((KeepsT.refl _ w).alloc _)⟩
  | 1, _ => exact ⟨u1, rfl, h1.keep ((KeepsT.refl _ w).alloc _)⟩
  | 2, _ => exact ⟨u2, rfl, h2.keep ((KeepsT.refl _ w).alloc _)⟩
theorem rows4 (w : World) (b : Nat) (u0 u1 u2 u3 : Value) (l0 l1 l2 l3 : List UInt8) (hb : b = w.heap.size) (h0 : BytesAt w u0 l0) (h1 : BytesAt w u1 l1) (h2 : BytesAt w u2 l2) (h3 : BytesAt w u3 l3) : RowsAt (w.alloc (.cells #[u0, u1, u2, u3] 24)) (.slice (some ⟨b, 0, none⟩) 4 4) [l0, l1, l2, l3] := by
  refine RowsAt.lit rfl (heap_new w _ b hb) fun j hj => ?_
  match j, hj with
  | 0, _ => exact ⟨u0, rfl, h0.keep ((KeepsT.refl _ w).alloc _)⟩
  | 1, _ => exact ⟨u1, rfl, h1.keep ((KeepsT.refl _ w).alloc _)⟩
  | 2, _ => exact ⟨u2, rfl, h2.keep ((KeepsT.refl _ w).alloc _)⟩
  | 3, _ => exact ⟨u3, rfl, h3.keep ((KeepsT.refl _ w).alloc _)⟩

/-- A new row, written out, is owned. -/
theorem owns_lit (w : World) (base b : Nat) (cur : Array Value) (t : TypeId) (n : Nat) (us : List Value) (hb : b = w.heap.size) (hbase : base ≤ b) (hn : n = cur.size) (hm : n ≤ maxLen) (hu : us = cur.toList) : (w.alloc (.cells cur t)).ownsRow base t 1 (.slice (some ⟨b, 0, none⟩) n n) n us := by
  subst hb hn hu
  refine ⟨by simp, .inr ⟨_, _, cur, rfl, hbase, heap_alloc_new w _, Nat.le_refl _, hm, by simp, ?_⟩⟩
  rw [List.take_of_length_le (by simp)]
theorem keepA {t : TypeId} (w : World) (o : Obj) : KeepsT t w (w.alloc o) := (KeepsT.refl t w).alloc o
theorem keepD {t : TypeId} (w : World) : KeepsT t w w.drew := (KeepsT.refl t w).drew

set_option maxRecDepth 100000 in
set_option maxHeartbeats 1000000 in
theorem wireNode_any (x : PN) (w : World) (hk : 0 ≤ x.kind ∧ x.kind ≤ 255) (hd : 0 ≤ x.dig ∧ x.dig ≤ 65535) (he : x.ev.size ≤ 255) :
    Calls Try.prog 70 #[.agg #[.int .i64 x.kind, .int .i64 x.dig, .string x.ev]] w fun e w' => ∃ v', e = .returned v' ∧ BytesAt w' v' (encN x) ∧ Below w.heap.size w w' := by
  obtain ⟨hk0, hk1⟩ := hk
  obtain ⟨hd0, hd1⟩ := hd
  have ex0 : (0 : Int) ≤ (x.ev.size : Int) := by omega
  have ex1 : (x.ev.size : Int) ≤ 255 := by omega
  have hcv := fun u s => @run_bytes_of_string Try.prog u 9 24 5 s Try.underlying9 Try.underlying24 Try.underlying5
  rcases (show x.kind = 0 ∨ x.kind = 1 ∨ (¬ x.kind = 0 ∧ ¬ x.kind = 1) by omega) with k0 | k1 | ⟨k0, k1⟩
  · have b0 : (x.kind == 0) = true := by simp [k0]
    have b1 : (x.kind == 1) = false := by simp [k0]
    have HE : Hid (encN x = [[b8 x.kind], two8 x.dig].flatten) := by simp [Hid, encN, k0]
    clear k0
    go_enter Try.func70, Try.ntmps70
    go_wp2_with (go_at_call 87; refine (wireTwo_any _ _ (by assumption) (by assumption)).mono ?_; rintro e w' ⟨rfl, rfl⟩)
    refine (join_any [[b8 x.kind], two8 x.dig] _ _ (rows2 _ _ _ _ _ _ (by simp) ((byte_at _ _ _ hk0 hk1 (by simp)).keep (keepA _ _)) (two8_at _ _ _ hd0 hd1 (by simp))) (by simp) (by simp [two8])).mono ?_
    rintro e w' ⟨v', rfl, hown, hbel⟩
    go_wp2
    go_ret
    exact ⟨_, rfl, by rw [HE.out]; exact BytesAt.of_owns hown, ((((((Below.refl _ _).alloc (Nat.le_refl _) _).alloc (by simp) _).alloc (by simp; omega) _).alloc (by simp; omega) _).trans (hbel.mono (by simp; omega)))⟩
  · have b0 : (x.kind == 0) = false := by simp [k1]
    have b1 : (x.kind == 1) = true := by simp [k1]
    have HE : Hid (encN x = [[b8 x.kind], [b8 x.ev.size], x.ev.data.toList].flatten) := by simp [Hid, encN, k1]
    clear k1
    go_enter Try.func70, Try.ntmps70
    go_wp2_with fail
    refine (join_any [[b8 x.kind], [b8 x.ev.size], x.ev.data.toList] _ _ ((rows3 _ _ _ _ _ _ _ _ (by simp) (((byte_at _ _ _ hk0 hk1 (by simp)).keep (keepA _ _)).keep (keepA _ _)) ((byte_at _ _ _ ex0 ex1 (by simp)).keep (keepA _ _)) (made_at _ _ _ _ _ _ (by simp) rfl)).keep (keepD _) (keepD _)) (by simp) (by rw [← HE.out]; have := encN_le x 255 he; omega)).mono ?_
    rintro e w' ⟨v', rfl, hown, hbel⟩
    go_wp2
    go_ret
    exact ⟨_, rfl, by rw [HE.out]; exact BytesAt.of_owns hown, ((((((((Below.refl _ _).alloc (Nat.le_refl _) _).alloc (by simp) _).alloc (by simp; omega) _).alloc (by simp; omega) _).alloc (by simp; omega) _).drew).trans (hbel.mono (by simp; omega)))⟩
  · have b0 : (x.kind == 0) = false := by simp [k0]
    have b1 : (x.kind == 1) = false := by simp [k1]
    have HE : Hid (encN x = [b8 x.kind]) := by simp [Hid, encN, k0, k1]
    clear k0 k1
    go_enter Try.func70, Try.ntmps70
    go_wp2
    go_ret
    exact ⟨_, rfl, by rw [HE.out]; exact byte_at _ _ _ hk0 hk1 (by simp), ((Below.refl _ _).alloc (Nat.le_refl _) _).alloc (by simp) _⟩

set_option maxRecDepth 100000 in
set_option maxHeartbeats 1000000 in
theorem wireHead_any (k M N R : Int) (T : Value) (w : World) (hk : 0 ≤ k ∧ k ≤ 255) (hm : 0 ≤ M ∧ M ≤ 65535) (hn : 0 ≤ N ∧ N ≤ 65535) (hr : 0 ≤ R ∧ R ≤ 65535) (h3 : k = 1 ∨ k = 2 ∨ k = 3) :
    Calls Try.prog 69 #[.agg #[.int .i64 k, .int .i64 M, .int .i64 N, .int .i64 R, T]] w fun e w' => ∃ (v' : Value) (us : List Value) (ls : List (List UInt8)), e = .returned v' ∧ w'.ownsRow w.heap.size 24 1 v' us.length us ∧ ls.flatten = encH k M N R ∧ ls.length = us.length ∧ us.length ≤ 4 ∧ (∀ j (h : j < ls.length), ∃ u, us[j]? = some u ∧ BytesAt w' u ls[j]) ∧ Below w.heap.size w w' := by
  obtain ⟨hk0, hk1⟩ := hk
  obtain ⟨hm0, hm1⟩ := hm
  obtain ⟨hn0, hn1⟩ := hn
  obtain ⟨hr0, hr1⟩ := hr
  rcases h3 with k1 | k2 | k3
  · have b0 : (k == 1) = true := by simp [k1]
    have HE : Hid (encH k M N R = [[b8 k], two8 N, two8 R].flatten) := by simp [Hid, encH, k1]
    clear k1
    go_enter Try.func69, Try.ntmps69
    go_wp2
    have hB := byte_at k (w.alloc (.cells #[.int .i64 k, .int .i64 M, .int .i64 N, .int .i64 R, T] 42)) (w.heap.size + 1) hk0 hk1 (by simp)
    have fN : ((w.alloc (.cells #[.int .i64 k, .int .i64 M, .int .i64 N, .int .i64 R, T] 42)).alloc (.cells #[.int .u8 k] 5)).cell? ⟨w.heap.size, 2, none⟩ = some (.int .i64 N) := by simp
    have fR : ((w.alloc (.cells #[.int .i64 k, .int .i64 M, .int .i64 N, .int .i64 R, T] 42)).alloc (.cells #[.int .u8 k] 5)).cell? ⟨w.heap.size, 3, none⟩ = some (.int .i64 R) := by simp
    have hW : Below w.heap.size w ((w.alloc (.cells #[.int .i64 k, .int .i64 M, .int .i64 N, .int .i64 R, T] 42)).alloc (.cells #[.int .u8 k] 5)) := ((Below.refl _ _).alloc (Nat.le_refl _) _).alloc (by simp) _
    generalize (w.alloc (.cells #[.int .i64 k, .int .i64 M, .int .i64 N, .int .i64 R, T] 42)).alloc (.cells #[.int .u8 k] 5) = W at hB fN fR hW ⊢
    have hWs := hW.size
    go_region_held3 (fun w' => w'.cell? ⟨w.heap.size, 2, none⟩ = some (.int .i64 N) ∧ w'.cell? ⟨w.heap.size, 3, none⟩ = some (.int .i64 R)) (exact ⟨cell_keep fN (by repeat (first | exact Below.refl _ _ | refine Below.drew ?_ | refine Below.alloc ?_ (by first | omega | (simp; omega) | simp) _)), cell_keep fR (by repeat (first | exact Below.refl _ _ | refine Below.drew ?_ | refine Below.alloc ?_ (by first | omega | (simp; omega) | simp) _))⟩)
      (first | (go_at_call 87; refine (wireTwo_any _ _ (by assumption) (by assumption)).mono ?_; rintro e w' ⟨rfl, rfl⟩))
    go_wp2
    go_ret
    refine ⟨_, [.slice (some ⟨w.heap.size + 1, 0, none⟩) 1 1, .slice (some ⟨W.heap.size, 0, none⟩) 2 2, .slice (some ⟨W.heap.size + 1, 0, none⟩) 2 2], [[b8 k], two8 N, two8 R], rfl, (owns_lit _ _ _ _ _ 3 _ (by simp) (by omega) rfl (by decide) rfl).drew, HE.out.symm, rfl, (by simp), fun j hj => ?_, ?_⟩
    · match j, hj with
      | 0, _ => exact ⟨_, rfl, ((((hB).keep (keepA _ _)).keep (keepA _ _)).keep (keepA _ _)).keep (keepD _)⟩
      | 1, _ => exact ⟨_, rfl, (((two8_at N W (W.heap.size) hn0 hn1 (by simp)).keep (keepA _ _)).keep (keepA _ _)).keep (keepD _)⟩
      | 2, _ => exact ⟨_, rfl, ((two8_at R (W.alloc (.cells #[.int .u8 (N / 256), .int .u8 (N % 256)] 5)) (W.heap.size + 1) hr0 hr1 (by simp)).keep (keepA _ _)).keep (keepD _)⟩
    · exact ((((hW).alloc (by first | omega | (simp; omega)) _).alloc (by first | omega | (simp; omega)) _).alloc (by first | omega | (simp; omega)) _).drew
  · have b0 : (k == 1) = false := by simp [k2]
    have b1 : (k == 2) = true := by simp [k2]
    have HE : Hid (encH k M N R = [[b8 k], two8 M, two8 N, two8 R].flatten) := by simp [Hid, encH, k2]
    clear k2
    go_enter Try.func69, Try.ntmps69
    go_wp2
    have hB := byte_at k (w.alloc (.cells #[.int .i64 k, .int .i64 M, .int .i64 N, .int .i64 R, T] 42)) (w.heap.size + 1) hk0 hk1 (by simp)
    have fM : ((w.alloc (.cells #[.int .i64 k, .int .i64 M, .int .i64 N, .int .i64 R, T] 42)).alloc (.cells #[.int .u8 k] 5)).cell? ⟨w.heap.size, 1, none⟩ = some (.int .i64 M) := by simp
    have fN : ((w.alloc (.cells #[.int .i64 k, .int .i64 M, .int .i64 N, .int .i64 R, T] 42)).alloc (.cells #[.int .u8 k] 5)).cell? ⟨w.heap.size, 2, none⟩ = some (.int .i64 N) := by simp
    have fR : ((w.alloc (.cells #[.int .i64 k, .int .i64 M, .int .i64 N, .int .i64 R, T] 42)).alloc (.cells #[.int .u8 k] 5)).cell? ⟨w.heap.size, 3, none⟩ = some (.int .i64 R) := by simp
    have hW : Below w.heap.size w ((w.alloc (.cells #[.int .i64 k, .int .i64 M, .int .i64 N, .int .i64 R, T] 42)).alloc (.cells #[.int .u8 k] 5)) := ((Below.refl _ _).alloc (Nat.le_refl _) _).alloc (by simp) _
    generalize (w.alloc (.cells #[.int .i64 k, .int .i64 M, .int .i64 N, .int .i64 R, T] 42)).alloc (.cells #[.int .u8 k] 5) = W at hB fM fN fR hW ⊢
    have hWs := hW.size
    go_region_held3 (fun w' => w'.cell? ⟨w.heap.size, 1, none⟩ = some (.int .i64 M) ∧ w'.cell? ⟨w.heap.size, 2, none⟩ = some (.int .i64 N) ∧ w'.cell? ⟨w.heap.size, 3, none⟩ = some (.int .i64 R)) (exact ⟨cell_keep fM (by repeat (first | exact Below.refl _ _ | refine Below.drew ?_ | refine Below.alloc ?_ (by first | omega | (simp; omega) | simp) _)), cell_keep fN (by repeat (first | exact Below.refl _ _ | refine Below.drew ?_ | refine Below.alloc ?_ (by first | omega | (simp; omega) | simp) _)), cell_keep fR (by repeat (first | exact Below.refl _ _ | refine Below.drew ?_ | refine Below.alloc ?_ (by first | omega | (simp; omega) | simp) _))⟩)
      (first | (go_at_call 87; refine (wireTwo_any _ _ (by assumption) (by assumption)).mono ?_; rintro e w' ⟨rfl, rfl⟩))
    go_wp2
    go_ret
    refine ⟨_, [.slice (some ⟨w.heap.size + 1, 0, none⟩) 1 1, .slice (some ⟨W.heap.size, 0, none⟩) 2 2, .slice (some ⟨W.heap.size + 1, 0, none⟩) 2 2, .slice (some ⟨W.heap.size + 1 + 1, 0, none⟩) 2 2], [[b8 k], two8 M, two8 N, two8 R], rfl, (owns_lit _ _ _ _ _ 4 _ (by simp) (by omega) rfl (by decide) rfl).drew, HE.out.symm, rfl, (by simp), fun j hj => ?_, ?_⟩
    · match j, hj with
      | 0, _ => exact ⟨_, rfl, (((((hB).keep (keepA _ _)).keep (keepA _ _)).keep (keepA _ _)).keep (keepA _ _)).keep (keepD _)⟩
      | 1, _ => exact ⟨_, rfl, ((((two8_at M W (W.heap.size) hm0 hm1 (by simp)).keep (keepA _ _)).keep (keepA _ _)).keep (keepA _ _)).keep (keepD _)⟩
      | 2, _ => exact ⟨_, rfl, (((two8_at N (W.alloc (.cells #[.int .u8 (M / 256), .int .u8 (M % 256)] 5)) (W.heap.size + 1) hn0 hn1 (by simp)).keep (keepA _ _)).keep (keepA _ _)).keep (keepD _)⟩
      | 3, _ => exact ⟨_, rfl, ((two8_at R ((W.alloc (.cells #[.int .u8 (M / 256), .int .u8 (M % 256)] 5)).alloc (.cells #[.int .u8 (N / 256), .int .u8 (N % 256)] 5)) (W.heap.size + 1 + 1) hr0 hr1 (by simp)).keep (keepA _ _)).keep (keepD _)⟩
    · exact (((((hW).alloc (by first | omega | (simp; omega)) _).alloc (by first | omega | (simp; omega)) _).alloc (by first | omega | (simp; omega)) _).alloc (by first | omega | (simp; omega)) _).drew
  · have b0 : (k == 1) = false := by simp [k3]
    have b1 : (k == 2) = false := by simp [k3]
    have HE : Hid (encH k M N R = [[b8 k], two8 M, two8 N].flatten) := by simp [Hid, encH, k3]
    clear k3
    go_enter Try.func69, Try.ntmps69
    go_wp2
    have hB := byte_at k (w.alloc (.cells #[.int .i64 k, .int .i64 M, .int .i64 N, .int .i64 R, T] 42)) (w.heap.size + 1) hk0 hk1 (by simp)
    have fM : ((w.alloc (.cells #[.int .i64 k, .int .i64 M, .int .i64 N, .int .i64 R, T] 42)).alloc (.cells #[.int .u8 k] 5)).cell? ⟨w.heap.size, 1, none⟩ = some (.int .i64 M) := by simp
    have fN : ((w.alloc (.cells #[.int .i64 k, .int .i64 M, .int .i64 N, .int .i64 R, T] 42)).alloc (.cells #[.int .u8 k] 5)).cell? ⟨w.heap.size, 2, none⟩ = some (.int .i64 N) := by simp
    have hW : Below w.heap.size w ((w.alloc (.cells #[.int .i64 k, .int .i64 M, .int .i64 N, .int .i64 R, T] 42)).alloc (.cells #[.int .u8 k] 5)) := ((Below.refl _ _).alloc (Nat.le_refl _) _).alloc (by simp) _
    generalize (w.alloc (.cells #[.int .i64 k, .int .i64 M, .int .i64 N, .int .i64 R, T] 42)).alloc (.cells #[.int .u8 k] 5) = W at hB fM fN hW ⊢
    have hWs := hW.size
    go_region_held3 (fun w' => w'.cell? ⟨w.heap.size, 1, none⟩ = some (.int .i64 M) ∧ w'.cell? ⟨w.heap.size, 2, none⟩ = some (.int .i64 N)) (exact ⟨cell_keep fM (by repeat (first | exact Below.refl _ _ | refine Below.drew ?_ | refine Below.alloc ?_ (by first | omega | (simp; omega) | simp) _)), cell_keep fN (by repeat (first | exact Below.refl _ _ | refine Below.drew ?_ | refine Below.alloc ?_ (by first | omega | (simp; omega) | simp) _))⟩)
      (first | (go_at_call 87; refine (wireTwo_any _ _ (by assumption) (by assumption)).mono ?_; rintro e w' ⟨rfl, rfl⟩))
    go_wp2
    go_ret
    refine ⟨_, [.slice (some ⟨w.heap.size + 1, 0, none⟩) 1 1, .slice (some ⟨W.heap.size, 0, none⟩) 2 2, .slice (some ⟨W.heap.size + 1, 0, none⟩) 2 2], [[b8 k], two8 M, two8 N], rfl, (owns_lit _ _ _ _ _ 3 _ (by simp) (by omega) rfl (by decide) rfl).drew, HE.out.symm, rfl, (by simp), fun j hj => ?_, ?_⟩
    · match j, hj with
      | 0, _ => exact ⟨_, rfl, ((((hB).keep (keepA _ _)).keep (keepA _ _)).keep (keepA _ _)).keep (keepD _)⟩
      | 1, _ => exact ⟨_, rfl, (((two8_at M W (W.heap.size) hm0 hm1 (by simp)).keep (keepA _ _)).keep (keepA _ _)).keep (keepD _)⟩
      | 2, _ => exact ⟨_, rfl, ((two8_at N (W.alloc (.cells #[.int .u8 (M / 256), .int .u8 (M % 256)] 5)) (W.heap.size + 1) hn0 hn1 (by simp)).keep (keepA _ _)).keep (keepD _)⟩
    · exact ((((hW).alloc (by first | omega | (simp; omega)) _).alloc (by first | omega | (simp; omega)) _).alloc (by first | omega | (simp; omega)) _).drew
end Go.Proofs.Ytlndinigbppafaa

/-
  The walk of the program's wire: Message.
-/
namespace Go.Proofs.Ytlndinigbppafaa
open Go.RowKit

theorem Try.infoBytes2 : (Try.prog.info? 24).map (fun i => (i.zero, i.size, i.bytes)) = some (some (.slice none 0 0), 1, 24) := by kernel_rfl

/-- A list of texts in a row that the call made. -/
def Fields (w : World) (base : Nat) (v : Value) (ls : List (List UInt8)) : Prop :=
  ∃ us : List Value, w.ownsRow base 24 1 v ls.length us ∧ ls.length = us.length ∧ ∀ j (h : j < ls.length), ∃ u, us[j]? = some u ∧ BytesAt w u ls[j]
theorem Fields.rows {w : World} {base : Nat} {v : Value} {ls : List (List UInt8)} (h : Fields w base v ls) : RowsAt w v ls := by
  obtain ⟨us, h1, _, h3⟩ := h
  exact RowsAt.of_owns h1 rfl h3
theorem Fields.below {w w' : World} {base : Nat} {v : Value} {ls : List (List UInt8)} (h : Fields w base v ls) (hb : Below w.heap.size w w') : Fields w' base v ls := by
  obtain ⟨us, h1, h2, h3⟩ := h
  refine ⟨us, owns_below h1 hb, h2, fun j hj => ?_⟩
  obtain ⟨u, hu, hB⟩ := h3 j hj
  exact ⟨u, hu, hB.keep (KeepsT.of_below hb (Nat.le_refl _))⟩
/-- One text more. -/
theorem Fields.push {w w1 : World} {base : Nat} {v v' x : Value} {ls : List (List UInt8)} {us : List Value} {l : List UInt8} (h1 : w.ownsRow base 24 1 v ls.length us) (h2 : ls.length = us.length) (h3 : ∀ j (h : j < ls.length), ∃ u, us[j]? = some u ∧ BytesAt w u ls[j])
    (hx : BytesAt w x l) (hown : w1.ownsRow base 24 1 v' (ls.length + 1) (us ++ [x])) (hg : w.grownBy w1 v.ownBlock) : Fields w1 base v' (ls ++ [l]) := by
  have K : KeepsT 5 w w1 := (KeepsT.refl _ _).grown h1 hg (by decide)
  refine ⟨us ++ [x], by rw [List.length_append]; exact hown, by simp [h2], fun j hj => ?_⟩
  rw [List.length_append] at hj
  simp only [List.length_cons, List.length_nil] at hj
  by_cases hjl : j < ls.length
  · obtain ⟨u, hu, hB⟩ := h3 j hjl
    exact ⟨u, by rw [List.getElem?_append_left (by omega)]; exact hu, by rw [List.getElem_append_left hjl]; exact hB.keep K⟩
  · have : j = ls.length := by omega
    subst this
    refine ⟨x, by rw [List.getElem?_append_right (by omega)]; simp [h2], ?_⟩
    rw [List.getElem_append_right (by omega)]
    simpa using hx.keep K

set_option maxRecDepth 100000 in
set_option maxHeartbeats 1000000 in
theorem wireMessage_any (k M N R : Int) (T : Value) (ns : List PN) (w : World) (hT : NodesAt w T ns) (hS : SmallM k M N R ns) (h3 : k = 1 ∨ k = 2 ∨ k = 3) :
    Calls Try.prog 53 #[.agg #[.int .i64 k, .int .i64 M, .int .i64 N, .int .i64 R, T]] w fun e w' => ∃ v', e = .returned v' ∧ w'.ownsRow w.heap.size 5 1 v' (encM k M N R ns).length (bytes8 (encM k M N R ns)) ∧ Below w.heap.size w w' := by
  obtain ⟨ao, cap, rfl, _, hc⟩ := hT.cells
  obtain ⟨i0, hi, hz0, hz1, hz2⟩ := info_parts Try.infoBytes2
  have hns := hS.len
  go_enter Try.func53, Try.ntmps53
  go_wp2_with fail
  refine (wireHead_any k M N R _ _ hS.k hS.m hS.n hS.r h3).mono ?_
  rintro e w1 ⟨v1, us1, ls1, rfl, ho1, hf1, hl1, h41, hB1, hb1⟩
  have hF1 : Fields w1 (w.alloc (.cells #[.int .i64 k, .int .i64 M, .int .i64 N, .int .i64 R, .slice ao ns.length cap] 42)).heap.size v1 ls1 := ⟨us1, by rw [hl1]; exact ho1, hl1, hB1⟩
  have c4 : w1.cell? ⟨w.heap.size, 4, none⟩ = some (.slice ao ns.length cap) := (hb1.cell (p := ⟨w.heap.size, 4, none⟩) (by simp)).trans (by rw [World.cell?_alloc_mark]; rfl)
  have hbw1 : Below w.heap.size w w1 := ((Below.refl _ _).alloc (Nat.le_refl _) _).trans (hb1.mono (by simp))
  have hlen1 : ls1.length ≤ 4 := by rw [hl1]; exact h41
  clear ho1 hB1 hb1 hl1 h41
  have hsz1 := hbw1.size
  generalize hB0 : (w.alloc (.cells #[.int .i64 k, .int .i64 M, .int .i64 N, .int .i64 R, .slice ao ns.length cap] 42)).heap.size = B at hF1
  have hB0' : B = w.heap.size + 1 := by rw [← hB0]; simp
  have hBw : B ≤ w1.heap.size := by have := World.block_lt_of_cell? w1 _ c4; simp at this; omega
  have HB0 : Hid (B = w.heap.size + 1) := hB0'
  clear hB0 hB0'
  go_wp2
  go_loopw [3, 11] (fun v i wr => ∃ (j : Nat) (ls : List (List UInt8)), j ≤ ns.length ∧ i = .int .i64 j ∧ Fields wr B v ls ∧ ls.length ≤ 4 + j ∧ ls.flatten = encH k M N R ++ encNs (ns.take j) ∧ Below w.heap.size w wr ∧ B ≤ wr.heap.size) (fun _ i _ => ns.length - (intOf i).toNat)
  case atStart => exact ⟨0, ls1, Nat.zero_le _, rfl, hF1, by omega, by rw [hf1]; simp [encNs], hbw1, hBw⟩
  case round =>
    obtain ⟨j, ls, hj, rfl, hF, hln, hfl, hb, hBr⟩ := hrel
    have hbs := hb.size
    have HL : Hid (ls.flatten = encH k M N R ++ encNs (ns.take j)) := hfl
    clear hfl
    by_cases hlt : j < ns.length
    · obtain ⟨b, o, rfl, hbl, hcl⟩ := hc (by omega)
      obtain ⟨e0, e1, e2⟩ := hcl j hlt
      replace e0 := (hb.cell (p := ⟨b, o + j * 3, none⟩) hbl).trans e0
      replace e1 := (hb.cell (p := ⟨b, o + j * 3 + 1, none⟩) hbl).trans e1
      replace e2 := (hb.cell (p := ⟨b, o + j * 3 + 2, none⟩) hbl).trans e2
      have HX : Hid (encNs (ns.take (j + 1)) = encNs (ns.take j) ++ encN ns[j]) := encNs_snoc ns j hlt
      obtain ⟨x0, x2, x4⟩ := hS.each _ (List.getElem_mem hlt)
      generalize ns[j] = x at *
      clear hcl hc hT c4
      go_wp2_with fail
      refine (wireNode_any x _ x0 x2 x4).mono ?_
      rintro e w2 ⟨v2, rfl, hB2, hb2⟩
      obtain ⟨a2, cp2, rfl, _⟩ := id hB2
      have hb2' : Below wr.heap.size wr w2 := ((Below.refl _ _).alloc (Nat.le_refl _) _).trans (hb2.mono (by simp))
      have hF2 := hF.below hb2'
      have hs2 := hb2'.size
      have hbb : Below w.heap.size w w2 := hb.trans (hb2'.mono hbs)
      clear hF hb2 hb2' e0 e1 e2
      obtain ⟨us, g1, g2, g3⟩ := hF2
      have G2 : Hid (ls.length = us.length) := g2
      clear g2
      go_wp2_with (at_builtin; refine wpList_append_own _ rfl (.tmp 15) (.tmp 18) 23 rfl B 24 i0 (.slice none 0 0) 1 24 Try.underlying23 hi hz0 hz1 hz2 rfl (by decide) _ _ _ rfl (g1.alloc _) ⟨w2.heap.size, 0, none⟩ 1 1 [.slice a2 (encN x).length cp2] rfl rfl ?c1 ?c2 ?c3 ?c4 ?c5 ?_)
      case c1 =>
        intro q u hq
        match q, hq with
        | 0, hq => simp at hq; subst hq; simp [Addr.add]
      case c2 =>
        intro u hu
        simp at hu
        subst hu
        rfl
      case c3 => unfold maxLen; omega
      case c4 => omega
      case c5 => simp; omega
      · intro v' w3 hown' hgrow _
        have hF3 := Fields.push (g1.alloc _) G2.out (fun q hq => by obtain ⟨u, h1, h2⟩ := g3 q hq; exact ⟨u, h1, h2.keep (keepA _ _)⟩) (hB2.keep (keepA _ _)) hown' hgrow
        have R := (hbb.alloc (by omega) _).grown hgrow (by simp; omega) (fun g hg => by have := (g1.lt g hg).1; have := HB0.out; omega)
        have hBw3 : B ≤ w3.heap.size := by have := hgrow.size; simp at this; omega
        clear g1 G2 g3 hown' hgrow hbb hB2 hb
        go_wp2
        go_roundw
        case rel => exact ⟨j + 1, ls ++ [encN x], by omega, by go_num, hF3, by simp; omega, by rw [List.flatten_append, HL.out, HX.out, List.append_assoc]; simp, R, hBw3⟩
        case measure => simp [intOf]; omega
    · have hjl : j = ns.length := by omega
      subst hjl
      have HE : Hid (ls.flatten = encM k M N R ns) := by
        have := HL.out
        rw [List.take_length] at this
        exact this
      have hen := encHN_le ns ns.length hS
      rw [List.take_length] at hen
      have hrows := hF.rows
      clear hF hc hT
      go_wp2_with fail
      refine (join_any ls _ _ hrows (by omega) (by rw [HE.out]; exact hen)).mono ?_
      rintro e w2 ⟨v', rfl, hown, hbel⟩
      go_wp2
      go_ret
      refine ⟨_, rfl, ?_, hb.trans (hbel.mono hbs)⟩
      rw [HE.out] at hown
      obtain ⟨o1, o2⟩ := hown
      refine ⟨o1, ?_⟩
      rcases o2 with o2 | ⟨g, cp, cur, q1, q2, q3⟩
      · exact .inl o2
      · exact .inr ⟨g, cp, cur, q1, by omega, q3⟩
end Go.Proofs.Ytlndinigbppafaa
