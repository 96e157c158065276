/-
  The simulation of a goroutine's own step.
-/
import Derived.Test.YtlndinigbppafaaSimJ
import Derived.Conc.Own
import Derived.Conc.Listed
namespace Go.Sim
variable {P : Program} {Shd : Nat → Prop} {R : BR}

def CodeOK (P : Program) : Code → Prop
  | .region _ ops _ => ∀ o ∈ ops, OpOK P o.op
  | .seq a b => CodeOK P a ∧ CodeOK P b
  | .cond c a b => OperandOK P c ∧ CodeOK P a ∧ CodeOK P b
  | .block _ c | .loop c | .scope c => CodeOK P c
  | .exit _ | .ret | .skip | .label _ => True
  | _ => False
def ItemOK (P : Program) : Item → Prop
  | .code c => CodeOK P c
  | .inLoop c => CodeOK P c
  | .inBlock _ | .inScope _ => True
  | .inRegion ops _ => ∀ o ∈ ops, OpOK P o.op
  | _ => False

structure FR (P : Program) (R : BR) (fr Fr : Frame) : Prop where
  fn : fr.fn = Fr.fn
  tmps : VRs P R fr.tmps Fr.tmps
  todo : fr.todo = Fr.todo
  items : ∀ it ∈ fr.todo, ItemOK P it
  defers : fr.defers = []
  defers' : Fr.defers = []
  mode : fr.mode = Fr.mode
  modes : fr.mode = .run ∨ fr.mode = .returning
  kind : fr.kind = .normal
  kind' : Fr.kind = .normal
  round : fr.roundOf = none
  round' : Fr.roundOf = none
  func : ∃ f, P.funcs[fr.fn]? = some f

theorem FR.mono {R R' : BR} (h : ∀ b B, R b B → R' b B) {fr Fr : Frame} (k : FR P R fr Fr) : FR P R' fr Fr := { k with tmps := k.tmps.mono h }

def FRs (P : Program) (R : BR) : List Frame → List Frame → Prop
  | [], [] => True
  | a :: l, b :: m => FR P R a b ∧ a.mode = .run ∧ FRs P R l m
  | _, _ => False
theorem FRs.mono {R R' : BR} (h : ∀ b B, R b B → R' b B) : ∀ {l L : List Frame}, FRs P R l L → FRs P R' l L
  | [], [], _ => trivial
  | [], _ :: _, k => k.elim
  | _ :: _, [], k => k.elim
  | _ :: _, _ :: _, k => ⟨k.1.mono h, k.2.1, FRs.mono h k.2.2⟩

theorem VR.undef : VR P R Go.undef Go.undef := .tuple rfl fun i v V h => by simp at h

/-- The same frame with other things to do. -/
theorem FR.at {fr Fr : Frame} (h : FR P R fr Fr) (l : List Item) (hl : ∀ it ∈ l, ItemOK P it) : FR P R { fr with todo := l } { Fr with todo := l } :=
  { fn := h.fn, tmps := h.tmps, todo := rfl, items := hl, defers := h.defers, defers' := h.defers', mode := h.mode, modes := h.modes, kind := h.kind, kind' := h.kind', round := h.round, round' := h.round', func := h.func }
theorem FR.ret {fr Fr : Frame} (h : FR P R fr Fr) : FR P R { fr with mode := .returning } { Fr with mode := .returning } :=
  { fn := h.fn, tmps := h.tmps, todo := h.todo, items := h.items, defers := h.defers, defers' := h.defers', mode := rfl, modes := .inr rfl, kind := h.kind, kind' := h.kind', round := h.round, round' := h.round', func := h.func }

theorem FR.finish {fr Fr : Frame} (h : FR P R fr Fr) {v V : Value} (hv : VR P R v V) : FR P R (fr.finish v) (Fr.finish V) := by
  have ht := h.todo
  have hi := h.items
  unfold Frame.finish
  rw [← ht]
  cases hd : fr.todo with
  | nil => exact h
  | cons it k =>
    rw [hd] at hi
    have h0 := hi it (List.mem_cons_self ..)
    cases it with
    | inRegion ops todo =>
      cases todo with
      | nil => exact h
      | cons i rest =>
        refine { fn := h.fn, tmps := ?_, todo := rfl, items := ?_, defers := h.defers, defers' := h.defers', mode := h.mode, modes := h.modes, kind := h.kind, kind' := h.kind', round := h.round, round' := h.round', func := h.func }
        · dsimp only
          split
          · exact h.tmps.set _ hv
          · exact h.tmps
        · intro x hx
          rcases List.mem_cons.1 hx with rfl | hx
          · exact h0
          · exact hi x (List.mem_cons_of_mem _ hx)
    | code _ => exact h
    | inBlock _ => exact h
    | inLoop _ => exact h
    | inScope _ => exact h
    | _ => exact h0.elim

theorem FR.eval {fr Fr : Frame} (h : FR P R fr Fr) (x : Operand) (hx : OperandOK P x) : VR P R (fr.eval x) (Fr.eval x) := by
  cases x with
  | tmp t => exact h.tmps.getD t VR.undef
  | const v => exact hx R
  | global g => exact hx.elim
  | func f => exact .func (.func f) hx rfl (fun i v V h => by simp at h) rfl (fun i v V h => by simp at h)

theorem exitTo_mem : ∀ {id : Nat} {k k' : List Item}, exitTo id k = some k' → ∀ it ∈ k', it ∈ k
  | _, [], _, h, _, _ => by simp [exitTo] at h
  | id, x :: k, k', h, it, hit => by
    cases x with
    | inBlock i =>
      simp only [exitTo] at h
      split at h
      · cases h; exact List.mem_cons_of_mem _ hit
      · exact List.mem_cons_of_mem _ (exitTo_mem h it hit)
    | _ => simp only [exitTo] at h; exact List.mem_cons_of_mem _ (exitTo_mem h it hit)

/-- The bodies of the functions that are met. -/
def BodiesOK (P : Program) : Prop := ∀ (f : FuncId) (fn : Func) (c : Code), P.funcs[f]? = some fn → fn.name ∈ names → fn.body = some c → CodeOK P c

theorem FR.enter (hB : BodiesOK P) {f : FuncId} (hf : BodyOK P f) {x X : Array Value} (h : VRs P R x X) : FR P R (Frame.enter P f x .normal) (Frame.enter P f X .normal) := by
  obtain ⟨fn, h1, h2, h3⟩ := hf
  cases hb : fn.body with
  | none => rw [hb] at h2; cases h2
  | some c =>
    have b1 := hB f fn c h1 h3 hb
    refine { fn := rfl, tmps := ?_, todo := rfl, items := ?_, defers := rfl, defers' := rfl, mode := rfl, modes := .inl rfl, kind := rfl, kind' := rfl, round := rfl, round' := rfl, func := ⟨fn, h1⟩ }
    · simp only [Frame.enter]
      rw [← h.1]
      exact h.append (VRs.rep _ VR.undef)
    · intro it hit
      simp only [Frame.enter, h1, Option.bind_some, hb, Option.getD_some, List.mem_singleton] at hit
      subst hit
      exact b1
end Go.Sim
