/-
  The simulation, for the pieces of which the operations are put together.
-/
import Derived.Test.YtlndinigbppafaaSimB
import Derived.Laws.Sem
namespace Go.Sim
variable {P : Program} {Shd : Nat → Prop} {R : BR}

/-- The zero values of the program's types hold no address. -/
def ZeroOK (P : Program) : Prop := ∀ t i z, t < P.types.size → P.info? t = some i → i.zero = some z → ∀ R, VR P R z z

section dead
variable {α β : Type}
theorem Mild.bind {s : Sem α} {f : α → Sem β} (hs : Mild P s) (hf : ∀ a, Mild P (f a)) : Mild P (s >>= f) := by
  intro w h w' e
  rw [Sem.run_bind] at e
  cases hr : s.run P w with
  | halt x y => rw [hr] at e; simp [Result.andThen] at e; rw [← e.1]; exact hs _ _ _ hr
  | ok a w1 => rw [hr] at e; exact hf a _ _ _ e
theorem Mild.pure (a : α) : Mild P (Pure.pure a : Sem α) := fun _ _ _ e => by cases e
theorem Dead.mild {s : Sem α} (h : Dead P s) : Mild P s := by
  intro w x w' e
  obtain ⟨y, w'', e', hy⟩ := h w
  rw [e'] at e; cases e; exact hy
theorem mild_choose (q : Question) : Mild P (choose q) := fun w h w' e => by unfold choose Sem.run at e; split at e <;> cases e
theorem mild_shape (r : Nat) : Mild P (shape r) := fun w h w' e => by cases e
theorem mild_frozen (a : Addr) : Mild P (frozen a) := fun w h w' e => by cases e
theorem mild_program : Mild P program := fun w h w' e => by cases e
theorem mild_newObj (o : Obj) : Mild P (newObj o) := fun w h w' e => by cases e
theorem mild_mark (m : Mark) : Mild P (mark m) := fun w h w' e => by cases e
theorem mild_getObj (r : Nat) : Mild P (getObj r) := by
  intro w h w' e
  unfold getObj Sem.run at e
  split at e <;> first | (cases e; trivial) | cases e
theorem dead_bind {s : Sem α} {f : α → Sem β} (hs : Mild P s) (h : ∀ a, Dead P (f a)) : Dead P (s >>= f) := by
  intro w
  rw [Sem.run_bind]
  cases hr : s.run P w with
  | halt x y => exact ⟨x, y, rfl, hs _ _ _ hr⟩
  | ok a w1 => exact h a w1
theorem dead_left {s : Sem α} {f : α → Sem β} (h : Dead P s) : Dead P (s >>= f) := by
  intro w
  obtain ⟨x, w', e, hx⟩ := h w
  rw [Sem.run_bind, e]
  exact ⟨x, w', rfl, hx⟩
theorem dead_stuck (s : String) : Dead P (stuck s : Sem α) := fun w => ⟨_, w, rfl, trivial⟩
theorem dead_unsupported (u : Unsupported) (hu : HaltOK (.unsupported u) := by trivial) : Dead P (unsupported u : Sem α) := fun w => ⟨_, w, rfl, hu⟩
theorem dead_goPanic (v : Value) : Dead P (goPanic v : Sem α) := fun w => ⟨_, w, rfl, trivial⟩
theorem dead_runtimePanic (x : RuntimeError) : Dead P (runtimePanic x : Sem α) := by
  unfold runtimePanic
  refine dead_bind mild_program (fun p => ?_)
  have hE : ∀ t, Mild P (elemOf t) := fun t => Mild.bind (mild_underlying t) fun d => by split <;> first | exact Mild.pure _ | exact (dead_stuck _).mild
  cases x <;> first
    | exact dead_goPanic _
    | exact dead_bind (hE _) (fun _ => dead_bind (Mild.bind (mild_newObj _) fun _ => Mild.pure _) fun _ => dead_goPanic _)
theorem dead_boundsPanic (k : IntKind) (x y : Int) (c : BoundsCode) : Dead P (boundsPanic k x y c : Sem α) := by
  unfold boundsPanic
  split
  · refine dead_bind ?_ fun _ => dead_runtimePanic _
    rw [map_eq_pure_bind]
    exact Mild.bind (mild_choose _) fun _ => Mild.pure _
  · exact dead_bind (Mild.pure _) fun _ => dead_runtimePanic _
theorem mild_asIntOf (v : Value) : Mild P (asIntOf v) := by
  unfold asIntOf
  split <;> first | exact Mild.pure _ | exact (dead_stuck _).mild | exact (dead_unsupported _).mild
theorem mild_asInt (v : Value) : Mild P (asInt v) := Mild.bind (mild_asIntOf v) fun _ => Mild.pure _
end dead

section
variable {α β : Type} {Q : BR → α → β → Prop} {S : Sem β}
theorem Sim.stuck (s : String) : Sim P Shd Q R (Go.stuck s) S := Sim.dead (dead_stuck s)
theorem Sim.unsupported (u : Unsupported) (hu : HaltOK (.unsupported u) := by trivial) : Sim P Shd Q R (Go.unsupported u) S := Sim.dead (dead_unsupported u hu)
theorem Sim.runtimePanic (x : RuntimeError) : Sim P Shd Q R (Go.runtimePanic x) S := Sim.dead (dead_runtimePanic x)
theorem Sim.boundsPanic (k : IntKind) (x y : Int) (c : BoundsCode) : Sim P Shd Q R (Go.boundsPanic k x y c) S := Sim.dead (dead_boundsPanic k x y c)
theorem Sim.goPanic (v : Value) : Sim P Shd Q R (Go.goPanic v) S := Sim.dead (dead_goPanic v)
end

theorem sim_sizeOf (t : TypeId) : Sim P Shd (fun _ a b => a = b) R (sizeOf t) (sizeOf t) :=
  Sim.bind (sim_typeInfo t) fun _ a b _ q => Sim.pure (by rw [q.1])
theorem sim_zeroValue (hZ : ZeroOK P) (t : TypeId) (ht : t < P.types.size) : Sim P Shd (VR P) R (zeroValue t) (zeroValue t) := by
  refine Sim.bind (sim_typeInfo t) fun R' a b _ q => ?_
  obtain ⟨rfl, hi⟩ := q
  cases hz : a.zero with
  | none => exact Sim.unsupported _
  | some z => exact Sim.pure (hZ t a z ht hi hz _)
theorem sim_isAgg (t : TypeId) : Sim P Shd (fun _ a b => a = b) R (isAgg t) (isAgg t) := by
  refine Sim.bind (sim_underlying t) fun R' a b _ q => ?_
  obtain ⟨rfl, _⟩ := q
  split <;> exact Sim.pure rfl

theorem sim_loadCellsFrom {a A : Addr} : ∀ (n i : Nat) {acc Acc : Array Value} {R : BR}, AR R a A → VRs P R acc Acc → Sim P Shd (VRs P) R (loadCellsFrom a i n acc) (loadCellsFrom A i n Acc)
  | 0, _, _, _, _, _, hs => Sim.pure hs
  | n + 1, i, _, _, _, ha, hs => Sim.bind (sim_load (ha.add i)) fun _ _ _ sub q => sim_loadCellsFrom n (i + 1) (ha.mono sub) ((hs.mono sub).push q)
theorem sim_loadCells {a A : Addr} (n : Nat) (h : AR R a A) : Sim P Shd (VRs P) R (loadCells a n) (loadCells A n) := sim_loadCellsFrom n 0 h VRs.nil

def LR (P : Program) (R : BR) (l L : List Value) : Prop := l.length = L.length ∧ ∀ (i : Nat) v V, l[i]? = some v → L[i]? = some V → VR P R v V
theorem LR.mono {R R' : BR} (h : ∀ b B, R b B → R' b B) {x X : List Value} (hv : LR P R x X) : LR P R' x X := ⟨hv.1, fun i v V a b => (hv.2 i v V a b).mono h⟩
theorem VRs.toL {x X : Array Value} (h : VRs P R x X) : LR P R x.toList X.toList := ⟨by simpa using h.1, fun i v V a b => h.2 i v V (by simpa using a) (by simpa using b)⟩
theorem LR.head {v V : Value} {l L : List Value} (h : LR P R (v :: l) (V :: L)) : VR P R v V := h.2 0 v V rfl rfl
theorem LR.tail {v V : Value} {l L : List Value} (h : LR P R (v :: l) (V :: L)) : LR P R l L := ⟨by simpa using h.1, fun i a b x y => h.2 (i + 1) a b (by simpa using x) (by simpa using y)⟩

theorem sim_storeCells {a A : Addr} : ∀ (l L : List Value) (i : Nat) {R : BR}, AR R a A → LR P R l L → Sim P Shd (fun _ _ _ => True) R (storeCells a l i) (storeCells A L i)
  | [], [], _, _, _, _ => Sim.pure trivial
  | [], _ :: _, _, _, _, h => absurd h.1 (by simp)
  | _ :: _, [], _, _, _, h => absurd h.1 (by simp)
  | v :: l, V :: L, i, _, ha, h => by
    unfold storeCells
    exact Sim.bind (sim_store (ha.add i) h.head) fun _ _ _ sub _ => sim_storeCells l L (i + 1) (ha.mono sub) (h.tail.mono sub)

theorem sim_loadVar (t : TypeId) {a A : Addr} (h : AR R a A) : Sim P Shd (VR P) R (loadVar t a) (loadVar t A) := by
  refine Sim.bind (sim_isAgg t) fun R1 x y s1 q => ?_
  subst q
  cases x with
  | false => exact sim_load (h.mono s1)
  | true =>
    refine Sim.bind (sim_sizeOf t) fun R2 n m s2 q => ?_
    subst q
    exact Sim.bind (sim_loadCells n ((h.mono s1).mono s2)) fun _ _ _ _ q => Sim.pure (.agg q.1 q.2)
theorem sim_storeVar (t : TypeId) {a A : Addr} {v V : Value} (h : AR R a A) (hv : VR P R v V) : Sim P Shd (fun _ _ _ => True) R (storeVar t a v) (storeVar t A V) := by
  refine Sim.bind (sim_sizeOf t) fun R1 n m s1 q => ?_
  subst q
  have e := hv.cells.1
  have hs := sim_storeCells (P := P) (Shd := Shd) v.cells.toList V.cells.toList 0 (h.mono s1) ((hv.mono s1).cells.toL)
  rw [← e]
  split
  · exact Sim.dead (dead_left (dead_stuck _))
  · exact hs
theorem sim_newVar (t : TypeId) {v V : Value} (hv : VR P R v V) : Sim P Shd (fun R' a A => AR R' a A ∧ ¬ Shd a.block ∧ a.off = 0 ∧ ∀ b B, R b B → R' b B) R (newVar t v) (newVar t V) := sim_newRow t hv.cells
end Go.Sim
