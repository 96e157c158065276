/-
  The pieces of which operations are made are fine.
-/
import Derived.Test.YtlndinigbppafaaFiA
namespace Go.Fi
variable {P : Program} {α β : Type}

class Fi (P : Program) (m : Sem α) : Prop where
  out : Fine P m

theorem fine_load (a : Addr) (m : Mode) : Fine P (load a m) := fun _ => trivial
instance (a : Addr) (m : Mode) : Fi P (load a m) := ⟨fine_load a m⟩

theorem fine_shape (r : Nat) : Fine P (shape r) := fun _ => trivial
instance (r : Nat) : Fi P (shape r) := ⟨fine_shape r⟩

theorem fine_frozen (a : Addr) : Fine P (frozen a) := fun _ => trivial
instance (a : Addr) : Fi P (frozen a) := ⟨fine_frozen a⟩

theorem fine_getObj (r : Nat) : Fine P (getObj r) := fun _ => trivial
instance (r : Nat) : Fi P (getObj r) := ⟨fine_getObj r⟩

theorem fine_choose (q : Question) : Fine P (choose q) := fun _ => trivial
instance (q : Question) : Fi P (choose q) := ⟨fine_choose q⟩

theorem fine_newObj (o : Obj) : Fine P (newObj o) := fun _ => trivial
instance (o : Obj) : Fi P (newObj o) := ⟨fine_newObj o⟩

theorem fine_store (a : Addr) (v : Value) (m : Mode) : Fine P (store a v m) := trivial
instance (a : Addr) (v : Value) (m : Mode) : Fi P (store a v m) := ⟨fine_store a v m⟩

theorem fine_freeze (a : Addr) (n : Nat) : Fine P (freeze a n) := trivial
instance (a : Addr) (n : Nat) : Fi P (freeze a n) := ⟨fine_freeze a n⟩

theorem fine_setObj (r : Nat) (o : Obj) : Fine P (setObj r o) := trivial
instance (r : Nat) (o : Obj) : Fi P (setObj r o) := ⟨fine_setObj r o⟩

theorem fine_program  : Fine P (program) := trivial
instance  : Fi P (program) := ⟨fine_program ⟩

theorem fine_stuck (s : String) : Fine P (stuck s : Sem α) := trivial
instance (s : String) : Fi P (stuck s : Sem α) := ⟨fine_stuck s⟩

theorem fine_unsupported (u : Unsupported) : Fine P (unsupported u : Sem α) := trivial
instance (u : Unsupported) : Fi P (unsupported u : Sem α) := ⟨fine_unsupported u⟩

theorem fine_goPanic (v : Value) : Fine P (goPanic v : Sem α) := trivial
instance (v : Value) : Fi P (goPanic v : Sem α) := ⟨fine_goPanic v⟩

theorem fine_noRoom : Fine P (mark .noRoom) := ⟨rfl, trivial⟩
instance : Fi P (mark .noRoom) := ⟨fine_noRoom⟩

theorem fine_ite {c : Prop} [Decidable c] {a b : Sem α} (h : Fine P a) (k : Fine P b) : Fine P (if c then a else b) := by
  split <;> assumption
theorem fine_forIn_list {γ : Type} (l : List γ) (b : β) (f : γ → β → Sem (ForInStep β)) (h : ∀ a b, Fine P (f a b)) : Fine P (forIn l b f) := by
  induction l generalizing b with
  | nil => exact Fine.pure _
  | cons a l ih =>
    rw [List.forIn_cons]
    refine Fine.bind (h a b) fun r => ?_
    cases r with
    | done b => exact Fine.pure _
    | yield b => exact ih b
theorem fine_forIn_array {γ : Type} (l : Array γ) (b : β) (f : γ → β → Sem (ForInStep β)) (h : ∀ a b, Fine P (f a b)) : Fine P (forIn l b f) := by
  rw [← Array.forIn_toList]
  exact fine_forIn_list _ _ _ h
theorem fine_forIn_range (r : Std.Legacy.Range) (b : β) (f : Nat → β → Sem (ForInStep β)) (h : ∀ a b, Fine P (f a b)) : Fine P (forIn r b f) := by
  rw [Std.Legacy.Range.forIn_eq_forIn_range']
  exact fine_forIn_list _ _ _ h
theorem fine_mapM_list {γ : Type} (f : γ → Sem β) (h : ∀ a, Fine P (f a)) : ∀ l : List γ, Fine P (l.mapM f)
  | [] => Fine.pure _
  | a :: l => by
    rw [List.mapM_cons]
    exact Fine.bind (h a) fun _ => Fine.bind (fine_mapM_list f h l) fun _ => Fine.pure _
theorem fine_mapM_array {γ : Type} (f : γ → Sem β) (h : ∀ a, Fine P (f a)) (l : Array γ) : Fine P (l.mapM f) := by
  rw [Array.mapM_eq_mapM_toList]
  exact Fine.map (fine_mapM_list f h _)

theorem fine_askRoom (n : Nat) : Fine P (askRoom n) := by
  unfold askRoom
  repeat' first
    | with_reducible exact Fine.pure _
    | exact Fi.out
    | with_reducible refine fine_forIn_array _ _ _ fun _ _ => ?_
    | with_reducible refine fine_forIn_range _ _ _ fun _ _ => ?_
    | with_reducible refine fine_mapM_array _ (fun _ => ?_) _
    | with_reducible refine Fine.bind ?_ fun _ => ?_
    | with_reducible refine Fine.map ?_
    | with_reducible refine fine_ite ?_ ?_
    | split
    | dsimp only
instance (n : Nat) : Fi P (askRoom n) := ⟨fine_askRoom n⟩

theorem fine_viewAt (r : Nat) : Fine P (viewAt r) := by
  unfold viewAt
  repeat' first
    | with_reducible exact Fine.pure _
    | exact Fi.out
    | with_reducible refine fine_forIn_array _ _ _ fun _ _ => ?_
    | with_reducible refine fine_forIn_range _ _ _ fun _ _ => ?_
    | with_reducible refine fine_mapM_array _ (fun _ => ?_) _
    | with_reducible refine Fine.bind ?_ fun _ => ?_
    | with_reducible refine Fine.map ?_
    | with_reducible refine fine_ite ?_ ?_
    | split
    | dsimp only
instance (r : Nat) : Fi P (viewAt r) := ⟨fine_viewAt r⟩

theorem fine_numberAt (r : Nat) : Fine P (numberAt r) := by
  unfold numberAt
  repeat' first
    | with_reducible exact Fine.pure _
    | exact Fi.out
    | with_reducible refine fine_forIn_array _ _ _ fun _ _ => ?_
    | with_reducible refine fine_forIn_range _ _ _ fun _ _ => ?_
    | with_reducible refine fine_mapM_array _ (fun _ => ?_) _
    | with_reducible refine Fine.bind ?_ fun _ => ?_
    | with_reducible refine Fine.map ?_
    | with_reducible refine fine_ite ?_ ?_
    | split
    | dsimp only
instance (r : Nat) : Fi P (numberAt r) := ⟨fine_numberAt r⟩

theorem fine_cellsIn (r : Nat) : Fine P (cellsIn r) := by
  unfold cellsIn
  repeat' first
    | with_reducible exact Fine.pure _
    | exact Fi.out
    | with_reducible refine fine_forIn_array _ _ _ fun _ _ => ?_
    | with_reducible refine fine_forIn_range _ _ _ fun _ _ => ?_
    | with_reducible refine fine_mapM_array _ (fun _ => ?_) _
    | with_reducible refine Fine.bind ?_ fun _ => ?_
    | with_reducible refine Fine.map ?_
    | with_reducible refine fine_ite ?_ ?_
    | split
    | dsimp only
instance (r : Nat) : Fi P (cellsIn r) := ⟨fine_cellsIn r⟩

theorem fine_asNumber (a : Addr) (l : Bool) : Fine P (asNumber a l) := by
  unfold asNumber
  repeat' first
    | with_reducible exact Fine.pure _
    | exact Fi.out
    | with_reducible refine fine_forIn_array _ _ _ fun _ _ => ?_
    | with_reducible refine fine_forIn_range _ _ _ fun _ _ => ?_
    | with_reducible refine fine_mapM_array _ (fun _ => ?_) _
    | with_reducible refine Fine.bind ?_ fun _ => ?_
    | with_reducible refine Fine.map ?_
    | with_reducible refine fine_ite ?_ ?_
    | split
    | dsimp only
instance (a : Addr) (l : Bool) : Fi P (asNumber a l) := ⟨fine_asNumber a l⟩

theorem fine_behindNumber (a : Addr) : Fine P (behindNumber a) := by
  unfold behindNumber
  repeat' first
    | with_reducible exact Fine.pure _
    | exact Fi.out
    | with_reducible refine fine_forIn_array _ _ _ fun _ _ => ?_
    | with_reducible refine fine_forIn_range _ _ _ fun _ _ => ?_
    | with_reducible refine fine_mapM_array _ (fun _ => ?_) _
    | with_reducible refine Fine.bind ?_ fun _ => ?_
    | with_reducible refine Fine.map ?_
    | with_reducible refine fine_ite ?_ ?_
    | split
    | dsimp only
instance (a : Addr) : Fi P (behindNumber a) := ⟨fine_behindNumber a⟩

theorem fine_noView (a : Addr) : Fine P (noView a) := by
  unfold noView
  repeat' first
    | with_reducible exact Fine.pure _
    | exact Fi.out
    | with_reducible refine fine_forIn_array _ _ _ fun _ _ => ?_
    | with_reducible refine fine_forIn_range _ _ _ fun _ _ => ?_
    | with_reducible refine fine_mapM_array _ (fun _ => ?_) _
    | with_reducible refine Fine.bind ?_ fun _ => ?_
    | with_reducible refine Fine.map ?_
    | with_reducible refine fine_ite ?_ ?_
    | split
    | dsimp only
instance (a : Addr) : Fi P (noView a) := ⟨fine_noView a⟩

theorem fine_markStringish (a : Addr) : Fine P (markStringish a) := by
  unfold markStringish
  repeat' first
    | with_reducible exact Fine.pure _
    | exact Fi.out
    | with_reducible refine fine_forIn_array _ _ _ fun _ _ => ?_
    | with_reducible refine fine_forIn_range _ _ _ fun _ _ => ?_
    | with_reducible refine fine_mapM_array _ (fun _ => ?_) _
    | with_reducible refine Fine.bind ?_ fun _ => ?_
    | with_reducible refine Fine.map ?_
    | with_reducible refine fine_ite ?_ ?_
    | split
    | dsimp only
instance (a : Addr) : Fi P (markStringish a) := ⟨fine_markStringish a⟩

theorem fine_stringish (a : Addr) : Fine P (stringish a) := by
  unfold stringish
  repeat' first
    | with_reducible exact Fine.pure _
    | exact Fi.out
    | with_reducible refine fine_forIn_array _ _ _ fun _ _ => ?_
    | with_reducible refine fine_forIn_range _ _ _ fun _ _ => ?_
    | with_reducible refine fine_mapM_array _ (fun _ => ?_) _
    | with_reducible refine Fine.bind ?_ fun _ => ?_
    | with_reducible refine Fine.map ?_
    | with_reducible refine fine_ite ?_ ?_
    | split
    | dsimp only
instance (a : Addr) : Fi P (stringish a) := ⟨fine_stringish a⟩

theorem fine_mayBeOne (a b : Addr) : Fine P (mayBeOne a b) := by
  unfold mayBeOne
  repeat' first
    | with_reducible exact Fine.pure _
    | exact Fi.out
    | with_reducible refine fine_forIn_array _ _ _ fun _ _ => ?_
    | with_reducible refine fine_forIn_range _ _ _ fun _ _ => ?_
    | with_reducible refine fine_mapM_array _ (fun _ => ?_) _
    | with_reducible refine Fine.bind ?_ fun _ => ?_
    | with_reducible refine Fine.map ?_
    | with_reducible refine fine_ite ?_ ?_
    | split
    | dsimp only
instance (a b : Addr) : Fi P (mayBeOne a b) := ⟨fine_mayBeOne a b⟩

theorem fine_sameAddr (a b : Addr) : Fine P (sameAddr a b) := by
  unfold sameAddr
  repeat' first
    | with_reducible exact Fine.pure _
    | exact Fi.out
    | with_reducible refine fine_forIn_array _ _ _ fun _ _ => ?_
    | with_reducible refine fine_forIn_range _ _ _ fun _ _ => ?_
    | with_reducible refine fine_mapM_array _ (fun _ => ?_) _
    | with_reducible refine Fine.bind ?_ fun _ => ?_
    | with_reducible refine Fine.map ?_
    | with_reducible refine fine_ite ?_ ?_
    | split
    | dsimp only
instance (a b : Addr) : Fi P (sameAddr a b) := ⟨fine_sameAddr a b⟩

theorem fine_samePointer (a b : Option Addr) : Fine P (samePointer a b) := by
  unfold samePointer
  repeat' first
    | with_reducible exact Fine.pure _
    | exact Fi.out
    | with_reducible refine fine_forIn_array _ _ _ fun _ _ => ?_
    | with_reducible refine fine_forIn_range _ _ _ fun _ _ => ?_
    | with_reducible refine fine_mapM_array _ (fun _ => ?_) _
    | with_reducible refine Fine.bind ?_ fun _ => ?_
    | with_reducible refine Fine.map ?_
    | with_reducible refine fine_ite ?_ ?_
    | split
    | dsimp only
instance (a b : Option Addr) : Fi P (samePointer a b) := ⟨fine_samePointer a b⟩

theorem fine_typeInfo (t : TypeId) : Fine P (typeInfo t) := by
  unfold typeInfo
  repeat' first
    | with_reducible exact Fine.pure _
    | exact Fi.out
    | with_reducible refine fine_forIn_array _ _ _ fun _ _ => ?_
    | with_reducible refine fine_forIn_range _ _ _ fun _ _ => ?_
    | with_reducible refine fine_mapM_array _ (fun _ => ?_) _
    | with_reducible refine Fine.bind ?_ fun _ => ?_
    | with_reducible refine Fine.map ?_
    | with_reducible refine fine_ite ?_ ?_
    | split
    | dsimp only
instance (t : TypeId) : Fi P (typeInfo t) := ⟨fine_typeInfo t⟩

theorem fine_underlying (t : TypeId) : Fine P (underlying t) := by
  unfold underlying
  repeat' first
    | with_reducible exact Fine.pure _
    | exact Fi.out
    | with_reducible refine fine_forIn_array _ _ _ fun _ _ => ?_
    | with_reducible refine fine_forIn_range _ _ _ fun _ _ => ?_
    | with_reducible refine fine_mapM_array _ (fun _ => ?_) _
    | with_reducible refine Fine.bind ?_ fun _ => ?_
    | with_reducible refine Fine.map ?_
    | with_reducible refine fine_ite ?_ ?_
    | split
    | dsimp only
instance (t : TypeId) : Fi P (underlying t) := ⟨fine_underlying t⟩

theorem fine_typeStr (t : TypeId) : Fine P (typeStr t) := by
  unfold typeStr
  repeat' first
    | with_reducible exact Fine.pure _
    | exact Fi.out
    | with_reducible refine fine_forIn_array _ _ _ fun _ _ => ?_
    | with_reducible refine fine_forIn_range _ _ _ fun _ _ => ?_
    | with_reducible refine fine_mapM_array _ (fun _ => ?_) _
    | with_reducible refine Fine.bind ?_ fun _ => ?_
    | with_reducible refine Fine.map ?_
    | with_reducible refine fine_ite ?_ ?_
    | split
    | dsimp only
instance (t : TypeId) : Fi P (typeStr t) := ⟨fine_typeStr t⟩

theorem fine_zeroValue (t : TypeId) : Fine P (zeroValue t) := by
  unfold zeroValue
  repeat' first
    | with_reducible exact Fine.pure _
    | exact Fi.out
    | with_reducible refine fine_forIn_array _ _ _ fun _ _ => ?_
    | with_reducible refine fine_forIn_range _ _ _ fun _ _ => ?_
    | with_reducible refine fine_mapM_array _ (fun _ => ?_) _
    | with_reducible refine Fine.bind ?_ fun _ => ?_
    | with_reducible refine Fine.map ?_
    | with_reducible refine fine_ite ?_ ?_
    | split
    | dsimp only
instance (t : TypeId) : Fi P (zeroValue t) := ⟨fine_zeroValue t⟩

theorem fine_sizeOf (t : TypeId) : Fine P (sizeOf t) := by
  unfold sizeOf
  repeat' first
    | with_reducible exact Fine.pure _
    | exact Fi.out
    | with_reducible refine fine_forIn_array _ _ _ fun _ _ => ?_
    | with_reducible refine fine_forIn_range _ _ _ fun _ _ => ?_
    | with_reducible refine fine_mapM_array _ (fun _ => ?_) _
    | with_reducible refine Fine.bind ?_ fun _ => ?_
    | with_reducible refine Fine.map ?_
    | with_reducible refine fine_ite ?_ ?_
    | split
    | dsimp only
instance (t : TypeId) : Fi P (sizeOf t) := ⟨fine_sizeOf t⟩

theorem fine_isAgg (t : TypeId) : Fine P (isAgg t) := by
  unfold isAgg
  repeat' first
    | with_reducible exact Fine.pure _
    | exact Fi.out
    | with_reducible refine fine_forIn_array _ _ _ fun _ _ => ?_
    | with_reducible refine fine_forIn_range _ _ _ fun _ _ => ?_
    | with_reducible refine fine_mapM_array _ (fun _ => ?_) _
    | with_reducible refine Fine.bind ?_ fun _ => ?_
    | with_reducible refine Fine.map ?_
    | with_reducible refine fine_ite ?_ ?_
    | split
    | dsimp only
instance (t : TypeId) : Fi P (isAgg t) := ⟨fine_isAgg t⟩

theorem fine_loadCellsFrom (a : Addr) : ∀ (n i : Nat) (acc : Array Value), Fine P (loadCellsFrom a i n acc)
  | 0, _, _ => Fine.pure _
  | n + 1, _, _ => Fine.bind (fine_load _ _) fun _ => fine_loadCellsFrom a n _ _
theorem fine_storeCells (a : Addr) : ∀ (vs : List Value) (i : Nat), Fine P (storeCells a vs i)
  | [], _ => Fine.pure _
  | _ :: vs, _ => Fine.bind (fine_store _ _ _) fun _ => fine_storeCells a vs _

instance (a : Addr) (n i : Nat) (acc : Array Value) : Fi P (loadCellsFrom a i n acc) := ⟨fine_loadCellsFrom a n i acc⟩
instance (a : Addr) (vs : List Value) (i : Nat) : Fi P (storeCells a vs i) := ⟨fine_storeCells a vs i⟩

theorem fine_loadCells (a : Addr) (n : Nat) : Fine P (loadCells a n) := by
  unfold loadCells
  repeat' first
    | with_reducible exact Fine.pure _
    | exact Fi.out
    | with_reducible refine fine_forIn_array _ _ _ fun _ _ => ?_
    | with_reducible refine fine_forIn_range _ _ _ fun _ _ => ?_
    | with_reducible refine fine_mapM_array _ (fun _ => ?_) _
    | with_reducible refine Fine.bind ?_ fun _ => ?_
    | with_reducible refine Fine.map ?_
    | with_reducible refine fine_ite ?_ ?_
    | split
    | dsimp only
instance (a : Addr) (n : Nat) : Fi P (loadCells a n) := ⟨fine_loadCells a n⟩

theorem fine_loadVar (t : TypeId) (a : Addr) : Fine P (loadVar t a) := by
  unfold loadVar
  repeat' first
    | with_reducible exact Fine.pure _
    | exact Fi.out
    | with_reducible refine fine_forIn_array _ _ _ fun _ _ => ?_
    | with_reducible refine fine_forIn_range _ _ _ fun _ _ => ?_
    | with_reducible refine fine_mapM_array _ (fun _ => ?_) _
    | with_reducible refine Fine.bind ?_ fun _ => ?_
    | with_reducible refine Fine.map ?_
    | with_reducible refine fine_ite ?_ ?_
    | split
    | dsimp only
instance (t : TypeId) (a : Addr) : Fi P (loadVar t a) := ⟨fine_loadVar t a⟩

theorem fine_storeVar (t : TypeId) (a : Addr) (v : Value) : Fine P (storeVar t a v) := by
  unfold storeVar
  repeat' first
    | with_reducible exact Fine.pure _
    | exact Fi.out
    | with_reducible refine fine_forIn_array _ _ _ fun _ _ => ?_
    | with_reducible refine fine_forIn_range _ _ _ fun _ _ => ?_
    | with_reducible refine fine_mapM_array _ (fun _ => ?_) _
    | with_reducible refine Fine.bind ?_ fun _ => ?_
    | with_reducible refine Fine.map ?_
    | with_reducible refine fine_ite ?_ ?_
    | split
    | dsimp only
instance (t : TypeId) (a : Addr) (v : Value) : Fi P (storeVar t a v) := ⟨fine_storeVar t a v⟩

theorem fine_newRow (t : TypeId) (c : Array Value) : Fine P (newRow t c) := by
  unfold newRow
  repeat' first
    | with_reducible exact Fine.pure _
    | exact Fi.out
    | with_reducible refine fine_forIn_array _ _ _ fun _ _ => ?_
    | with_reducible refine fine_forIn_range _ _ _ fun _ _ => ?_
    | with_reducible refine fine_mapM_array _ (fun _ => ?_) _
    | with_reducible refine Fine.bind ?_ fun _ => ?_
    | with_reducible refine Fine.map ?_
    | with_reducible refine fine_ite ?_ ?_
    | split
    | dsimp only
instance (t : TypeId) (c : Array Value) : Fi P (newRow t c) := ⟨fine_newRow t c⟩

theorem fine_newVar (t : TypeId) (v : Value) : Fine P (newVar t v) := by
  unfold newVar
  repeat' first
    | with_reducible exact Fine.pure _
    | exact Fi.out
    | with_reducible refine fine_forIn_array _ _ _ fun _ _ => ?_
    | with_reducible refine fine_forIn_range _ _ _ fun _ _ => ?_
    | with_reducible refine fine_mapM_array _ (fun _ => ?_) _
    | with_reducible refine Fine.bind ?_ fun _ => ?_
    | with_reducible refine Fine.map ?_
    | with_reducible refine fine_ite ?_ ?_
    | split
    | dsimp only
instance (t : TypeId) (v : Value) : Fi P (newVar t v) := ⟨fine_newVar t v⟩

theorem fine_elemOf (t : TypeId) : Fine P (elemOf t) := by
  unfold elemOf
  repeat' first
    | with_reducible exact Fine.pure _
    | exact Fi.out
    | with_reducible refine fine_forIn_array _ _ _ fun _ _ => ?_
    | with_reducible refine fine_forIn_range _ _ _ fun _ _ => ?_
    | with_reducible refine fine_mapM_array _ (fun _ => ?_) _
    | with_reducible refine Fine.bind ?_ fun _ => ?_
    | with_reducible refine Fine.map ?_
    | with_reducible refine fine_ite ?_ ?_
    | split
    | dsimp only
instance (t : TypeId) : Fi P (elemOf t) := ⟨fine_elemOf t⟩

theorem fine_part (t : TypeId) (c : Array Value) (o : Nat) : Fine P (part t c o) := by
  unfold part
  repeat' first
    | with_reducible exact Fine.pure _
    | exact Fi.out
    | with_reducible refine fine_forIn_array _ _ _ fun _ _ => ?_
    | with_reducible refine fine_forIn_range _ _ _ fun _ _ => ?_
    | with_reducible refine fine_mapM_array _ (fun _ => ?_) _
    | with_reducible refine Fine.bind ?_ fun _ => ?_
    | with_reducible refine Fine.map ?_
    | with_reducible refine fine_ite ?_ ?_
    | split
    | dsimp only
instance (t : TypeId) (c : Array Value) (o : Nat) : Fi P (part t c o) := ⟨fine_part t c o⟩

theorem fine_runtimePanic (e : RuntimeError) : Fine P (runtimePanic e : Sem α) := by
  unfold runtimePanic
  repeat' first
    | with_reducible exact Fine.pure _
    | exact Fi.out
    | with_reducible refine fine_forIn_array _ _ _ fun _ _ => ?_
    | with_reducible refine fine_forIn_range _ _ _ fun _ _ => ?_
    | with_reducible refine fine_mapM_array _ (fun _ => ?_) _
    | with_reducible refine Fine.bind ?_ fun _ => ?_
    | with_reducible refine Fine.map ?_
    | with_reducible refine fine_ite ?_ ?_
    | split
    | dsimp only
instance (e : RuntimeError) : Fi P (runtimePanic e : Sem α) := ⟨fine_runtimePanic e⟩

theorem fine_boundsPanic (k : IntKind) (x y : Int) (c : BoundsCode) : Fine P (boundsPanic k x y c : Sem α) := by
  unfold boundsPanic
  repeat' first
    | with_reducible exact Fine.pure _
    | exact Fi.out
    | with_reducible refine fine_forIn_array _ _ _ fun _ _ => ?_
    | with_reducible refine fine_forIn_range _ _ _ fun _ _ => ?_
    | with_reducible refine fine_mapM_array _ (fun _ => ?_) _
    | with_reducible refine Fine.bind ?_ fun _ => ?_
    | with_reducible refine Fine.map ?_
    | with_reducible refine fine_ite ?_ ?_
    | split
    | dsimp only
instance (k : IntKind) (x y : Int) (c : BoundsCode) : Fi P (boundsPanic k x y c : Sem α) := ⟨fine_boundsPanic k x y c⟩

theorem fine_asIntOf (v : Value) : Fine P (asIntOf v) := by
  unfold asIntOf
  repeat' first
    | with_reducible exact Fine.pure _
    | exact Fi.out
    | with_reducible refine fine_forIn_array _ _ _ fun _ _ => ?_
    | with_reducible refine fine_forIn_range _ _ _ fun _ _ => ?_
    | with_reducible refine fine_mapM_array _ (fun _ => ?_) _
    | with_reducible refine Fine.bind ?_ fun _ => ?_
    | with_reducible refine Fine.map ?_
    | with_reducible refine fine_ite ?_ ?_
    | split
    | dsimp only
instance (v : Value) : Fi P (asIntOf v) := ⟨fine_asIntOf v⟩

theorem fine_asInt (v : Value) : Fine P (asInt v) := by
  unfold asInt
  repeat' first
    | with_reducible exact Fine.pure _
    | exact Fi.out
    | with_reducible refine fine_forIn_array _ _ _ fun _ _ => ?_
    | with_reducible refine fine_forIn_range _ _ _ fun _ _ => ?_
    | with_reducible refine fine_mapM_array _ (fun _ => ?_) _
    | with_reducible refine Fine.bind ?_ fun _ => ?_
    | with_reducible refine Fine.map ?_
    | with_reducible refine fine_ite ?_ ?_
    | split
    | dsimp only
instance (v : Value) : Fi P (asInt v) := ⟨fine_asInt v⟩

theorem fine_asBool (v : Value) : Fine P (asBool v) := by
  unfold asBool
  repeat' first
    | with_reducible exact Fine.pure _
    | exact Fi.out
    | with_reducible refine fine_forIn_array _ _ _ fun _ _ => ?_
    | with_reducible refine fine_forIn_range _ _ _ fun _ _ => ?_
    | with_reducible refine fine_mapM_array _ (fun _ => ?_) _
    | with_reducible refine Fine.bind ?_ fun _ => ?_
    | with_reducible refine Fine.map ?_
    | with_reducible refine fine_ite ?_ ?_
    | split
    | dsimp only
instance (v : Value) : Fi P (asBool v) := ⟨fine_asBool v⟩

theorem fine_asString (v : Value) : Fine P (asString v) := by
  unfold asString
  repeat' first
    | with_reducible exact Fine.pure _
    | exact Fi.out
    | with_reducible refine fine_forIn_array _ _ _ fun _ _ => ?_
    | with_reducible refine fine_forIn_range _ _ _ fun _ _ => ?_
    | with_reducible refine fine_mapM_array _ (fun _ => ?_) _
    | with_reducible refine Fine.bind ?_ fun _ => ?_
    | with_reducible refine Fine.map ?_
    | with_reducible refine fine_ite ?_ ?_
    | split
    | dsimp only
instance (v : Value) : Fi P (asString v) := ⟨fine_asString v⟩

theorem fine_asAgg (v : Value) : Fine P (asAgg v) := by
  unfold asAgg
  repeat' first
    | with_reducible exact Fine.pure _
    | exact Fi.out
    | with_reducible refine fine_forIn_array _ _ _ fun _ _ => ?_
    | with_reducible refine fine_forIn_range _ _ _ fun _ _ => ?_
    | with_reducible refine fine_mapM_array _ (fun _ => ?_) _
    | with_reducible refine Fine.bind ?_ fun _ => ?_
    | with_reducible refine Fine.map ?_
    | with_reducible refine fine_ite ?_ ?_
    | split
    | dsimp only
instance (v : Value) : Fi P (asAgg v) := ⟨fine_asAgg v⟩

theorem fine_asAddr (v : Value) : Fine P (asAddr v) := by
  unfold asAddr
  repeat' first
    | with_reducible exact Fine.pure _
    | exact Fi.out
    | with_reducible refine fine_forIn_array _ _ _ fun _ _ => ?_
    | with_reducible refine fine_forIn_range _ _ _ fun _ _ => ?_
    | with_reducible refine fine_mapM_array _ (fun _ => ?_) _
    | with_reducible refine Fine.bind ?_ fun _ => ?_
    | with_reducible refine Fine.map ?_
    | with_reducible refine fine_ite ?_ ?_
    | split
    | dsimp only
instance (v : Value) : Fi P (asAddr v) := ⟨fine_asAddr v⟩

theorem fine_byteOf (a : Addr) : Fine P (byteOf a) := by
  unfold byteOf
  repeat' first
    | with_reducible exact Fine.pure _
    | exact Fi.out
    | with_reducible refine fine_forIn_array _ _ _ fun _ _ => ?_
    | with_reducible refine fine_forIn_range _ _ _ fun _ _ => ?_
    | with_reducible refine fine_mapM_array _ (fun _ => ?_) _
    | with_reducible refine Fine.bind ?_ fun _ => ?_
    | with_reducible refine Fine.map ?_
    | with_reducible refine fine_ite ?_ ?_
    | split
    | dsimp only
instance (a : Addr) : Fi P (byteOf a) := ⟨fine_byteOf a⟩

theorem fine_partAt (a : Addr) (c b : Nat) : Fine P (partAt a c b) := by
  unfold partAt
  repeat' first
    | with_reducible exact Fine.pure _
    | exact Fi.out
    | with_reducible refine fine_forIn_array _ _ _ fun _ _ => ?_
    | with_reducible refine fine_forIn_range _ _ _ fun _ _ => ?_
    | with_reducible refine fine_mapM_array _ (fun _ => ?_) _
    | with_reducible refine Fine.bind ?_ fun _ => ?_
    | with_reducible refine Fine.map ?_
    | with_reducible refine fine_ite ?_ ?_
    | split
    | dsimp only
instance (a : Addr) (c b : Nat) : Fi P (partAt a c b) := ⟨fine_partAt a c b⟩

theorem fine_fieldPlace (a : Addr) (f : Field) : Fine P (fieldPlace a f) := by
  unfold fieldPlace
  repeat' first
    | with_reducible exact Fine.pure _
    | exact Fi.out
    | with_reducible refine fine_forIn_array _ _ _ fun _ _ => ?_
    | with_reducible refine fine_forIn_range _ _ _ fun _ _ => ?_
    | with_reducible refine fine_mapM_array _ (fun _ => ?_) _
    | with_reducible refine Fine.bind ?_ fun _ => ?_
    | with_reducible refine Fine.map ?_
    | with_reducible refine fine_ite ?_ ?_
    | split
    | dsimp only
instance (a : Addr) (f : Field) : Fi P (fieldPlace a f) := ⟨fine_fieldPlace a f⟩

theorem fine_variablesAt (a : Addr) (u : TypeId) (n : Nat) : Fine P (variablesAt a u n) := by
  unfold variablesAt
  repeat' first
    | with_reducible exact Fine.pure _
    | exact Fi.out
    | with_reducible refine fine_forIn_array _ _ _ fun _ _ => ?_
    | with_reducible refine fine_forIn_range _ _ _ fun _ _ => ?_
    | with_reducible refine fine_mapM_array _ (fun _ => ?_) _
    | with_reducible refine Fine.bind ?_ fun _ => ?_
    | with_reducible refine Fine.map ?_
    | with_reducible refine fine_ite ?_ ?_
    | split
    | dsimp only
instance (a : Addr) (u : TypeId) (n : Nat) : Fi P (variablesAt a u n) := ⟨fine_variablesAt a u n⟩

theorem fine_loadBytes (a : Addr) (acc : ByteArray) : ∀ n, Fine P (loadBytes a acc n)
  | 0 => Fine.pure _
  | n + 1 => Fine.bind (fine_load _ _) fun v => by
    split
    · exact fine_loadBytes _ _ n
    · exact trivial

instance (a : Addr) (acc : ByteArray) (n : Nat) : Fi P (loadBytes a acc n) := ⟨fine_loadBytes a acc n⟩

theorem fine_twoPlaces (a b : Addr) : Fine P (Op.twoPlaces a b) := by
  unfold Op.twoPlaces
  repeat' first
    | with_reducible exact Fine.pure _
    | exact Fi.out
    | with_reducible refine fine_forIn_array _ _ _ fun _ _ => ?_
    | with_reducible refine fine_forIn_range _ _ _ fun _ _ => ?_
    | with_reducible refine fine_mapM_array _ (fun _ => ?_) _
    | with_reducible refine Fine.bind ?_ fun _ => ?_
    | with_reducible refine Fine.map ?_
    | with_reducible refine fine_ite ?_ ?_
    | split
    | dsimp only
instance (a b : Addr) : Fi P (Op.twoPlaces a b) := ⟨fine_twoPlaces a b⟩

theorem fine_addrSub (k : IntKind) (a b : Addr) : Fine P (Op.addrSub k a b) := by
  unfold Op.addrSub
  repeat' first
    | with_reducible exact Fine.pure _
    | exact Fi.out
    | with_reducible refine fine_forIn_array _ _ _ fun _ _ => ?_
    | with_reducible refine fine_forIn_range _ _ _ fun _ _ => ?_
    | with_reducible refine fine_mapM_array _ (fun _ => ?_) _
    | with_reducible refine Fine.bind ?_ fun _ => ?_
    | with_reducible refine Fine.map ?_
    | with_reducible refine fine_ite ?_ ?_
    | split
    | dsimp only
instance (k : IntKind) (a b : Addr) : Fi P (Op.addrSub k a b) := ⟨fine_addrSub k a b⟩

theorem fine_addrCmp (op : BinOp) (a b : Addr) : Fine P (Op.addrCmp op a b) := by
  unfold Op.addrCmp
  repeat' first
    | with_reducible exact Fine.pure _
    | exact Fi.out
    | with_reducible refine fine_forIn_array _ _ _ fun _ _ => ?_
    | with_reducible refine fine_forIn_range _ _ _ fun _ _ => ?_
    | with_reducible refine fine_mapM_array _ (fun _ => ?_) _
    | with_reducible refine Fine.bind ?_ fun _ => ?_
    | with_reducible refine Fine.map ?_
    | with_reducible refine fine_ite ?_ ?_
    | split
    | dsimp only
instance (op : BinOp) (a b : Addr) : Fi P (Op.addrCmp op a b) := ⟨fine_addrCmp op a b⟩

theorem fine_addrMod (k : IntKind) (a : Addr) (n : Int) : Fine P (Op.addrMod k a n) := by
  unfold Op.addrMod
  repeat' first
    | with_reducible exact Fine.pure _
    | exact Fi.out
    | with_reducible refine fine_forIn_array _ _ _ fun _ _ => ?_
    | with_reducible refine fine_forIn_range _ _ _ fun _ _ => ?_
    | with_reducible refine fine_mapM_array _ (fun _ => ?_) _
    | with_reducible refine Fine.bind ?_ fun _ => ?_
    | with_reducible refine Fine.map ?_
    | with_reducible refine fine_ite ?_ ?_
    | split
    | dsimp only
instance (k : IntKind) (a : Addr) (n : Int) : Fi P (Op.addrMod k a n) := ⟨fine_addrMod k a n⟩

theorem fine_floatArith (op : BinOp) (k : FloatKind) (x y : Nat) : Fine P (Op.floatArith op k x y) := by
  unfold Op.floatArith
  repeat' first
    | with_reducible exact Fine.pure _
    | exact Fi.out
    | with_reducible refine fine_forIn_array _ _ _ fun _ _ => ?_
    | with_reducible refine fine_forIn_range _ _ _ fun _ _ => ?_
    | with_reducible refine fine_mapM_array _ (fun _ => ?_) _
    | with_reducible refine Fine.bind ?_ fun _ => ?_
    | with_reducible refine Fine.map ?_
    | with_reducible refine fine_ite ?_ ?_
    | split
    | dsimp only
instance (op : BinOp) (k : FloatKind) (x y : Nat) : Fi P (Op.floatArith op k x y) := ⟨fine_floatArith op k x y⟩

theorem fine_floatCmp (op : BinOp) (k : FloatKind) (x y : Nat) : Fine P (Op.floatCmp op k x y) := by
  unfold Op.floatCmp
  repeat' first
    | with_reducible exact Fine.pure _
    | exact Fi.out
    | with_reducible refine fine_forIn_array _ _ _ fun _ _ => ?_
    | with_reducible refine fine_forIn_range _ _ _ fun _ _ => ?_
    | with_reducible refine fine_mapM_array _ (fun _ => ?_) _
    | with_reducible refine Fine.bind ?_ fun _ => ?_
    | with_reducible refine Fine.map ?_
    | with_reducible refine fine_ite ?_ ?_
    | split
    | dsimp only
instance (op : BinOp) (k : FloatKind) (x y : Nat) : Fi P (Op.floatCmp op k x y) := ⟨fine_floatCmp op k x y⟩

theorem fine_floatToFloat (s : FloatKind) (x : Nat) (d : FloatKind) : Fine P (Conv.floatToFloat s x d) := by
  unfold Conv.floatToFloat
  repeat' first
    | with_reducible exact Fine.pure _
    | exact Fi.out
    | with_reducible refine fine_forIn_array _ _ _ fun _ _ => ?_
    | with_reducible refine fine_forIn_range _ _ _ fun _ _ => ?_
    | with_reducible refine fine_mapM_array _ (fun _ => ?_) _
    | with_reducible refine Fine.bind ?_ fun _ => ?_
    | with_reducible refine Fine.map ?_
    | with_reducible refine fine_ite ?_ ?_
    | split
    | dsimp only
instance (s : FloatKind) (x : Nat) (d : FloatKind) : Fi P (Conv.floatToFloat s x d) := ⟨fine_floatToFloat s x d⟩

theorem fine_arith (op : BinOp) (k : FloatKind) (x y : Nat) : Fine P (Op.Complex.arith op k x y) := by
  unfold Op.Complex.arith
  repeat' first
    | with_reducible exact Fine.pure _
    | exact Fi.out
    | with_reducible refine fine_forIn_array _ _ _ fun _ _ => ?_
    | with_reducible refine fine_forIn_range _ _ _ fun _ _ => ?_
    | with_reducible refine fine_mapM_array _ (fun _ => ?_) _
    | with_reducible refine Fine.bind ?_ fun _ => ?_
    | with_reducible refine Fine.map ?_
    | with_reducible refine fine_ite ?_ ?_
    | split
    | dsimp only
instance (op : BinOp) (k : FloatKind) (x y : Nat) : Fi P (Op.Complex.arith op k x y) := ⟨fine_arith op k x y⟩

theorem fine_cmp (op : BinOp) (k : FloatKind) (x y : Nat) : Fine P (Op.Complex.cmp op k x y) := by
  unfold Op.Complex.cmp
  repeat' first
    | with_reducible exact Fine.pure _
    | exact Fi.out
    | with_reducible refine fine_forIn_array _ _ _ fun _ _ => ?_
    | with_reducible refine fine_forIn_range _ _ _ fun _ _ => ?_
    | with_reducible refine fine_mapM_array _ (fun _ => ?_) _
    | with_reducible refine Fine.bind ?_ fun _ => ?_
    | with_reducible refine Fine.map ?_
    | with_reducible refine fine_ite ?_ ?_
    | split
    | dsimp only
instance (op : BinOp) (k : FloatKind) (x y : Nat) : Fi P (Op.Complex.cmp op k x y) := ⟨fine_cmp op k x y⟩

theorem fine_conv (s : FloatKind) (x : Nat) (d : FloatKind) : Fine P (Op.Complex.conv s x d) := by
  unfold Op.Complex.conv
  repeat' first
    | with_reducible exact Fine.pure _
    | exact Fi.out
    | with_reducible refine fine_forIn_array _ _ _ fun _ _ => ?_
    | with_reducible refine fine_forIn_range _ _ _ fun _ _ => ?_
    | with_reducible refine fine_mapM_array _ (fun _ => ?_) _
    | with_reducible refine Fine.bind ?_ fun _ => ?_
    | with_reducible refine Fine.map ?_
    | with_reducible refine fine_ite ?_ ?_
    | split
    | dsimp only
instance (s : FloatKind) (x : Nat) (d : FloatKind) : Fi P (Op.Complex.conv s x d) := ⟨fine_conv s x d⟩

theorem fine_cadd (x y : Nat) : Fine P (Op.Complex.add x y) := by
  unfold Op.Complex.add
  repeat' first
    | with_reducible exact Fine.pure _
    | exact Fi.out
    | with_reducible refine fine_forIn_array _ _ _ fun _ _ => ?_
    | with_reducible refine fine_forIn_range _ _ _ fun _ _ => ?_
    | with_reducible refine fine_mapM_array _ (fun _ => ?_) _
    | with_reducible refine Fine.bind ?_ fun _ => ?_
    | with_reducible refine Fine.map ?_
    | with_reducible refine fine_ite ?_ ?_
    | split
    | dsimp only
instance (x y : Nat) : Fi P (Op.Complex.add x y) := ⟨fine_cadd x y⟩

theorem fine_csub (x y : Nat) : Fine P (Op.Complex.sub x y) := by
  unfold Op.Complex.sub
  repeat' first
    | with_reducible exact Fine.pure _
    | exact Fi.out
    | with_reducible refine fine_forIn_array _ _ _ fun _ _ => ?_
    | with_reducible refine fine_forIn_range _ _ _ fun _ _ => ?_
    | with_reducible refine fine_mapM_array _ (fun _ => ?_) _
    | with_reducible refine Fine.bind ?_ fun _ => ?_
    | with_reducible refine Fine.map ?_
    | with_reducible refine fine_ite ?_ ?_
    | split
    | dsimp only
instance (x y : Nat) : Fi P (Op.Complex.sub x y) := ⟨fine_csub x y⟩

theorem fine_cmul (x y : Nat) : Fine P (Op.Complex.mul x y) := by
  unfold Op.Complex.mul
  repeat' first
    | with_reducible exact Fine.pure _
    | exact Fi.out
    | with_reducible refine fine_forIn_array _ _ _ fun _ _ => ?_
    | with_reducible refine fine_forIn_range _ _ _ fun _ _ => ?_
    | with_reducible refine fine_mapM_array _ (fun _ => ?_) _
    | with_reducible refine Fine.bind ?_ fun _ => ?_
    | with_reducible refine Fine.map ?_
    | with_reducible refine fine_ite ?_ ?_
    | split
    | dsimp only
instance (x y : Nat) : Fi P (Op.Complex.mul x y) := ⟨fine_cmul x y⟩

theorem fine_cquo (x y : Nat) : Fine P (Op.Complex.quo x y) := by
  unfold Op.Complex.quo
  repeat' first
    | with_reducible exact Fine.pure _
    | exact Fi.out
    | with_reducible refine fine_forIn_array _ _ _ fun _ _ => ?_
    | with_reducible refine fine_forIn_range _ _ _ fun _ _ => ?_
    | with_reducible refine fine_mapM_array _ (fun _ => ?_) _
    | with_reducible refine Fine.bind ?_ fun _ => ?_
    | with_reducible refine Fine.map ?_
    | with_reducible refine fine_ite ?_ ?_
    | split
    | dsimp only
instance (x y : Nat) : Fi P (Op.Complex.quo x y) := ⟨fine_cquo x y⟩

theorem fine_product (a b c d : Nat) : Fine P (Op.Complex.product a b c d) := by
  unfold Op.Complex.product
  repeat' first
    | with_reducible exact Fine.pure _
    | exact Fi.out
    | with_reducible refine fine_forIn_array _ _ _ fun _ _ => ?_
    | with_reducible refine fine_forIn_range _ _ _ fun _ _ => ?_
    | with_reducible refine fine_mapM_array _ (fun _ => ?_) _
    | with_reducible refine Fine.bind ?_ fun _ => ?_
    | with_reducible refine Fine.map ?_
    | with_reducible refine fine_ite ?_ ?_
    | split
    | dsimp only
instance (a b c d : Nat) : Fi P (Op.Complex.product a b c d) := ⟨fine_product a b c d⟩

theorem fine_corrected (s a b c d : Nat) : Fine P (Op.Complex.corrected s a b c d) := by
  unfold Op.Complex.corrected
  repeat' first
    | with_reducible exact Fine.pure _
    | exact Fi.out
    | with_reducible refine fine_forIn_array _ _ _ fun _ _ => ?_
    | with_reducible refine fine_forIn_range _ _ _ fun _ _ => ?_
    | with_reducible refine fine_mapM_array _ (fun _ => ?_) _
    | with_reducible refine Fine.bind ?_ fun _ => ?_
    | with_reducible refine Fine.map ?_
    | with_reducible refine fine_ite ?_ ?_
    | split
    | dsimp only
instance (s a b c d : Nat) : Fi P (Op.Complex.corrected s a b c d) := ⟨fine_corrected s a b c d⟩

theorem fine_quotient (a b c d : Nat) : Fine P (Op.Complex.quotient a b c d) := by
  unfold Op.Complex.quotient
  repeat' first
    | with_reducible exact Fine.pure _
    | exact Fi.out
    | with_reducible refine fine_forIn_array _ _ _ fun _ _ => ?_
    | with_reducible refine fine_forIn_range _ _ _ fun _ _ => ?_
    | with_reducible refine fine_mapM_array _ (fun _ => ?_) _
    | with_reducible refine Fine.bind ?_ fun _ => ?_
    | with_reducible refine Fine.map ?_
    | with_reducible refine fine_ite ?_ ?_
    | split
    | dsimp only
instance (a b c d : Nat) : Fi P (Op.Complex.quotient a b c d) := ⟨fine_quotient a b c d⟩

theorem fine_complexOp (op : BinOp) (k : FloatKind) (a b c d : Nat) : Fine P (Op.complexOp op k a b c d) := by
  unfold Op.complexOp
  repeat' first
    | with_reducible exact Fine.pure _
    | exact Fi.out
    | with_reducible refine fine_forIn_array _ _ _ fun _ _ => ?_
    | with_reducible refine fine_forIn_range _ _ _ fun _ _ => ?_
    | with_reducible refine fine_mapM_array _ (fun _ => ?_) _
    | with_reducible refine Fine.bind ?_ fun _ => ?_
    | with_reducible refine Fine.map ?_
    | with_reducible refine fine_ite ?_ ?_
    | split
    | dsimp only
instance (op : BinOp) (k : FloatKind) (a b c d : Nat) : Fi P (Op.complexOp op k a b c d) := ⟨fine_complexOp op k a b c d⟩

theorem fine_intArith (op : BinOp) (k : IntKind) (x y : Int) : Fine P (Op.intArith op k x y) := by
  unfold Op.intArith
  repeat' first
    | with_reducible exact Fine.pure _
    | exact Fi.out
    | with_reducible refine fine_forIn_array _ _ _ fun _ _ => ?_
    | with_reducible refine fine_forIn_range _ _ _ fun _ _ => ?_
    | with_reducible refine fine_mapM_array _ (fun _ => ?_) _
    | with_reducible refine Fine.bind ?_ fun _ => ?_
    | with_reducible refine Fine.map ?_
    | with_reducible refine fine_ite ?_ ?_
    | split
    | dsimp only
instance (op : BinOp) (k : IntKind) (x y : Int) : Fi P (Op.intArith op k x y) := ⟨fine_intArith op k x y⟩

theorem fine_intBits (op : BinOp) (k : IntKind) (x y : Int) : Fine P (Op.intBits op k x y) := by
  unfold Op.intBits
  repeat' first
    | with_reducible exact Fine.pure _
    | exact Fi.out
    | with_reducible refine fine_forIn_array _ _ _ fun _ _ => ?_
    | with_reducible refine fine_forIn_range _ _ _ fun _ _ => ?_
    | with_reducible refine fine_mapM_array _ (fun _ => ?_) _
    | with_reducible refine Fine.bind ?_ fun _ => ?_
    | with_reducible refine Fine.map ?_
    | with_reducible refine fine_ite ?_ ?_
    | split
    | dsimp only
instance (op : BinOp) (k : IntKind) (x y : Int) : Fi P (Op.intBits op k x y) := ⟨fine_intBits op k x y⟩

theorem fine_intCmp (op : BinOp) (x y : Int) : Fine P (Op.intCmp op x y) := by
  unfold Op.intCmp
  repeat' first
    | with_reducible exact Fine.pure _
    | exact Fi.out
    | with_reducible refine fine_forIn_array _ _ _ fun _ _ => ?_
    | with_reducible refine fine_forIn_range _ _ _ fun _ _ => ?_
    | with_reducible refine fine_mapM_array _ (fun _ => ?_) _
    | with_reducible refine Fine.bind ?_ fun _ => ?_
    | with_reducible refine Fine.map ?_
    | with_reducible refine fine_ite ?_ ?_
    | split
    | dsimp only
instance (op : BinOp) (x y : Int) : Fi P (Op.intCmp op x y) := ⟨fine_intCmp op x y⟩

theorem fine_intDiv (op : BinOp) (k : IntKind) (x y : Int) : Fine P (Op.intDiv op k x y) := by
  unfold Op.intDiv
  repeat' first
    | with_reducible exact Fine.pure _
    | exact Fi.out
    | with_reducible refine fine_forIn_array _ _ _ fun _ _ => ?_
    | with_reducible refine fine_forIn_range _ _ _ fun _ _ => ?_
    | with_reducible refine fine_mapM_array _ (fun _ => ?_) _
    | with_reducible refine Fine.bind ?_ fun _ => ?_
    | with_reducible refine Fine.map ?_
    | with_reducible refine fine_ite ?_ ?_
    | split
    | dsimp only
instance (op : BinOp) (k : IntKind) (x y : Int) : Fi P (Op.intDiv op k x y) := ⟨fine_intDiv op k x y⟩

theorem fine_shift (op : BinOp) (k : IntKind) (x : Int) (k' : IntKind) (y : Int) : Fine P (Op.shift op k x k' y) := by
  unfold Op.shift
  repeat' first
    | with_reducible exact Fine.pure _
    | exact Fi.out
    | with_reducible refine fine_forIn_array _ _ _ fun _ _ => ?_
    | with_reducible refine fine_forIn_range _ _ _ fun _ _ => ?_
    | with_reducible refine fine_mapM_array _ (fun _ => ?_) _
    | with_reducible refine Fine.bind ?_ fun _ => ?_
    | with_reducible refine Fine.map ?_
    | with_reducible refine fine_ite ?_ ?_
    | split
    | dsimp only
instance (op : BinOp) (k : IntKind) (x : Int) (k' : IntKind) (y : Int) : Fi P (Op.shift op k x k' y) := ⟨fine_shift op k x k' y⟩

theorem fine_stringOp (op : BinOp) (x y : ByteArray) : Fine P (Op.stringOp op x y) := by
  unfold Op.stringOp
  repeat' first
    | with_reducible exact Fine.pure _
    | exact Fi.out
    | with_reducible refine fine_forIn_array _ _ _ fun _ _ => ?_
    | with_reducible refine fine_forIn_range _ _ _ fun _ _ => ?_
    | with_reducible refine fine_mapM_array _ (fun _ => ?_) _
    | with_reducible refine Fine.bind ?_ fun _ => ?_
    | with_reducible refine Fine.map ?_
    | with_reducible refine fine_ite ?_ ?_
    | split
    | dsimp only
instance (op : BinOp) (x y : ByteArray) : Fi P (Op.stringOp op x y) := ⟨fine_stringOp op x y⟩

theorem fine_unary (op : UnOp) (x : Value) : Fine P (Op.unary op x) := by
  unfold Op.unary
  repeat' first
    | with_reducible exact Fine.pure _
    | exact Fi.out
    | with_reducible refine fine_forIn_array _ _ _ fun _ _ => ?_
    | with_reducible refine fine_forIn_range _ _ _ fun _ _ => ?_
    | with_reducible refine fine_mapM_array _ (fun _ => ?_) _
    | with_reducible refine Fine.bind ?_ fun _ => ?_
    | with_reducible refine Fine.map ?_
    | with_reducible refine fine_ite ?_ ?_
    | split
    | dsimp only
instance (op : UnOp) (x : Value) : Fi P (Op.unary op x) := ⟨fine_unary op x⟩

theorem fine_equalIn : ∀ (d : Nat) (t : TypeId) (x y : Value), Fine P (Op.equalIn d t x y)
  | 0, _, _, _ => trivial
  | d + 1, _, _, _ => by
    have ih := fine_equalIn d
    unfold Op.equalIn
    repeat' first
      | with_reducible exact Fine.pure _
      | exact Fi.out
      | apply ih
      | with_reducible refine fine_forIn_array _ _ _ fun _ _ => ?_
      | with_reducible refine fine_forIn_range _ _ _ fun _ _ => ?_
      | with_reducible refine fine_mapM_array _ (fun _ => ?_) _
      | with_reducible refine Fine.bind ?_ fun _ => ?_
      | with_reducible refine Fine.map ?_
      | with_reducible refine fine_ite ?_ ?_
      | split
      | dsimp only
instance (d : Nat) (t : TypeId) (x y : Value) : Fi P (Op.equalIn d t x y) := ⟨fine_equalIn d t x y⟩

theorem fine_equal (t : TypeId) (x y : Value) : Fine P (Op.equal t x y) := by
  unfold Op.equal
  repeat' first
    | with_reducible exact Fine.pure _
    | exact Fi.out
    | with_reducible refine fine_forIn_array _ _ _ fun _ _ => ?_
    | with_reducible refine fine_forIn_range _ _ _ fun _ _ => ?_
    | with_reducible refine fine_mapM_array _ (fun _ => ?_) _
    | with_reducible refine Fine.bind ?_ fun _ => ?_
    | with_reducible refine Fine.map ?_
    | with_reducible refine fine_ite ?_ ?_
    | split
    | dsimp only
instance (t : TypeId) (x y : Value) : Fi P (Op.equal t x y) := ⟨fine_equal t x y⟩

theorem fine_eqGuardIn : ∀ (d : Nat) (t : TypeId) (x y : Value), Fine P (Op.eqGuardIn d t x y)
  | 0, _, _, _ => trivial
  | d + 1, _, _, _ => by
    have ih := fine_eqGuardIn d
    unfold Op.eqGuardIn
    repeat' first
      | with_reducible exact Fine.pure _
      | exact Fi.out
      | apply ih
      | with_reducible refine fine_forIn_array _ _ _ fun _ _ => ?_
      | with_reducible refine fine_forIn_range _ _ _ fun _ _ => ?_
      | with_reducible refine fine_mapM_array _ (fun _ => ?_) _
      | with_reducible refine Fine.bind ?_ fun _ => ?_
      | with_reducible refine Fine.map ?_
      | with_reducible refine fine_ite ?_ ?_
      | split
      | dsimp only
instance (d : Nat) (t : TypeId) (x y : Value) : Fi P (Op.eqGuardIn d t x y) := ⟨fine_eqGuardIn d t x y⟩

theorem fine_unsafeAdd (a : Array TypeId) (t : TypeId) (x : Array Value) : Fine P (Builtin.unsafeAdd_ a t x) := by
  unfold Builtin.unsafeAdd_
  rcases x with ⟨_ | ⟨v1, _ | ⟨v2, _ | ⟨v3, l⟩⟩⟩⟩
  all_goals first
    | exact trivial
    | (cases v1 <;> first | exact trivial | skip)
  all_goals refine Fine.bind ?_ fun _ => ?_
  repeat' first
    | with_reducible exact Fine.pure _
    | exact Fi.out
    | with_reducible refine fine_forIn_array _ _ _ fun _ _ => ?_
    | with_reducible refine fine_forIn_range _ _ _ fun _ _ => ?_
    | with_reducible refine fine_mapM_array _ (fun _ => ?_) _
    | with_reducible refine Fine.bind ?_ fun _ => ?_
    | with_reducible refine Fine.map ?_
    | with_reducible refine fine_ite ?_ ?_
    | split
    | dsimp only
instance (a : Array TypeId) (t : TypeId) (x : Array Value) : Fi P (Builtin.unsafeAdd_ a t x) := ⟨fine_unsafeAdd a t x⟩

theorem fine_movedNumber (t : TypeId) (x y : Value) : Fine P (movedNumber t x y) := by
  unfold movedNumber
  repeat' first
    | with_reducible exact Fine.pure _
    | exact Fi.out
    | with_reducible refine fine_forIn_array _ _ _ fun _ _ => ?_
    | with_reducible refine fine_forIn_range _ _ _ fun _ _ => ?_
    | with_reducible refine fine_mapM_array _ (fun _ => ?_) _
    | with_reducible refine Fine.bind ?_ fun _ => ?_
    | with_reducible refine Fine.map ?_
    | with_reducible refine fine_ite ?_ ?_
    | split
    | dsimp only
instance (t : TypeId) (x y : Value) : Fi P (movedNumber t x y) := ⟨fine_movedNumber t x y⟩

theorem fine_movedPointer (t : TypeId) (x y : Value) : Fine P (movedPointer t x y) := by
  unfold movedPointer
  repeat' first
    | with_reducible exact Fine.pure _
    | exact Fi.out
    | with_reducible refine fine_forIn_array _ _ _ fun _ _ => ?_
    | with_reducible refine fine_forIn_range _ _ _ fun _ _ => ?_
    | with_reducible refine fine_mapM_array _ (fun _ => ?_) _
    | with_reducible refine Fine.bind ?_ fun _ => ?_
    | with_reducible refine Fine.map ?_
    | with_reducible refine fine_ite ?_ ?_
    | split
    | dsimp only
instance (t : TypeId) (x y : Value) : Fi P (movedPointer t x y) := ⟨fine_movedPointer t x y⟩

theorem fine_eqGuard (op : BinOp) (t : TypeId) (x y : Operand) (a b : Value) : Fine P (eqGuard op t x y a b) := by
  unfold eqGuard
  repeat' first
    | with_reducible exact Fine.pure _
    | exact Fi.out
    | with_reducible refine fine_forIn_array _ _ _ fun _ _ => ?_
    | with_reducible refine fine_forIn_range _ _ _ fun _ _ => ?_
    | with_reducible refine fine_mapM_array _ (fun _ => ?_) _
    | with_reducible refine Fine.bind ?_ fun _ => ?_
    | with_reducible refine Fine.map ?_
    | with_reducible refine fine_ite ?_ ?_
    | split
    | dsimp only
instance (op : BinOp) (t : TypeId) (x y : Operand) (a b : Value) : Fi P (eqGuard op t x y a b) := ⟨fine_eqGuard op t x y a b⟩

theorem fine_binOp (op : BinOp) (t : TypeId) (a b : Value) : Fine P (binOp op t a b) := by
  unfold binOp
  repeat' first
    | with_reducible exact Fine.pure _
    | exact Fi.out
    | with_reducible refine fine_forIn_array _ _ _ fun _ _ => ?_
    | with_reducible refine fine_forIn_range _ _ _ fun _ _ => ?_
    | with_reducible refine fine_mapM_array _ (fun _ => ?_) _
    | with_reducible refine Fine.bind ?_ fun _ => ?_
    | with_reducible refine Fine.map ?_
    | with_reducible refine fine_ite ?_ ?_
    | split
    | dsimp only
instance (op : BinOp) (t : TypeId) (a b : Value) : Fi P (binOp op t a b) := ⟨fine_binOp op t a b⟩

end Go.Fi
