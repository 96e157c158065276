/-
  The operations are fine.
-/
import Derived.Test.YtlndinigbppafaaFiB
namespace Go.Fi
variable {P : Program} {α β : Type}

theorem fine_bytesToString (x : Value) : Fine P (Conv.bytesToString x) := by
  unfold Conv.bytesToString
  repeat' first
    | with_reducible exact Fine.pure _
    | exact Fi.out
    | with_reducible refine fine_forIn_array _ _ _ fun _ _ => ?_
    | with_reducible refine fine_forIn_range _ _ _ fun _ _ => ?_
    | with_reducible refine fine_mapM_array _ (fun _ => ?_) _
    | with_reducible refine Fine.bind ?_ fun _ => ?_
    | with_reducible refine Fine.map ?_
    | with_reducible refine fine_ite ?_ ?_
    | split
    | dsimp only
instance (x : Value) : Fi P (Conv.bytesToString x) := ⟨fine_bytesToString x⟩

theorem fine_complexToComplex (s : FloatKind) (a b : Nat) (d : FloatKind) : Fine P (Conv.complexToComplex s a b d) := by
  unfold Conv.complexToComplex
  repeat' first
    | with_reducible exact Fine.pure _
    | exact Fi.out
    | with_reducible refine fine_forIn_array _ _ _ fun _ _ => ?_
    | with_reducible refine fine_forIn_range _ _ _ fun _ _ => ?_
    | with_reducible refine fine_mapM_array _ (fun _ => ?_) _
    | with_reducible refine Fine.bind ?_ fun _ => ?_
    | with_reducible refine Fine.map ?_
    | with_reducible refine fine_ite ?_ ?_
    | split
    | dsimp only
instance (s : FloatKind) (a b : Nat) (d : FloatKind) : Fi P (Conv.complexToComplex s a b d) := ⟨fine_complexToComplex s a b d⟩

theorem fine_floatToInt (s : FloatKind) (a : Nat) (d : IntKind) : Fine P (Conv.floatToInt s a d) := by
  unfold Conv.floatToInt
  repeat' first
    | with_reducible exact Fine.pure _
    | exact Fi.out
    | with_reducible refine fine_forIn_array _ _ _ fun _ _ => ?_
    | with_reducible refine fine_forIn_range _ _ _ fun _ _ => ?_
    | with_reducible refine fine_mapM_array _ (fun _ => ?_) _
    | with_reducible refine Fine.bind ?_ fun _ => ?_
    | with_reducible refine Fine.map ?_
    | with_reducible refine fine_ite ?_ ?_
    | split
    | dsimp only
instance (s : FloatKind) (a : Nat) (d : IntKind) : Fi P (Conv.floatToInt s a d) := ⟨fine_floatToInt s a d⟩

theorem fine_intToFloat (d : FloatKind) (n : Int) : Fine P (Conv.intToFloat d n) := by
  unfold Conv.intToFloat
  repeat' first
    | with_reducible exact Fine.pure _
    | exact Fi.out
    | with_reducible refine fine_forIn_array _ _ _ fun _ _ => ?_
    | with_reducible refine fine_forIn_range _ _ _ fun _ _ => ?_
    | with_reducible refine fine_mapM_array _ (fun _ => ?_) _
    | with_reducible refine Fine.bind ?_ fun _ => ?_
    | with_reducible refine Fine.map ?_
    | with_reducible refine fine_ite ?_ ?_
    | split
    | dsimp only
instance (d : FloatKind) (n : Int) : Fi P (Conv.intToFloat d n) := ⟨fine_intToFloat d n⟩

theorem fine_intToInt (d : IntKind) (n : Int) : Fine P (Conv.intToInt d n) := by
  unfold Conv.intToInt
  repeat' first
    | with_reducible exact Fine.pure _
    | exact Fi.out
    | with_reducible refine fine_forIn_array _ _ _ fun _ _ => ?_
    | with_reducible refine fine_forIn_range _ _ _ fun _ _ => ?_
    | with_reducible refine fine_mapM_array _ (fun _ => ?_) _
    | with_reducible refine Fine.bind ?_ fun _ => ?_
    | with_reducible refine Fine.map ?_
    | with_reducible refine fine_ite ?_ ?_
    | split
    | dsimp only
instance (d : IntKind) (n : Int) : Fi P (Conv.intToInt d n) := ⟨fine_intToInt d n⟩

theorem fine_intToString (n : Int) : Fine P (Conv.intToString n) := by
  unfold Conv.intToString
  repeat' first
    | with_reducible exact Fine.pure _
    | exact Fi.out
    | with_reducible refine fine_forIn_array _ _ _ fun _ _ => ?_
    | with_reducible refine fine_forIn_range _ _ _ fun _ _ => ?_
    | with_reducible refine fine_mapM_array _ (fun _ => ?_) _
    | with_reducible refine Fine.bind ?_ fun _ => ?_
    | with_reducible refine Fine.map ?_
    | with_reducible refine fine_ite ?_ ?_
    | split
    | dsimp only
instance (n : Int) : Fi P (Conv.intToString n) := ⟨fine_intToString n⟩

theorem fine_runesToString (x : Value) : Fine P (Conv.runesToString x) := by
  unfold Conv.runesToString
  repeat' first
    | with_reducible exact Fine.pure _
    | exact Fi.out
    | with_reducible refine fine_forIn_array _ _ _ fun _ _ => ?_
    | with_reducible refine fine_forIn_range _ _ _ fun _ _ => ?_
    | with_reducible refine fine_mapM_array _ (fun _ => ?_) _
    | with_reducible refine Fine.bind ?_ fun _ => ?_
    | with_reducible refine Fine.map ?_
    | with_reducible refine fine_ite ?_ ?_
    | split
    | dsimp only
instance (x : Value) : Fi P (Conv.runesToString x) := ⟨fine_runesToString x⟩

theorem fine_stringToBytes (e : TypeId) (s : ByteArray) : Fine P (Conv.stringToBytes e s) := by
  unfold Conv.stringToBytes
  repeat' first
    | with_reducible exact Fine.pure _
    | exact Fi.out
    | with_reducible refine fine_forIn_array _ _ _ fun _ _ => ?_
    | with_reducible refine fine_forIn_range _ _ _ fun _ _ => ?_
    | with_reducible refine fine_mapM_array _ (fun _ => ?_) _
    | with_reducible refine Fine.bind ?_ fun _ => ?_
    | with_reducible refine Fine.map ?_
    | with_reducible refine fine_ite ?_ ?_
    | split
    | dsimp only
instance (e : TypeId) (s : ByteArray) : Fi P (Conv.stringToBytes e s) := ⟨fine_stringToBytes e s⟩

theorem fine_stringToRunes (e : TypeId) (s : ByteArray) : Fine P (Conv.stringToRunes e s) := by
  unfold Conv.stringToRunes
  repeat' first
    | with_reducible exact Fine.pure _
    | exact Fi.out
    | with_reducible refine fine_forIn_array _ _ _ fun _ _ => ?_
    | with_reducible refine fine_forIn_range _ _ _ fun _ _ => ?_
    | with_reducible refine fine_mapM_array _ (fun _ => ?_) _
    | with_reducible refine Fine.bind ?_ fun _ => ?_
    | with_reducible refine Fine.map ?_
    | with_reducible refine fine_ite ?_ ?_
    | split
    | dsimp only
instance (e : TypeId) (s : ByteArray) : Fi P (Conv.stringToRunes e s) := ⟨fine_stringToRunes e s⟩

theorem fine_seenAt (a : Addr) : Fine P (Conv.seenAt a) := by
  unfold Conv.seenAt
  repeat' first
    | with_reducible exact Fine.pure _
    | exact Fi.out
    | with_reducible refine fine_forIn_array _ _ _ fun _ _ => ?_
    | with_reducible refine fine_forIn_range _ _ _ fun _ _ => ?_
    | with_reducible refine fine_mapM_array _ (fun _ => ?_) _
    | with_reducible refine Fine.bind ?_ fun _ => ?_
    | with_reducible refine Fine.map ?_
    | with_reducible refine fine_ite ?_ ?_
    | split
    | dsimp only
instance (a : Addr) : Fi P (Conv.seenAt a) := ⟨fine_seenAt a⟩

theorem fine_unsafePointer (s d : TypeId) (x : Value) : Fine P (Conv.unsafePointer s d x) := by
  unfold Conv.unsafePointer
  repeat' first
    | with_reducible exact Fine.pure _
    | exact Fi.out
    | with_reducible refine fine_forIn_array _ _ _ fun _ _ => ?_
    | with_reducible refine fine_forIn_range _ _ _ fun _ _ => ?_
    | with_reducible refine fine_mapM_array _ (fun _ => ?_) _
    | with_reducible refine Fine.bind ?_ fun _ => ?_
    | with_reducible refine Fine.map ?_
    | with_reducible refine fine_ite ?_ ?_
    | split
    | dsimp only
instance (s d : TypeId) (x : Value) : Fi P (Conv.unsafePointer s d x) := ⟨fine_unsafePointer s d x⟩

theorem fine_convert (s d : TypeId) (x : Value) : Fine P (convert s d x) := by
  unfold convert
  repeat' first
    | with_reducible exact Fine.pure _
    | exact Fi.out
    | with_reducible refine fine_forIn_array _ _ _ fun _ _ => ?_
    | with_reducible refine fine_forIn_range _ _ _ fun _ _ => ?_
    | with_reducible refine fine_mapM_array _ (fun _ => ?_) _
    | with_reducible refine Fine.bind ?_ fun _ => ?_
    | with_reducible refine Fine.map ?_
    | with_reducible refine fine_ite ?_ ?_
    | split
    | dsimp only
instance (s d : TypeId) (x : Value) : Fi P (convert s d x) := ⟨fine_convert s d x⟩

theorem fine_holdsCells (a : Addr) (n : Nat) : Fine P (Builtin.holdsCells a n) := by
  unfold Builtin.holdsCells
  repeat' first
    | with_reducible exact Fine.pure _
    | exact Fi.out
    | with_reducible refine fine_forIn_array _ _ _ fun _ _ => ?_
    | with_reducible refine fine_forIn_range _ _ _ fun _ _ => ?_
    | with_reducible refine fine_mapM_array _ (fun _ => ?_) _
    | with_reducible refine Fine.bind ?_ fun _ => ?_
    | with_reducible refine Fine.map ?_
    | with_reducible refine fine_ite ?_ ?_
    | split
    | dsimp only
instance (a : Addr) (n : Nat) : Fi P (Builtin.holdsCells a n) := ⟨fine_holdsCells a n⟩

theorem fine_mayShare (a b c : Nat) (o : Option Addr) (x : Value) : Fine P (Builtin.mayShare a b c o x) := by
  unfold Builtin.mayShare
  repeat' first
    | with_reducible exact Fine.pure _
    | exact Fi.out
    | with_reducible refine fine_forIn_array _ _ _ fun _ _ => ?_
    | with_reducible refine fine_forIn_range _ _ _ fun _ _ => ?_
    | with_reducible refine fine_mapM_array _ (fun _ => ?_) _
    | with_reducible refine Fine.bind ?_ fun _ => ?_
    | with_reducible refine Fine.map ?_
    | with_reducible refine fine_ite ?_ ?_
    | split
    | dsimp only
instance (a b c : Nat) (o : Option Addr) (x : Value) : Fi P (Builtin.mayShare a b c o x) := ⟨fine_mayShare a b c o x⟩

theorem fine_lenOf (x : Value) : Fine P (Builtin.lenOf x) := by
  unfold Builtin.lenOf
  repeat' first
    | with_reducible exact Fine.pure _
    | exact Fi.out
    | with_reducible refine fine_forIn_array _ _ _ fun _ _ => ?_
    | with_reducible refine fine_forIn_range _ _ _ fun _ _ => ?_
    | with_reducible refine fine_mapM_array _ (fun _ => ?_) _
    | with_reducible refine Fine.bind ?_ fun _ => ?_
    | with_reducible refine Fine.map ?_
    | with_reducible refine fine_ite ?_ ?_
    | split
    | dsimp only
instance (x : Value) : Fi P (Builtin.lenOf x) := ⟨fine_lenOf x⟩

theorem fine_firstCells (a n : Nat) (x : Value) : Fine P (Builtin.firstCells a n x) := by
  unfold Builtin.firstCells
  repeat' first
    | with_reducible exact Fine.pure _
    | exact Fi.out
    | with_reducible refine fine_forIn_array _ _ _ fun _ _ => ?_
    | with_reducible refine fine_forIn_range _ _ _ fun _ _ => ?_
    | with_reducible refine fine_mapM_array _ (fun _ => ?_) _
    | with_reducible refine Fine.bind ?_ fun _ => ?_
    | with_reducible refine Fine.map ?_
    | with_reducible refine fine_ite ?_ ?_
    | split
    | dsimp only
instance (a n : Nat) (x : Value) : Fi P (Builtin.firstCells a n x) := ⟨fine_firstCells a n x⟩

theorem fine_bappend (a : Array TypeId) (t : TypeId) (x : Array Value) : Fine P (Builtin.append_ a t x) := by
  unfold Builtin.append_
  repeat' first
    | with_reducible exact Fine.pure _
    | exact Fi.out
    | with_reducible refine fine_forIn_array _ _ _ fun _ _ => ?_
    | with_reducible refine fine_forIn_range _ _ _ fun _ _ => ?_
    | with_reducible refine fine_mapM_array _ (fun _ => ?_) _
    | with_reducible refine Fine.bind ?_ fun _ => ?_
    | with_reducible refine Fine.map ?_
    | with_reducible refine fine_ite ?_ ?_
    | split
    | dsimp only
instance (a : Array TypeId) (t : TypeId) (x : Array Value) : Fi P (Builtin.append_ a t x) := ⟨fine_bappend a t x⟩

theorem fine_bcap (a : Array TypeId) (t : TypeId) (x : Array Value) : Fine P (Builtin.cap_ a t x) := by
  unfold Builtin.cap_
  repeat' first
    | with_reducible exact Fine.pure _
    | exact Fi.out
    | with_reducible refine fine_forIn_array _ _ _ fun _ _ => ?_
    | with_reducible refine fine_forIn_range _ _ _ fun _ _ => ?_
    | with_reducible refine fine_mapM_array _ (fun _ => ?_) _
    | with_reducible refine Fine.bind ?_ fun _ => ?_
    | with_reducible refine Fine.map ?_
    | with_reducible refine fine_ite ?_ ?_
    | split
    | dsimp only
instance (a : Array TypeId) (t : TypeId) (x : Array Value) : Fi P (Builtin.cap_ a t x) := ⟨fine_bcap a t x⟩

theorem fine_bcopy (a : Array TypeId) (t : TypeId) (x : Array Value) : Fine P (Builtin.copy_ a t x) := by
  unfold Builtin.copy_
  repeat' first
    | with_reducible exact Fine.pure _
    | exact Fi.out
    | with_reducible refine fine_forIn_array _ _ _ fun _ _ => ?_
    | with_reducible refine fine_forIn_range _ _ _ fun _ _ => ?_
    | with_reducible refine fine_mapM_array _ (fun _ => ?_) _
    | with_reducible refine Fine.bind ?_ fun _ => ?_
    | with_reducible refine Fine.map ?_
    | with_reducible refine fine_ite ?_ ?_
    | split
    | dsimp only
instance (a : Array TypeId) (t : TypeId) (x : Array Value) : Fi P (Builtin.copy_ a t x) := ⟨fine_bcopy a t x⟩

theorem fine_bclose (a : Array TypeId) (t : TypeId) (x : Array Value) : Fine P (Builtin.close_ a t x) := by
  unfold Builtin.close_
  rcases x with ⟨_ | ⟨v1, _ | ⟨v2, l⟩⟩⟩
  all_goals first
    | exact trivial
    | (cases v1 <;> first | exact trivial | skip)
  rename_i o
  cases o with
  | none => exact fine_runtimePanic _
  | some r =>
  refine Fine.bind ?_ fun _ => ?_
  repeat' first
    | with_reducible exact Fine.pure _
    | exact Fi.out
    | with_reducible refine fine_forIn_array _ _ _ fun _ _ => ?_
    | with_reducible refine fine_forIn_range _ _ _ fun _ _ => ?_
    | with_reducible refine fine_mapM_array _ (fun _ => ?_) _
    | with_reducible refine Fine.bind ?_ fun _ => ?_
    | with_reducible refine Fine.map ?_
    | with_reducible refine fine_ite ?_ ?_
    | split
    | dsimp only
instance (a : Array TypeId) (t : TypeId) (x : Array Value) : Fi P (Builtin.close_ a t x) := ⟨fine_bclose a t x⟩

theorem fine_blen (a : Array TypeId) (t : TypeId) (x : Array Value) : Fine P (Builtin.len_ a t x) := by
  unfold Builtin.len_
  repeat' first
    | with_reducible exact Fine.pure _
    | exact Fi.out
    | with_reducible refine fine_forIn_array _ _ _ fun _ _ => ?_
    | with_reducible refine fine_forIn_range _ _ _ fun _ _ => ?_
    | with_reducible refine fine_mapM_array _ (fun _ => ?_) _
    | with_reducible refine Fine.bind ?_ fun _ => ?_
    | with_reducible refine Fine.map ?_
    | with_reducible refine fine_ite ?_ ?_
    | split
    | dsimp only
instance (a : Array TypeId) (t : TypeId) (x : Array Value) : Fi P (Builtin.len_ a t x) := ⟨fine_blen a t x⟩

theorem fine_bunsafeString (a : Array TypeId) (t : TypeId) (x : Array Value) : Fine P (Builtin.unsafeString_ a t x) := by
  unfold Builtin.unsafeString_
  rcases x with ⟨_ | ⟨v1, _ | ⟨v2, _ | ⟨v3, l⟩⟩⟩⟩
  all_goals first
    | exact trivial
    | (cases v1 <;> first | exact trivial | skip)
  all_goals refine Fine.bind ?_ fun _ => ?_
  repeat' first
    | with_reducible exact Fine.pure _
    | exact Fi.out
    | with_reducible refine fine_forIn_array _ _ _ fun _ _ => ?_
    | with_reducible refine fine_forIn_range _ _ _ fun _ _ => ?_
    | with_reducible refine fine_mapM_array _ (fun _ => ?_) _
    | with_reducible refine Fine.bind ?_ fun _ => ?_
    | with_reducible refine Fine.map ?_
    | with_reducible refine fine_ite ?_ ?_
    | split
    | dsimp only
instance (a : Array TypeId) (t : TypeId) (x : Array Value) : Fi P (Builtin.unsafeString_ a t x) := ⟨fine_bunsafeString a t x⟩

theorem fine_ssaWrap (a : Array TypeId) (t : TypeId) (x : Array Value) : Fine P (Builtin.ssaWrapNilChk_ a t x) := by
  unfold Builtin.ssaWrapNilChk_
  rcases x with ⟨_ | ⟨v1, _ | ⟨v2, _ | ⟨v3, _ | ⟨v4, l⟩⟩⟩⟩⟩
  all_goals first
    | exact trivial
    | (cases v2 <;> first | exact trivial | (cases v3 <;> first | exact trivial | (cases v1 <;> first | exact trivial | skip)))
  rename_i o
  cases o with
  | some r => exact trivial
  | none =>
  refine Fine.bind ?_ fun _ => ?_
  repeat' first
    | with_reducible exact Fine.pure _
    | exact Fi.out
    | with_reducible refine fine_forIn_array _ _ _ fun _ _ => ?_
    | with_reducible refine fine_forIn_range _ _ _ fun _ _ => ?_
    | with_reducible refine fine_mapM_array _ (fun _ => ?_) _
    | with_reducible refine Fine.bind ?_ fun _ => ?_
    | with_reducible refine Fine.map ?_
    | with_reducible refine fine_ite ?_ ?_
    | split
    | dsimp only
instance (a : Array TypeId) (t : TypeId) (x : Array Value) : Fi P (Builtin.ssaWrapNilChk_ a t x) := ⟨fine_ssaWrap a t x⟩

theorem fine_sureAddr (v : Value) : Fine P (Instr.sureAddr v) := by
  unfold Instr.sureAddr
  repeat' first
    | with_reducible exact Fine.pure _
    | exact Fi.out
    | with_reducible refine fine_forIn_array _ _ _ fun _ _ => ?_
    | with_reducible refine fine_forIn_range _ _ _ fun _ _ => ?_
    | with_reducible refine fine_mapM_array _ (fun _ => ?_) _
    | with_reducible refine Fine.bind ?_ fun _ => ?_
    | with_reducible refine Fine.map ?_
    | with_reducible refine fine_ite ?_ ?_
    | split
    | dsimp only
instance (v : Value) : Fi P (Instr.sureAddr v) := ⟨fine_sureAddr v⟩

theorem fine_loadAt (t : TypeId) (v : Value) : Fine P (Instr.loadAt t v) := by
  unfold Instr.loadAt
  repeat' first
    | with_reducible exact Fine.pure _
    | exact Fi.out
    | with_reducible refine fine_forIn_array _ _ _ fun _ _ => ?_
    | with_reducible refine fine_forIn_range _ _ _ fun _ _ => ?_
    | with_reducible refine fine_mapM_array _ (fun _ => ?_) _
    | with_reducible refine Fine.bind ?_ fun _ => ?_
    | with_reducible refine Fine.map ?_
    | with_reducible refine fine_ite ?_ ?_
    | split
    | dsimp only
instance (t : TypeId) (v : Value) : Fi P (Instr.loadAt t v) := ⟨fine_loadAt t v⟩

theorem fine_storeAt (t : TypeId) (v x : Value) : Fine P (Instr.storeAt t v x) := by
  unfold Instr.storeAt
  repeat' first
    | with_reducible exact Fine.pure _
    | exact Fi.out
    | with_reducible refine fine_forIn_array _ _ _ fun _ _ => ?_
    | with_reducible refine fine_forIn_range _ _ _ fun _ _ => ?_
    | with_reducible refine fine_mapM_array _ (fun _ => ?_) _
    | with_reducible refine Fine.bind ?_ fun _ => ?_
    | with_reducible refine Fine.map ?_
    | with_reducible refine fine_ite ?_ ?_
    | split
    | dsimp only
instance (t : TypeId) (v x : Value) : Fi P (Instr.storeAt t v x) := ⟨fine_storeAt t v x⟩

theorem fine_fieldAt (t : TypeId) (v : Value) (f : Nat) : Fine P (Instr.fieldAt t v f) := by
  unfold Instr.fieldAt
  repeat' first
    | with_reducible exact Fine.pure _
    | exact Fi.out
    | with_reducible refine fine_forIn_array _ _ _ fun _ _ => ?_
    | with_reducible refine fine_forIn_range _ _ _ fun _ _ => ?_
    | with_reducible refine fine_mapM_array _ (fun _ => ?_) _
    | with_reducible refine Fine.bind ?_ fun _ => ?_
    | with_reducible refine Fine.map ?_
    | with_reducible refine fine_ite ?_ ?_
    | split
    | dsimp only
instance (t : TypeId) (v : Value) (f : Nat) : Fi P (Instr.fieldAt t v f) := ⟨fine_fieldAt t v f⟩

theorem fine_indexAt (t : TypeId) (v i : Value) : Fine P (Instr.indexAt t v i) := by
  unfold Instr.indexAt
  repeat' first
    | with_reducible exact Fine.pure _
    | exact Fi.out
    | with_reducible refine fine_forIn_array _ _ _ fun _ _ => ?_
    | with_reducible refine fine_forIn_range _ _ _ fun _ _ => ?_
    | with_reducible refine fine_mapM_array _ (fun _ => ?_) _
    | with_reducible refine Fine.bind ?_ fun _ => ?_
    | with_reducible refine Fine.map ?_
    | with_reducible refine fine_ite ?_ ?_
    | split
    | dsimp only
instance (t : TypeId) (v i : Value) : Fi P (Instr.indexAt t v i) := ⟨fine_indexAt t v i⟩

theorem fine_sliceBound (x : Value) (y : Nat) (c : BoundsCode) : Fine P (Instr.sliceBound x y c) := by
  unfold Instr.sliceBound
  repeat' first
    | with_reducible exact Fine.pure _
    | exact Fi.out
    | with_reducible refine fine_forIn_array _ _ _ fun _ _ => ?_
    | with_reducible refine fine_forIn_range _ _ _ fun _ _ => ?_
    | with_reducible refine fine_mapM_array _ (fun _ => ?_) _
    | with_reducible refine Fine.bind ?_ fun _ => ?_
    | with_reducible refine Fine.map ?_
    | with_reducible refine fine_ite ?_ ?_
    | split
    | dsimp only
instance (x : Value) (y : Nat) (c : BoundsCode) : Fi P (Instr.sliceBound x y c) := ⟨fine_sliceBound x y c⟩

theorem fine_sliceBounds (b : Bool) (l c : Nat) (lo hi mx : Option Value) : Fine P (Instr.sliceBounds b l c lo hi mx) := by
  unfold Instr.sliceBounds
  repeat' first
    | with_reducible exact Fine.pure _
    | exact Fi.out
    | with_reducible refine fine_forIn_array _ _ _ fun _ _ => ?_
    | with_reducible refine fine_forIn_range _ _ _ fun _ _ => ?_
    | with_reducible refine fine_mapM_array _ (fun _ => ?_) _
    | with_reducible refine Fine.bind ?_ fun _ => ?_
    | with_reducible refine Fine.map ?_
    | with_reducible refine fine_ite ?_ ?_
    | split
    | dsimp only
instance (b : Bool) (l c : Nat) (lo hi mx : Option Value) : Fi P (Instr.sliceBounds b l c lo hi mx) := ⟨fine_sliceBounds b l c lo hi mx⟩

theorem fine_slice (t : TypeId) (x : Value) (lo hi mx : Option Value) : Fine P (Instr.slice t x lo hi mx) := by
  unfold Instr.slice
  repeat' first
    | with_reducible exact Fine.pure _
    | exact Fi.out
    | with_reducible refine fine_forIn_array _ _ _ fun _ _ => ?_
    | with_reducible refine fine_forIn_range _ _ _ fun _ _ => ?_
    | with_reducible refine fine_mapM_array _ (fun _ => ?_) _
    | with_reducible refine Fine.bind ?_ fun _ => ?_
    | with_reducible refine Fine.map ?_
    | with_reducible refine fine_ite ?_ ?_
    | split
    | dsimp only
instance (t : TypeId) (x : Value) (lo hi mx : Option Value) : Fi P (Instr.slice t x lo hi mx) := ⟨fine_slice t x lo hi mx⟩

theorem fine_sliceAt (t : TypeId) (x : Value) (lo hi mx : Option Value) : Fine P (Instr.sliceAt t x lo hi mx) := by
  unfold Instr.sliceAt
  repeat' first
    | with_reducible exact Fine.pure _
    | exact Fi.out
    | with_reducible refine fine_forIn_array _ _ _ fun _ _ => ?_
    | with_reducible refine fine_forIn_range _ _ _ fun _ _ => ?_
    | with_reducible refine fine_mapM_array _ (fun _ => ?_) _
    | with_reducible refine Fine.bind ?_ fun _ => ?_
    | with_reducible refine Fine.map ?_
    | with_reducible refine fine_ite ?_ ?_
    | split
    | dsimp only
instance (t : TypeId) (x : Value) (lo hi mx : Option Value) : Fi P (Instr.sliceAt t x lo hi mx) := ⟨fine_sliceAt t x lo hi mx⟩

theorem fine_alloc (e : TypeId) (h : Bool) (o : Value) : Fine P (Instr.alloc e h o) := by
  unfold Instr.alloc
  repeat' first
    | with_reducible exact Fine.pure _
    | exact Fi.out
    | with_reducible refine fine_forIn_array _ _ _ fun _ _ => ?_
    | with_reducible refine fine_forIn_range _ _ _ fun _ _ => ?_
    | with_reducible refine fine_mapM_array _ (fun _ => ?_) _
    | with_reducible refine Fine.bind ?_ fun _ => ?_
    | with_reducible refine Fine.map ?_
    | with_reducible refine fine_ite ?_ ?_
    | split
    | dsimp only
instance (e : TypeId) (h : Bool) (o : Value) : Fi P (Instr.alloc e h o) := ⟨fine_alloc e h o⟩

theorem fine_box (e : TypeId) (o : Value) : Fine P (Instr.box e o) := by
  unfold Instr.box
  repeat' first
    | with_reducible exact Fine.pure _
    | exact Fi.out
    | with_reducible refine fine_forIn_array _ _ _ fun _ _ => ?_
    | with_reducible refine fine_forIn_range _ _ _ fun _ _ => ?_
    | with_reducible refine fine_mapM_array _ (fun _ => ?_) _
    | with_reducible refine Fine.bind ?_ fun _ => ?_
    | with_reducible refine Fine.map ?_
    | with_reducible refine fine_ite ?_ ?_
    | split
    | dsimp only
instance (e : TypeId) (o : Value) : Fi P (Instr.box e o) := ⟨fine_box e o⟩

theorem fine_build (t : TypeId) (p : Array (Nat × Value)) : Fine P (Instr.build t p) := by
  unfold Instr.build
  repeat' first
    | with_reducible exact Fine.pure _
    | exact Fi.out
    | with_reducible refine fine_forIn_array _ _ _ fun _ _ => ?_
    | with_reducible refine fine_forIn_range _ _ _ fun _ _ => ?_
    | with_reducible refine fine_mapM_array _ (fun _ => ?_) _
    | with_reducible refine Fine.bind ?_ fun _ => ?_
    | with_reducible refine Fine.map ?_
    | with_reducible refine fine_ite ?_ ?_
    | split
    | dsimp only
instance (t : TypeId) (p : Array (Nat × Value)) : Fi P (Instr.build t p) := ⟨fine_build t p⟩

theorem fine_buildSlice (t : TypeId) (n : Nat) (p : Array (Nat × Value)) : Fine P (Instr.buildSlice t n p) := by
  unfold Instr.buildSlice
  repeat' first
    | with_reducible exact Fine.pure _
    | exact Fi.out
    | with_reducible refine fine_forIn_array _ _ _ fun _ _ => ?_
    | with_reducible refine fine_forIn_range _ _ _ fun _ _ => ?_
    | with_reducible refine fine_mapM_array _ (fun _ => ?_) _
    | with_reducible refine Fine.bind ?_ fun _ => ?_
    | with_reducible refine Fine.map ?_
    | with_reducible refine fine_ite ?_ ?_
    | split
    | dsimp only
instance (t : TypeId) (n : Nat) (p : Array (Nat × Value)) : Fi P (Instr.buildSlice t n p) := ⟨fine_buildSlice t n p⟩

theorem fine_extract (v : Value) (n : Nat) : Fine P (Instr.extract v n) := by
  unfold Instr.extract
  repeat' first
    | with_reducible exact Fine.pure _
    | exact Fi.out
    | with_reducible refine fine_forIn_array _ _ _ fun _ _ => ?_
    | with_reducible refine fine_forIn_range _ _ _ fun _ _ => ?_
    | with_reducible refine fine_mapM_array _ (fun _ => ?_) _
    | with_reducible refine Fine.bind ?_ fun _ => ?_
    | with_reducible refine Fine.map ?_
    | with_reducible refine fine_ite ?_ ?_
    | split
    | dsimp only
instance (v : Value) (n : Nat) : Fi P (Instr.extract v n) := ⟨fine_extract v n⟩

theorem fine_field (t : TypeId) (v : Value) (n : Nat) : Fine P (Instr.field t v n) := by
  unfold Instr.field
  repeat' first
    | with_reducible exact Fine.pure _
    | exact Fi.out
    | with_reducible refine fine_forIn_array _ _ _ fun _ _ => ?_
    | with_reducible refine fine_forIn_range _ _ _ fun _ _ => ?_
    | with_reducible refine fine_mapM_array _ (fun _ => ?_) _
    | with_reducible refine Fine.bind ?_ fun _ => ?_
    | with_reducible refine Fine.map ?_
    | with_reducible refine fine_ite ?_ ?_
    | split
    | dsimp only
instance (t : TypeId) (v : Value) (n : Nat) : Fi P (Instr.field t v n) := ⟨fine_field t v n⟩

theorem fine_index (t : TypeId) (v i : Value) : Fine P (Instr.index t v i) := by
  unfold Instr.index
  repeat' first
    | with_reducible exact Fine.pure _
    | exact Fi.out
    | with_reducible refine fine_forIn_array _ _ _ fun _ _ => ?_
    | with_reducible refine fine_forIn_range _ _ _ fun _ _ => ?_
    | with_reducible refine fine_mapM_array _ (fun _ => ?_) _
    | with_reducible refine Fine.bind ?_ fun _ => ?_
    | with_reducible refine Fine.map ?_
    | with_reducible refine fine_ite ?_ ?_
    | split
    | dsimp only
instance (t : TypeId) (v i : Value) : Fi P (Instr.index t v i) := ⟨fine_index t v i⟩

theorem fine_makeChan (t : TypeId) (v : Value) : Fine P (Instr.makeChan t v) := by
  unfold Instr.makeChan
  repeat' first
    | with_reducible exact Fine.pure _
    | exact Fi.out
    | with_reducible refine fine_forIn_array _ _ _ fun _ _ => ?_
    | with_reducible refine fine_forIn_range _ _ _ fun _ _ => ?_
    | with_reducible refine fine_mapM_array _ (fun _ => ?_) _
    | with_reducible refine Fine.bind ?_ fun _ => ?_
    | with_reducible refine Fine.map ?_
    | with_reducible refine fine_ite ?_ ?_
    | split
    | dsimp only
instance (t : TypeId) (v : Value) : Fi P (Instr.makeChan t v) := ⟨fine_makeChan t v⟩

theorem fine_makeInterface (t : TypeId) (v : Value) : Fine P (Instr.makeInterface t v) := by
  unfold Instr.makeInterface
  repeat' first
    | with_reducible exact Fine.pure _
    | exact Fi.out
    | with_reducible refine fine_forIn_array _ _ _ fun _ _ => ?_
    | with_reducible refine fine_forIn_range _ _ _ fun _ _ => ?_
    | with_reducible refine fine_mapM_array _ (fun _ => ?_) _
    | with_reducible refine Fine.bind ?_ fun _ => ?_
    | with_reducible refine Fine.map ?_
    | with_reducible refine fine_ite ?_ ?_
    | split
    | dsimp only
instance (t : TypeId) (v : Value) : Fi P (Instr.makeInterface t v) := ⟨fine_makeInterface t v⟩

theorem fine_makeFunc (f : Fn) (a b : Array Value) : Fine P (Instr.makeFunc f a b) := by
  unfold Instr.makeFunc
  repeat' first
    | with_reducible exact Fine.pure _
    | exact Fi.out
    | with_reducible refine fine_forIn_array _ _ _ fun _ _ => ?_
    | with_reducible refine fine_forIn_range _ _ _ fun _ _ => ?_
    | with_reducible refine fine_mapM_array _ (fun _ => ?_) _
    | with_reducible refine Fine.bind ?_ fun _ => ?_
    | with_reducible refine Fine.map ?_
    | with_reducible refine fine_ite ?_ ?_
    | split
    | dsimp only
instance (f : Fn) (a b : Array Value) : Fi P (Instr.makeFunc f a b) := ⟨fine_makeFunc f a b⟩

theorem fine_makeSlice (t : TypeId) (l c : Value) : Fine P (Instr.makeSlice t l c) := by
  unfold Instr.makeSlice
  repeat' first
    | with_reducible exact Fine.pure _
    | exact Fi.out
    | with_reducible refine fine_forIn_array _ _ _ fun _ _ => ?_
    | with_reducible refine fine_forIn_range _ _ _ fun _ _ => ?_
    | with_reducible refine fine_mapM_array _ (fun _ => ?_) _
    | with_reducible refine Fine.bind ?_ fun _ => ?_
    | with_reducible refine Fine.map ?_
    | with_reducible refine fine_ite ?_ ?_
    | split
    | dsimp only
instance (t : TypeId) (l c : Value) : Fi P (Instr.makeSlice t l c) := ⟨fine_makeSlice t l c⟩

theorem fine_get (t : TypeId) (x : Place) : Fine P (Place.get t x) := by
  unfold Place.get
  repeat' first
    | with_reducible exact Fine.pure _
    | exact Fi.out
    | with_reducible refine fine_forIn_array _ _ _ fun _ _ => ?_
    | with_reducible refine fine_forIn_range _ _ _ fun _ _ => ?_
    | with_reducible refine fine_mapM_array _ (fun _ => ?_) _
    | with_reducible refine Fine.bind ?_ fun _ => ?_
    | with_reducible refine Fine.map ?_
    | with_reducible refine fine_ite ?_ ?_
    | split
    | dsimp only
instance (t : TypeId) (x : Place) : Fi P (Place.get t x) := ⟨fine_get t x⟩

theorem fine_follow : ∀ (l : List FieldStep) (t : TypeId) (x : Place), Fine P (follow l t x)
  | [], _, _ => Fine.pure _
  | s :: l, t, x => by
    have ih := fine_follow l
    unfold follow
    repeat' first
      | with_reducible exact Fine.pure _
      | exact Fi.out
      | apply ih
      | with_reducible refine fine_forIn_array _ _ _ fun _ _ => ?_
      | with_reducible refine fine_forIn_range _ _ _ fun _ _ => ?_
      | with_reducible refine fine_mapM_array _ (fun _ => ?_) _
      | with_reducible refine Fine.bind ?_ fun _ => ?_
      | with_reducible refine Fine.map ?_
      | with_reducible refine fine_ite ?_ ?_
      | split
      | dsimp only
instance (l : List FieldStep) (t : TypeId) (x : Place) : Fi P (follow l t x) := ⟨fine_follow l t x⟩

theorem fine_receiverAt (t : TypeId) (x : Place) (b : Bool) (o : Option String) : Fine P (receiverAt t x b o) := by
  unfold receiverAt
  repeat' first
    | with_reducible exact Fine.pure _
    | exact Fi.out
    | with_reducible refine fine_forIn_array _ _ _ fun _ _ => ?_
    | with_reducible refine fine_forIn_range _ _ _ fun _ _ => ?_
    | with_reducible refine fine_mapM_array _ (fun _ => ?_) _
    | with_reducible refine Fine.bind ?_ fun _ => ?_
    | with_reducible refine Fine.map ?_
    | with_reducible refine fine_ite ?_ ?_
    | split
    | dsimp only
instance (t : TypeId) (x : Place) (b : Bool) (o : Option String) : Fi P (receiverAt t x b o) := ⟨fine_receiverAt t x b o⟩

theorem fine_receiverVia (t : TypeId) (v : Value) (p : Array FieldStep) (b : Bool) : Fine P (receiverVia t v p b) := by
  unfold receiverVia
  repeat' first
    | with_reducible exact Fine.pure _
    | exact Fi.out
    | with_reducible refine fine_forIn_array _ _ _ fun _ _ => ?_
    | with_reducible refine fine_forIn_range _ _ _ fun _ _ => ?_
    | with_reducible refine fine_mapM_array _ (fun _ => ?_) _
    | with_reducible refine Fine.bind ?_ fun _ => ?_
    | with_reducible refine Fine.map ?_
    | with_reducible refine fine_ite ?_ ?_
    | split
    | dsimp only
instance (t : TypeId) (v : Value) (p : Array FieldStep) (b : Bool) : Fi P (receiverVia t v p b) := ⟨fine_receiverVia t v p b⟩

theorem fine_method : ∀ (d : Nat) (t : TypeId) (v : Value) (n : String), Fine P (method d t v n)
  | 0, _, _, _ => trivial
  | d + 1, _, _, _ => by
    have ih := fine_method d
    unfold method
    repeat' first
      | with_reducible exact Fine.pure _
      | exact Fi.out
      | apply ih
      | with_reducible refine fine_forIn_array _ _ _ fun _ _ => ?_
      | with_reducible refine fine_forIn_range _ _ _ fun _ _ => ?_
      | with_reducible refine fine_mapM_array _ (fun _ => ?_) _
      | with_reducible refine Fine.bind ?_ fun _ => ?_
      | with_reducible refine Fine.map ?_
      | with_reducible refine fine_ite ?_ ?_
      | split
      | dsimp only
instance (d : Nat) (t : TypeId) (v : Value) (n : String) : Fi P (method d t v n) := ⟨fine_method d t v n⟩

theorem fine_followBlind : ∀ (l : List FieldStep) (t : TypeId) (x : Option Value), Fine P (followBlind l t x)
  | [], _, _ => Fine.pure _
  | s :: l, t, x => by
    have ih := fine_followBlind l
    unfold followBlind
    repeat' first
      | with_reducible exact Fine.pure _
      | exact Fi.out
      | apply ih
      | with_reducible refine fine_forIn_array _ _ _ fun _ _ => ?_
      | with_reducible refine fine_forIn_range _ _ _ fun _ _ => ?_
      | with_reducible refine fine_mapM_array _ (fun _ => ?_) _
      | with_reducible refine Fine.bind ?_ fun _ => ?_
      | with_reducible refine Fine.map ?_
      | with_reducible refine fine_ite ?_ ?_
      | split
      | dsimp only
instance (l : List FieldStep) (t : TypeId) (x : Option Value) : Fi P (followBlind l t x) := ⟨fine_followBlind l t x⟩

theorem fine_nilAhead : ∀ (d : Nat) (t : TypeId) (v : Value) (n : String), Fine P (nilAhead d t v n)
  | 0, _, _, _ => trivial
  | d + 1, _, _, _ => by
    have ih := fine_nilAhead d
    unfold nilAhead
    repeat' first
      | with_reducible exact Fine.pure _
      | exact Fi.out
      | apply ih
      | with_reducible refine fine_forIn_array _ _ _ fun _ _ => ?_
      | with_reducible refine fine_forIn_range _ _ _ fun _ _ => ?_
      | with_reducible refine fine_mapM_array _ (fun _ => ?_) _
      | with_reducible refine Fine.bind ?_ fun _ => ?_
      | with_reducible refine Fine.map ?_
      | with_reducible refine fine_ite ?_ ?_
      | split
      | dsimp only
instance (d : Nat) (t : TypeId) (v : Value) (n : String) : Fi P (nilAhead d t v n) := ⟨fine_nilAhead d t v n⟩

theorem fine_ofValue (f : Value) (a : Array Value) : Fine P (Deferred.ofValue f a) := by
  unfold Deferred.ofValue
  repeat' first
    | with_reducible exact Fine.pure _
    | exact Fi.out
    | with_reducible refine fine_forIn_array _ _ _ fun _ _ => ?_
    | with_reducible refine fine_forIn_range _ _ _ fun _ _ => ?_
    | with_reducible refine fine_mapM_array _ (fun _ => ?_) _
    | with_reducible refine Fine.bind ?_ fun _ => ?_
    | with_reducible refine Fine.map ?_
    | with_reducible refine fine_ite ?_ ?_
    | split
    | dsimp only
instance (f : Value) (a : Array Value) : Fi P (Deferred.ofValue f a) := ⟨fine_ofValue f a⟩

theorem fine_resolve (ρ : Operand → Value) (c : Call) (t : TypeId) : Fine P (resolve ρ c t) := by
  unfold resolve
  repeat' first
    | with_reducible exact Fine.pure _
    | exact Fi.out
    | with_reducible refine fine_forIn_array _ _ _ fun _ _ => ?_
    | with_reducible refine fine_forIn_range _ _ _ fun _ _ => ?_
    | with_reducible refine fine_mapM_array _ (fun _ => ?_) _
    | with_reducible refine Fine.bind ?_ fun _ => ?_
    | with_reducible refine Fine.map ?_
    | with_reducible refine fine_ite ?_ ?_
    | split
    | dsimp only
instance (ρ : Operand → Value) (c : Call) (t : TypeId) : Fi P (resolve ρ c t) := ⟨fine_resolve ρ c t⟩

end Go.Fi
