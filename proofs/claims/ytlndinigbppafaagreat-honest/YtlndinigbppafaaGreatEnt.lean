/-
  The walks of the program's order of events: cmp.Compare, strings.Compare, cmp.Or, compareEntries.
-/
import Derived.Test.YtlndinigbppafaaGreatWire
import Derived.Lib.Small
import Derived.Lib.Walk
import Derived.Lib.Bytealg
import Derived.Handy
import Derived.StillTailTactics
namespace Go.Proofs.YtlndinigbppafaaGreat
open Go.RowKit

set_option maxHeartbeats 1000000 in
theorem cmpInt_any (x y : Int) (w : World) :
    Calls Tryz.prog 181 #[.int .i64 x, .int .i64 y] w fun e w' => e = .returned (.int .i64 (Lib.compareInt x y)) ∧ w' = w := by
  go_enter Tryz.func181, Tryz.ntmps181
  go_wp2
  all_goals (go_ret; refine ⟨?_, rfl⟩; unfold Lib.compareInt; (repeat' split) <;> first | rfl | (exfalso; omega))

set_option maxHeartbeats 1000000 in
set_option maxRecDepth 100000 in
theorem cmpBytes_any (a b : ByteArray) (w : World) :
    Calls Tryz.prog 196 #[.string a, .string b] w fun e w' => e = .returned (.int .i64 (Lib.compareBytes a.data.toList b.data.toList)) ∧ w' = w := by
  go_enter Tryz.func196, Tryz.ntmps196
  go_wp2
  rw [run_callFunc_extern Tryz.func205 (by kernel_rfl) (by kernel_rfl) (by kernel_rfl) (e := Extern.BytealgCompare.compare) (by kernel_rfl), Lib.run_compareString]
  simp only [Result.andThen]
  rw [Oper.upon_value]
  go_wp2
  go_ret
  exact ⟨rfl, rfl⟩

set_option maxHeartbeats 1000000 in
theorem cmpStr_any (a b : ByteArray) (w : World) :
    Calls Tryz.prog 182 #[.string a, .string b] w fun e w' => e = .returned (.int .i64 (Lib.compareBytes a.data.toList b.data.toList)) ∧ w' = w := by
  go_enter Tryz.func182, Tryz.ntmps182
  go_wp2_with (go_at_call 196; refine (cmpBytes_any _ _ _).mono ?_; rintro e w' ⟨rfl, rfl⟩)
  go_ret
  exact ⟨rfl, rfl⟩

/-- The first that is not 0. -/
def orZ (a b : Int) : Int := if a = 0 then b else a

set_option maxHeartbeats 1000000 in
set_option maxRecDepth 100000 in
theorem or_any (a b : Int) (w : World) (X : Nat) (h : w.heap[X]? = some (.cells #[.int .i64 a, .int .i64 b] 3 (0, 0))) :
    Calls Tryz.prog 180 #[.slice (some ⟨X, 0, none⟩) 2 2] w fun e w' => e = .returned (.int .i64 (orZ a b)) ∧ w' = w := by
  have c0 : w.cell? ⟨X, 0, none⟩ = some (.int .i64 a) := by rw [cell_of_row _ _ _ _ _ _ h]; rfl
  have c1 : w.cell? ⟨X, 1, none⟩ = some (.int .i64 b) := by rw [cell_of_row _ _ _ _ _ _ h]; rfl
  go_enter Tryz.func180, Tryz.ntmps180
  go_wp2
  go_loop [8] (fun i => ∃ k : Nat, k ≤ 2 ∧ i = .int .i64 k ∧ (1 ≤ k → a = 0) ∧ (2 ≤ k → b = 0)) (fun i => 2 - (intOf i).toNat)
  case atStart => exact ⟨0, by omega, rfl, by omega, by omega⟩
  case round =>
    obtain ⟨k, hk, rfl, h1, h2⟩ := hrel
    rcases (show k = 0 ∨ k = 1 ∨ k = 2 by omega) with rfl | rfl | rfl
    · by_cases ha : a = 0
      · have hb : (a != 0) = false := by simp [ha]
        have HA : Hid (a = 0) := ha
        clear ha h1 h2
        go_wp2
        go_round
        case rel => exact ⟨1, by omega, rfl, fun _ => HA.out, by omega⟩
        case measure => simp [intOf]
      · have hb : (a != 0) = true := by simp [ha]
        have HE : Hid (orZ a b = a) := if_neg ha
        clear h1 h2 ha
        go_wp2
        go_ret
        exact ⟨ret_int HE.out.symm, rfl⟩
    · have ha := h1 (by omega)
      have HE : Hid (orZ a b = b) := if_pos ha
      by_cases hz : b = 0
      · have hb : (b != 0) = false := by simp [hz]
        have HA : Hid (a = 0) := ha
        have HB : Hid (b = 0) := hz
        clear ha hz h1 h2
        go_wp2
        go_round
        case rel => exact ⟨2, by omega, rfl, fun _ => HA.out, fun _ => HB.out⟩
        case measure => simp [intOf]
      · have hb : (b != 0) = true := by simp [hz]
        clear ha hz h1 h2
        go_wp2
        go_ret
        exact ⟨ret_int HE.out.symm, rfl⟩
    · have HE : Hid (orZ a b = 0) := by show orZ a b = 0; rw [orZ, if_pos (h1 (by omega)), h2 (by omega)]
      clear h1 h2
      go_wp2
      go_ret
      exact ⟨ret_int HE.out.symm, rfl⟩

/-- The order of events. -/
def cmpE (x y : Int × ByteArray) : Int := orZ (Lib.compareInt x.1 y.1) (Lib.compareBytes x.2.data.toList y.2.data.toList)
/-- An event's value. -/
def entV (x : Int × ByteArray) : Value := .agg #[.int .i64 x.1, .string x.2]

set_option maxHeartbeats 1000000 in
set_option maxRecDepth 100000 in
theorem compareEntries_any (x y : Int × ByteArray) (w : World) :
    Calls Tryz.prog 160 #[entV x, entV y] w fun e w' => e = .returned (.int .i64 (cmpE x y)) ∧ Below w.heap.size w w' := by
  obtain ⟨i, s⟩ := x
  obtain ⟨j, t⟩ := y
  unfold entV cmpE
  go_enter Tryz.func160, Tryz.ntmps160
  go_wp2
  have hA : Below w.heap.size w ((w.alloc (.cells #[.int .i64 i, .string s] 82)).alloc (.cells #[.int .i64 j, .string t] 82)) := ((Below.refl _ _).alloc (Nat.le_refl _) _).alloc (by simp) _
  have c0 : ((w.alloc (.cells #[.int .i64 i, .string s] 82)).alloc (.cells #[.int .i64 j, .string t] 82)).cell? ⟨w.heap.size, 0, none⟩ = some (.int .i64 i) := by simp
  have c1 : ((w.alloc (.cells #[.int .i64 i, .string s] 82)).alloc (.cells #[.int .i64 j, .string t] 82)).cell? ⟨w.heap.size, 1, none⟩ = some (.string s) := by simp
  have d0 : ((w.alloc (.cells #[.int .i64 i, .string s] 82)).alloc (.cells #[.int .i64 j, .string t] 82)).cell? ⟨w.heap.size + 1, 0, none⟩ = some (.int .i64 j) := by rw [cell_of_row _ _ _ _ _ _ (heap_new _ _ _ (by simp))]; rfl
  have d1 : ((w.alloc (.cells #[.int .i64 i, .string s] 82)).alloc (.cells #[.int .i64 j, .string t] 82)).cell? ⟨w.heap.size + 1, 1, none⟩ = some (.string t) := by rw [cell_of_row _ _ _ _ _ _ (heap_new _ _ _ (by simp))]; rfl
  generalize (w.alloc (.cells #[.int .i64 i, .string s] 82)).alloc (.cells #[.int .i64 j, .string t] 82) = w1 at *
  go_still_tail 10, (by kernel_rfl)
  still_call (cmpInt_any i j _)
  repeat still_step
  still_call (cmpStr_any s t _)
  repeat still_step
  refine wpStill_nil ?_
  generalize hwd : (World.mk w1.heap w1.tape (w1.drawn + 1) w1.os w1.output) = wd
  have hbd : Below w1.heap.size w1 wd := by rw [← hwd]; exact (Below.refl _ _).drew
  have hb1 := below_step hA hbd
  clear hwd hbd hA c0 c1 d0 d1
  go_wp2_with fail
  refine (or_any _ _ _ wd.heap.size (heap_alloc_new wd _)).mono ?_
  rintro e _ ⟨rfl, rfl⟩
  go_wp2
  go_ret
  exact ⟨rfl, below_step hb1 ((Below.refl _ _).alloc (Nat.le_refl _) _)⟩
end Go.Proofs.YtlndinigbppafaaGreat
