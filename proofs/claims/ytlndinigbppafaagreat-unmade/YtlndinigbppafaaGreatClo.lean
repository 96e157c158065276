/-
  The walks of the calls on a log that is none: nil, or one that the caller made.
-/
import Derived.Test.YtlndinigbppafaaGreatSumW
import Derived.Handy
import Derived.LaidEql
namespace Go.Proofs.YtlndinigbppafaaGreat
open Go.RowKit

/-- A log that is none. -/
def NoneL (w : World) (v : Value) : Prop := v = .pointer none ∨ ∃ B, v = .pointer (some ⟨B, 0, none⟩) ∧ w.heap[B]? = some (.cells #[.pointer none, .slice none 0 0] 41 (0, 0))
theorem NoneL.below {w w' : World} {v : Value} (h : NoneL w v) (hb : Below w.heap.size w w') : NoneL w' v := by
  rcases h with h | ⟨B, h, h1⟩
  · exact .inl h
  · exact .inr ⟨B, h, by rw [hb.block B (lt_of_heap h1)]; exact h1⟩

theorem nil_ptr (d : Nat) (w : World) (a : Addr) : (Op.equalIn (d + 1) 37 (.pointer none) (.pointer (some a))).run Tryz.prog w = .ok false w := by
  simp [Op.equalIn, run_underlying Tryz.underlying37]
theorem neq_nil (w : World) (a : Addr) : (binOp .neq 37 (.pointer none) (.pointer (some a))).run Tryz.prog w = .ok (.bool true) w := by
  have h : (Op.equal 37 (.pointer none) (.pointer (some a))).run Tryz.prog w = .ok false w := nil_ptr 9999 w a
  simp only [binOp]
  simp [h]

set_option maxRecDepth 100000 in
set_option maxHeartbeats 400000 in
theorem closed_none (w : World) (v : Value) (h : NoneL w v) :
    Calls Tryz.prog 72 #[v] w fun e w' => e = .returned (.bool true) ∧ w' = w := by
  rcases h with rfl | ⟨B, rfl, h1⟩
  · go_enter Tryz.func72, Tryz.ntmps72
    go_wp2
    go_ret
    exact ⟨rfl, rfl⟩
  · have hm : w.cell? ⟨B, 0, none⟩ = some (.pointer none) := by rw [cell_of_row _ _ _ _ _ _ h1]; rfl
    have hne := neq_nil w ⟨B, 0, none⟩
    go_enter Tryz.func72, Tryz.ntmps72
    go_wp2
    go_ret
    exact ⟨rfl, rfl⟩

set_option maxRecDepth 100000 in
set_option maxHeartbeats 400000 in
theorem check_none (w : World) (v : Value) (h : NoneL w v) (n : Int) :
    Calls Tryz.prog 55 #[v, .int .i64 n] w fun e w' => e = .returned (.int .i64 10) ∧ w' = w := by
  have HC : ∀ u, NoneL u v → Calls Tryz.prog 72 #[v] u fun e w' => e = .returned (.bool true) ∧ w' = u := fun u hu => closed_none u v hu
  go_enter Tryz.func55, Tryz.ntmps55
  go_wp2_with (first | (go_at_call 72; refine (HC _ h).mono ?_; rintro e w' ⟨rfl, rfl⟩))
  go_ret
  exact ⟨rfl, rfl⟩

set_option maxRecDepth 100000 in
set_option maxHeartbeats 400000 in
theorem len_none (w : World) (v : Value) (h : NoneL w v) :
    Calls Tryz.prog 42 #[v] w fun e w' => e = .returned (.int .i64 0) ∧ w' = w := by
  have HC : ∀ u, NoneL u v → Calls Tryz.prog 72 #[v] u fun e w' => e = .returned (.bool true) ∧ w' = u := fun u hu => closed_none u v hu
  go_enter Tryz.func42, Tryz.ntmps42
  go_wp2_with (first | (go_at_call 72; refine (HC _ h).mono ?_; rintro e w' ⟨rfl, rfl⟩))
  go_ret
  exact ⟨rfl, rfl⟩

set_option maxRecDepth 100000 in
set_option maxHeartbeats 400000 in
theorem append_none (w : World) (v : Value) (h : NoneL w v) (s : ByteArray) :
    Calls Tryz.prog 40 #[v, .string s] w fun e w' => e = .returned (.tuple #[.int .i64 0, .int .i64 10]) ∧ w' = w := by
  have HC : ∀ u, NoneL u v → Calls Tryz.prog 72 #[v] u fun e w' => e = .returned (.bool true) ∧ w' = u := fun u hu => closed_none u v hu
  go_enter Tryz.func40, Tryz.ntmps40
  go_wp2_with (first | (go_at_call 72; refine (HC _ h).mono ?_; rintro e w' ⟨rfl, rfl⟩))
  go_ret2
  exact ⟨rfl, rfl⟩

set_option maxRecDepth 100000 in
set_option maxHeartbeats 400000 in
theorem root_none (w : World) (v : Value) (h : NoneL w v) (n : Int) :
    Calls Tryz.prog 33 #[v, .int .i64 n] w fun e w' => e = .returned (.tuple #[.int .i64 0, .int .i64 10]) ∧ w' = w := by
  go_enter Tryz.func33, Tryz.ntmps33
  go_wp2_with (first | (go_at_call 55; refine (check_none _ _ h _).mono ?_; rintro e w' ⟨rfl, rfl⟩))
  go_ret2
  exact ⟨rfl, rfl⟩

set_option maxRecDepth 100000 in
set_option maxHeartbeats 400000 in
theorem commit_none (w : World) (v : Value) (h : NoneL w v) (n : Int) :
    Calls Tryz.prog 23 #[v, .int .i64 n] w fun e w' => e = .returned (.tuple #[.slice none 0 0, .int .i64 10]) ∧ w' = w := by
  go_enter Tryz.func23, Tryz.ntmps23
  go_wp2_with (first | (go_at_call 55; refine (check_none _ _ h _).mono ?_; rintro e w' ⟨rfl, rfl⟩))
  go_ret2
  exact ⟨rfl, rfl⟩

set_option maxRecDepth 100000 in
set_option maxHeartbeats 400000 in
theorem member_none (w : World) (v : Value) (h : NoneL w v) (i n : Int) :
    Calls Tryz.prog 26 #[v, .int .i64 i, .int .i64 n] w fun e w' => e = .returned (.tuple #[.slice none 0 0, .int .i64 10]) ∧ w' = w := by
  go_enter Tryz.func26, Tryz.ntmps26
  go_wp2_with (first | (go_at_call 55; refine (check_none _ _ h _).mono ?_; rintro e w' ⟨rfl, rfl⟩))
  go_ret2
  exact ⟨rfl, rfl⟩

set_option maxRecDepth 100000 in
set_option maxHeartbeats 400000 in
theorem growth_none (w : World) (v : Value) (h : NoneL w v) (i n : Int) :
    Calls Tryz.prog 25 #[v, .int .i64 i, .int .i64 n] w fun e w' => e = .returned (.tuple #[.slice none 0 0, .int .i64 10]) ∧ w' = w := by
  go_enter Tryz.func25, Tryz.ntmps25
  go_wp2_with (first | (go_at_call 55; refine (check_none _ _ h _).mono ?_; rintro e w' ⟨rfl, rfl⟩))
  go_ret2
  exact ⟨rfl, rfl⟩

set_option maxRecDepth 100000 in
set_option maxHeartbeats 400000 in
theorem proofs_none (w : World) (v : Value) (h : NoneL w v) (n : Int) :
    Calls Tryz.prog 41 #[v, .int .i64 n] w fun e w' => e = .returned (.tuple #[.slice none 0 0, .int .i64 10]) ∧ w' = w := by
  go_enter Tryz.func41, Tryz.ntmps41
  go_wp2_with (first | (go_at_call 55; refine (check_none _ _ h _).mono ?_; rintro e w' ⟨rfl, rfl⟩))
  go_ret2
  exact ⟨rfl, rfl⟩

set_option maxRecDepth 100000 in
set_option maxHeartbeats 1000000 in
theorem noLog_any (w : World) (v : Value) (h : NoneL w v) :
    Calls Tryz.prog 15 #[v] w fun e w' => e = .returned (.bool true) ∧ w' = w := by
  go_enter Tryz.func15, Tryz.ntmps15
  go_wp2_with fail
  refine (append_none _ _ h _).mono ?_
  rintro e _ ⟨rfl, rfl⟩
  go_wp2_with fail
  refine (root_none _ _ h _).mono ?_
  rintro e _ ⟨rfl, rfl⟩
  go_wp2_with fail
  refine (commit_none _ _ h _).mono ?_
  rintro e _ ⟨rfl, rfl⟩
  go_wp2_with fail
  refine (member_none _ _ h _ _).mono ?_
  rintro e _ ⟨rfl, rfl⟩
  go_wp2_with fail
  refine (growth_none _ _ h _ _).mono ?_
  rintro e _ ⟨rfl, rfl⟩
  go_wp2_with fail
  refine (proofs_none _ _ h _).mono ?_
  rintro e _ ⟨rfl, rfl⟩
  go_wp2_with fail
  refine (len_none _ _ h).mono ?_
  rintro e _ ⟨rfl, rfl⟩
  go_wp2
  go_ret
  exact ⟨rfl, rfl⟩
end Go.Proofs.YtlndinigbppafaaGreat
