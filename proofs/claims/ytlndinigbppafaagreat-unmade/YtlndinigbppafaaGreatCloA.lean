/-
  The walks of the calls on an auditor that is none: nil, or one that the caller made; and of the law Unmade.
-/
import Derived.Test.YtlndinigbppafaaGreatClo
import Derived.Deep.RegionHeld3
namespace Go.Proofs.YtlndinigbppafaaGreat
open Go.RowKit

/-- An auditor that is none. -/
def NoneA (w : World) (v : Value) : Prop := v = .pointer none ∨ ∃ B, v = .pointer (some ⟨B, 0, none⟩) ∧ w.heap[B]? = some (.cells #[.pointer none, .int .i64 0, .slice none 0 0, .slice none 0 0, .slice none 0 0] 47 (0, 0))
theorem NoneA.below {w w' : World} {v : Value} (h : NoneA w v) (hb : Below w.heap.size w w') : NoneA w' v := by
  rcases h with h | ⟨B, h, h1⟩
  · exact .inl h
  · exact .inr ⟨B, h, by rw [hb.block B (lt_of_heap h1)]; exact h1⟩

theorem nil_ptrA (d : Nat) (w : World) (a : Addr) : (Op.equalIn (d + 1) 38 (.pointer none) (.pointer (some a))).run Tryz.prog w = .ok false w := by
  simp [Op.equalIn, run_underlying Tryz.underlying38]
theorem neq_nilA (w : World) (a : Addr) : (binOp .neq 38 (.pointer none) (.pointer (some a))).run Tryz.prog w = .ok (.bool true) w := by
  have h : (Op.equal 38 (.pointer none) (.pointer (some a))).run Tryz.prog w = .ok false w := nil_ptrA 9999 w a
  simp only [binOp]
  simp [h]

set_option maxRecDepth 100000 in
set_option maxHeartbeats 400000 in
theorem closedA_none (w : World) (v : Value) (h : NoneA w v) :
    Calls Tryz.prog 58 #[v] w fun e w' => e = .returned (.bool true) ∧ w' = w := by
  rcases h with rfl | ⟨B, rfl, h1⟩
  · go_enter Tryz.func58, Tryz.ntmps58
    go_wp2
    go_ret
    exact ⟨rfl, rfl⟩
  · have hm : w.cell? ⟨B, 0, none⟩ = some (.pointer none) := by rw [cell_of_row _ _ _ _ _ _ h1]; rfl
    have hne := neq_nilA w ⟨B, 0, none⟩
    go_enter Tryz.func58, Tryz.ntmps58
    go_wp2
    go_ret
    exact ⟨rfl, rfl⟩

set_option maxRecDepth 100000 in
set_option maxHeartbeats 400000 in
theorem takeA_none (w : World) (v m : Value) (h : NoneA w v) :
    Calls Tryz.prog 24 #[v, m] w fun e w' => e = .returned (.int .i64 10) ∧ w' = w := by
  go_enter Tryz.func24, Tryz.ntmps24
  go_wp2_with (first | (go_at_call 58; refine (closedA_none _ _ h).mono ?_; rintro e w' ⟨rfl, rfl⟩))
  go_ret
  exact ⟨rfl, rfl⟩

set_option maxRecDepth 100000 in
set_option maxHeartbeats 400000 in
theorem versionsA_none (w : World) (v : Value) (h : NoneA w v) :
    Calls Tryz.prog 34 #[v] w fun e w' => e = .returned (.slice none 0 0) ∧ w' = w := by
  go_enter Tryz.func34, Tryz.ntmps34
  go_wp2_with (first | (go_at_call 58; refine (closedA_none _ _ h).mono ?_; rintro e w' ⟨rfl, rfl⟩))
  go_ret
  exact ⟨rfl, rfl⟩

set_option maxRecDepth 100000 in
set_option maxHeartbeats 400000 in
theorem eventsA_none (w : World) (v : Value) (h : NoneA w v) :
    Calls Tryz.prog 29 #[v] w fun e w' => e = .returned (.slice none 0 0) ∧ w' = w := by
  go_enter Tryz.func29, Tryz.ntmps29
  go_wp2_with (first | (go_at_call 58; refine (closedA_none _ _ h).mono ?_; rintro e w' ⟨rfl, rfl⟩))
  go_ret
  exact ⟨rfl, rfl⟩

set_option maxRecDepth 100000 in
set_option maxHeartbeats 400000 in
theorem collisionA_none (w : World) (v : Value) (h : NoneA w v) :
    Calls Tryz.prog 30 #[v] w fun e w' => e = .returned (.tuple #[.slice none 0 0, .slice none 0 0, .bool false]) ∧ w' = w := by
  go_enter Tryz.func30, Tryz.ntmps30
  go_wp2_with (first | (go_at_call 58; refine (closedA_none _ _ h).mono ?_; rintro e w' ⟨rfl, rfl⟩))
  go_returns
  exact ⟨rfl, rfl⟩

set_option maxRecDepth 100000 in
set_option maxHeartbeats 1000000 in
theorem numA_any (x : Int) (w : World) :
    Calls Tryz.prog 36 #[.int .i64 x] w fun e w' => e = .returned (.int .i64 x) ∧ w' = w := by
  go_enter Tryz.func36, Tryz.ntmps36
  go_wp2
  go_ret
  exact ⟨rfl, rfl⟩

set_option maxRecDepth 100000 in
set_option maxHeartbeats 1000000 in
theorem noAuditor_any (w : World) (v : Value) (h : NoneA w v) :
    Calls Tryz.prog 16 #[v] w fun e w' => e = .returned (.bool true) ∧ Below w.heap.size w w' := by
  go_enter Tryz.func16, Tryz.ntmps16
  go_wp2_with fail
  have hbA : Below w.heap.size w (w.alloc (.cells #[.int .u8 1, .int .u8 0, .int .u8 1, .int .u8 3, .int .u8 115] 5)) := (Below.refl _ _).alloc (Nat.le_refl _) _
  have h1 := h.below hbA
  generalize w.alloc (.cells #[.int .u8 1, .int .u8 0, .int .u8 1, .int .u8 3, .int .u8 115] 5) = w1 at hbA h1 ⊢
  refine (takeA_none _ _ _ h1).mono ?_
  rintro e w2 ⟨rfl, rfl⟩
  go_wp2_with fail
  refine (collisionA_none _ _ h1).mono ?_
  rintro e w3 ⟨rfl, rfl⟩
  go_wp2_with (first
    | (go_at_call 36; refine (numA_any _ _).mono ?_; rintro e w4 ⟨rfl, rfl⟩)
    | (go_at_call 34; refine (versionsA_none _ _ h1).mono ?_; rintro e w4 ⟨rfl, rfl⟩)
    | (go_at_call 29; refine (eventsA_none _ _ h1).mono ?_; rintro e w4 ⟨rfl, rfl⟩))
  go_ret
  exact ⟨rfl, hbA⟩
end Go.Proofs.YtlndinigbppafaaGreat
