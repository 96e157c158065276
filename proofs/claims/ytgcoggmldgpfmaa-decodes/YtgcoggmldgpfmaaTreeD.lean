/-
  The walks of the program's tree: a node with two below it.
-/
import Derived.Test.YtgcoggmldgpfmaaTreeA
namespace Go.Proofs.Ytgcoggmldgpfmaa
open Go.RowKit

set_option maxRecDepth 100000 in
set_option maxHeartbeats 4000000 in
theorem newTwo_any (P D g h : Int) (V U : Value) (w : World) (hV : NodeV g V) (hU : NodeV h U) (hg : 0 ≤ g ∧ g ≤ 65535) (hh : 0 ≤ h ∧ h ≤ 65535) :
    Calls Try.prog 115 #[.agg #[.int .i64 P, .int .i64 D], V, U] w fun e w' => e = .returned (.agg #[.int .i64 P, .int .i64 D, .int .i64 (sm (1 :: (two8 g ++ two8 h))), V, U]) ∧ Below w.heap.size w w' := by
  have HS : Hid (sm (1 :: (two8 g ++ two8 h)) = sm [[b8 1], two8 g, two8 h].flatten) := by
    show sm (1 :: (two8 g ++ two8 h)) = _
    simp [b8]
  obtain ⟨hg0, hg1⟩ := hg
  obtain ⟨hh0, hh1⟩ := hh
  rcases digest_call hV with ⟨a, b, x, rfl⟩ | ⟨a, b, x, rfl⟩ | ⟨a, b, x, y, rfl⟩ <;> rcases digest_call hU with ⟨a', b', x', rfl⟩ | ⟨a', b', x', rfl⟩ | ⟨a', b', x', y', rfl⟩
  all_goals go_enter Try.func115, Try.ntmps115
  all_goals go_wp2_with (first
    | (go_at_call 165; refine (leafDigest_any _ _ _ _ _).mono ?_; rintro e w' ⟨rfl, rfl⟩)
    | (go_at_call 169; refine (aloneDigest_any _ _ _ _ _).mono ?_; rintro e w' ⟨rfl, rfl⟩)
    | (go_at_call 174; refine (twoDigest_any _ _ _ _ _ _).mono ?_; rintro e w' ⟨rfl, rfl⟩)
    | (go_at_call 109; refine (wireTwo_any _ _ (by assumption) (by assumption)).mono ?_; rintro e w' ⟨rfl, rfl⟩))
  all_goals refine (sumOf_any [[b8 1], two8 g, two8 h] _ _ (rows3 _ _ _ _ _ _ _ _ (by simp) (((((byte_at 1 _ _ (by decide) (by decide) (by simp)).keep (keepA _ _)).keep (keepA _ _)).keep (keepA _ _)).keep (keepA _ _)) (((two8_at _ _ _ hg0 hg1 (by simp)).keep (keepA _ _)).keep (keepA _ _)) (two8_at _ _ _ hh0 hh1 (by simp))) (by simp) (by intro l hl; simp at hl; rcases hl with rfl | rfl | rfl <;> simp [two8])).mono ?_
  all_goals rintro e w' ⟨rfl, rfl⟩
  all_goals rw [← HS.out]
  all_goals go_wp2
  all_goals refine bodyPost_ret (v := .agg #[.int .i64 P, .int .i64 D, .int .i64 (sm (1 :: (two8 g ++ two8 h))), _, _]) (by simp [results, Try.results115, go_sem] <;> rfl) rfl ⟨rfl, ?_⟩
  all_goals go_grown
end Go.Proofs.Ytgcoggmldgpfmaa
