/-
  The walks of the program's tree: the nodes and their digests.
-/
import Derived.Test.YtpdjdaipijjeeaaTreeB
import Derived.Handy
namespace Go.Proofs.Ytpdjdaipijjeeaa
open Go.RowKit

set_option maxRecDepth 100000 in
set_option maxHeartbeats 400000 in
theorem leafDigest_any (a b x : Value) (g : Int) (w : World) :
    Calls Try.prog 128 #[.agg #[a, b, .int .i64 g, x]] w fun e w' => e = .returned (.int .i64 g) ∧ w' = w.alloc (.cells #[a, b, .int .i64 g, x] 136) := by
  go_enter Try.func128, Try.ntmps128
  go_wp2
  go_ret
  exact ⟨rfl, rfl⟩
set_option maxRecDepth 100000 in
set_option maxHeartbeats 400000 in
theorem aloneDigest_any (a b x : Value) (g : Int) (w : World) :
    Calls Try.prog 131 #[.agg #[a, b, .int .i64 g, x]] w fun e w' => e = .returned (.int .i64 g) ∧ w' = w.alloc (.cells #[a, b, .int .i64 g, x] 140) := by
  go_enter Try.func131, Try.ntmps131
  go_wp2
  go_ret
  exact ⟨rfl, rfl⟩
set_option maxRecDepth 100000 in
set_option maxHeartbeats 400000 in
theorem twoDigest_any (a b x y : Value) (g : Int) (w : World) :
    Calls Try.prog 135 #[.agg #[a, b, .int .i64 g, x, y]] w fun e w' => e = .returned (.int .i64 g) ∧ w' = w.alloc (.cells #[a, b, .int .i64 g, x, y] 143) := by
  go_enter Try.func135, Try.ntmps135
  go_wp2
  go_ret
  exact ⟨rfl, rfl⟩

/-- A node's value, whatever kind it is, with its digest g. -/
inductive NodeV (g : Int) : Value → Prop
  | leaf (a b x : Value) : NodeV g (.iface 136 (.agg #[a, b, .int .i64 g, x]))
  | alone (a b x : Value) : NodeV g (.iface 140 (.agg #[a, b, .int .i64 g, x]))
  | two (a b x y : Value) : NodeV g (.iface 143 (.agg #[a, b, .int .i64 g, x, y]))

set_option maxRecDepth 100000 in
set_option maxHeartbeats 400000 in
theorem newLeaf_any (P D : Int) (s : ByteArray) (w : World) (hs : s.size ≤ 1000000) :
    Calls Try.prog 89 #[.agg #[.int .i64 P, .int .i64 D], .string s] w fun e w' => e = .returned (.agg #[.int .i64 P, .int .i64 D, .int .i64 (sm (0 :: s.data.toList)), .string s]) ∧ Below w.heap.size w w' := by
  have hcv := fun u s => @run_bytes_of_string Try.prog u 9 24 5 s Try.underlying9 Try.underlying24 Try.underlying5
  have e0 : s.data.toList.length = s.size := by rw [Array.length_toList]; rfl
  have HS : Hid (sm (0 :: s.data.toList) = sm [[b8 0], s.data.toList].flatten) := by
    show sm (0 :: s.data.toList) = _
    simp [b8]
  go_enter Try.func89, Try.ntmps89
  go_wp2_with fail
  refine (sumOf_any [[b8 0], s.data.toList] _ _ ((rows2 _ _ _ _ _ _ (by simp) ((byte_at 0 _ _ (by decide) (by decide) (by simp)).keep (keepA _ _)) (made_at _ _ _ _ _ _ (by simp) rfl)).keep (keepD _) (keepD _)) (by simp) (by intro l hl; simp at hl; rcases hl with rfl | rfl <;> simp; omega)).mono ?_
  rintro e w' ⟨rfl, rfl⟩
  rw [← HS.out]
  go_wp2
  exact bodyPost_ret (v := .agg #[.int .i64 P, .int .i64 D, .int .i64 (sm (0 :: s.data.toList)), .string s]) (by simp [results, Try.results89, go_sem]) rfl ⟨rfl, by repeat (first | exact Below.refl _ _ | refine Below.drew ?_ | refine Below.alloc ?_ (by first | omega | (simp; omega) | simp) _)⟩

/-- The digest of a child, through the interface. -/
theorem digest_call {g : Int} {V : Value} (h : NodeV g V) : (∃ a b x, V = .iface 136 (.agg #[a, b, .int .i64 g, x])) ∨ (∃ a b x, V = .iface 140 (.agg #[a, b, .int .i64 g, x])) ∨ (∃ a b x y, V = .iface 143 (.agg #[a, b, .int .i64 g, x, y])) := by
  cases h with
  | leaf a b x => exact .inl ⟨a, b, x, rfl⟩
  | alone a b x => exact .inr (.inl ⟨a, b, x, rfl⟩)
  | two a b x y => exact .inr (.inr ⟨a, b, x, y, rfl⟩)

set_option maxRecDepth 100000 in
set_option maxHeartbeats 400000 in
theorem newAlone_any (P D g : Int) (V : Value) (w : World) (hV : NodeV g V) (hg : 0 ≤ g ∧ g ≤ 65535) :
    Calls Try.prog 92 #[.agg #[.int .i64 P, .int .i64 D], V] w fun e w' => e = .returned (.agg #[.int .i64 P, .int .i64 D, .int .i64 (sm (2 :: two8 g)), V]) ∧ Below w.heap.size w w' := by
  have HS : Hid (sm (2 :: two8 g) = sm [[b8 2], two8 g].flatten) := by
    show sm (2 :: two8 g) = _
    simp [b8]
  obtain ⟨hg0, hg1⟩ := hg
  rcases digest_call hV with ⟨a, b, x, rfl⟩ | ⟨a, b, x, rfl⟩ | ⟨a, b, x, y, rfl⟩
  · go_enter Try.func92, Try.ntmps92
    go_wp2_with (first | (go_at_call 128; refine (leafDigest_any _ _ _ _ _).mono ?_; rintro e w' ⟨rfl, rfl⟩) | (go_at_call 87; refine (wireTwo_any _ _ (by assumption) (by assumption)).mono ?_; rintro e w' ⟨rfl, rfl⟩))
    refine (sumOf_any [[b8 2], two8 g] _ _ (rows2 _ _ _ _ _ _ (by simp) (((byte_at 2 _ _ (by decide) (by decide) (by simp)).keep (keepA _ _)).keep (keepA _ _)) (two8_at _ _ _ hg0 hg1 (by simp))) (by simp) (by intro l hl; simp at hl; rcases hl with rfl | rfl <;> simp [two8])).mono ?_
    rintro e w' ⟨rfl, rfl⟩
    rw [← HS.out]
    go_wp2
    refine bodyPost_ret (v := .agg #[.int .i64 P, .int .i64 D, .int .i64 (sm (2 :: two8 g)), .iface 136 (.agg #[a, b, .int .i64 g, x])]) (by simp [results, Try.results92, go_sem]) rfl ⟨rfl, ?_⟩
    go_grown
  · go_enter Try.func92, Try.ntmps92
    go_wp2_with (first | (go_at_call 131; refine (aloneDigest_any _ _ _ _ _).mono ?_; rintro e w' ⟨rfl, rfl⟩) | (go_at_call 87; refine (wireTwo_any _ _ (by assumption) (by assumption)).mono ?_; rintro e w' ⟨rfl, rfl⟩))
    refine (sumOf_any [[b8 2], two8 g] _ _ (rows2 _ _ _ _ _ _ (by simp) (((byte_at 2 _ _ (by decide) (by decide) (by simp)).keep (keepA _ _)).keep (keepA _ _)) (two8_at _ _ _ hg0 hg1 (by simp))) (by simp) (by intro l hl; simp at hl; rcases hl with rfl | rfl <;> simp [two8])).mono ?_
    rintro e w' ⟨rfl, rfl⟩
    rw [← HS.out]
    go_wp2
    refine bodyPost_ret (v := .agg #[.int .i64 P, .int .i64 D, .int .i64 (sm (2 :: two8 g)), .iface 140 (.agg #[a, b, .int .i64 g, x])]) (by simp [results, Try.results92, go_sem]) rfl ⟨rfl, ?_⟩
    go_grown
  · go_enter Try.func92, Try.ntmps92
    go_wp2_with (first | (go_at_call 135; refine (twoDigest_any _ _ _ _ _ _).mono ?_; rintro e w' ⟨rfl, rfl⟩) | (go_at_call 87; refine (wireTwo_any _ _ (by assumption) (by assumption)).mono ?_; rintro e w' ⟨rfl, rfl⟩))
    refine (sumOf_any [[b8 2], two8 g] _ _ (rows2 _ _ _ _ _ _ (by simp) (((byte_at 2 _ _ (by decide) (by decide) (by simp)).keep (keepA _ _)).keep (keepA _ _)) (two8_at _ _ _ hg0 hg1 (by simp))) (by simp) (by intro l hl; simp at hl; rcases hl with rfl | rfl <;> simp [two8])).mono ?_
    rintro e w' ⟨rfl, rfl⟩
    rw [← HS.out]
    go_wp2
    refine bodyPost_ret (v := .agg #[.int .i64 P, .int .i64 D, .int .i64 (sm (2 :: two8 g)), .iface 143 (.agg #[a, b, .int .i64 g, x, y])]) (by simp [results, Try.results92, go_sem]) rfl ⟨rfl, ?_⟩
    go_grown
end Go.Proofs.Ytpdjdaipijjeeaa
