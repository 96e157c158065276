/-
  The walks of bits.Len and of the program's tree.Whole.
-/
import Derived.Test.YtpdjdaipijjeeaaTreeA
import Derived.Lib.Strings
import Derived.Lib.Slices
import Derived.Lib.Small
import Derived.Lib.Walk
import Derived.Lib.BitFns
namespace Go.Proofs.Ytpdjdaipijjeeaa
open Go.RowKit

theorem bitLen_log (x : Nat) (h : x < 2 ^ 64) : Lib.bitLen x = if x = 0 then 0 else Nat.log2 x + 1 := by
  induction x using Nat.strongRecOn with
  | ind x ih =>
    by_cases h0 : x = 0
    · subst h0; rfl
    · rw [if_neg h0, Lib.bitLen_half x h0 h, ih (x / 2) (by omega) (by omega), Nat.log2_def x]
      by_cases h2 : x ≥ 2
      · rw [if_pos h2, if_neg (by omega)]; omega
      · rw [if_neg h2, if_pos (by omega)]
theorem dep_bitLen (n : Nat) (h : 1 ≤ n) (h2 : n ≤ 65536) : Lib.bitLen (n - 1) = dep n := by
  rw [bitLen_log _ (by omega)]
  unfold dep
  by_cases h1 : n = 1
  · subst h1; rfl
  · rw [if_neg (by omega), if_neg (by omega)]

set_option maxRecDepth 100000 in
set_option maxHeartbeats 400000 in
theorem len64_any (x : Int) (w : World) (h0 : 0 ≤ x) (h1 : x ≤ 65535) :
    Calls Try.prog 103 #[.int .u64 x] w fun e w' => e = .returned (.int .i64 (Lib.bitLen x.toNat)) ∧ w' = w := by
  by_cases h8 : x ≤ 255
  · go_enter Try.func103, Try.ntmps103
    go_wp2
    go_ret
    refine ⟨congrArg Ending.returned (congrArg (Value.int IntKind.i64) ?_), rfl⟩
    rw [Lib.len8_of x h0 h8]
    have l := Lib.bitLen_le8' x h0 h8
    generalize Lib.bitLen x.toNat = L at *
    first | omega | (unfold wrap64; omega)
  · have g0 : 0 ≤ x / 256 := by omega
    have g1 : x / 256 ≤ 255 := by omega
    go_enter Try.func103, Try.ntmps103
    go_wp2
    go_ret
    refine ⟨congrArg Ending.returned (congrArg (Value.int IntKind.i64) ?_), rfl⟩
    rw [Lib.len8_of (x / 256) g0 g1]
    have l := Lib.bitLen_le8' (x / 256) g0 g1
    have s := Lib.bitLen_shift8 x.toNat (by omega) (by omega)
    have e : x.toNat / 256 = (x / 256).toNat := by omega
    rw [s, e]
    generalize Lib.bitLen (x / 256).toNat = L at *
    first | omega | (unfold wrap64; omega)

set_option maxRecDepth 100000 in
set_option maxHeartbeats 400000 in
theorem len_any (x : Int) (w : World) (h0 : 0 ≤ x) (h1 : x ≤ 65535) :
    Calls Try.prog 95 #[.int .u64 x] w fun e w' => e = .returned (.int .i64 (Lib.bitLen x.toNat)) ∧ w' = w := by
  go_enter Try.func95, Try.ntmps95
  go_wp2_with (go_at_call 103; refine (len64_any x _ h0 h1).mono ?_; rintro e w' ⟨rfl, rfl⟩)
  go_ret
  exact ⟨rfl, rfl⟩

set_option maxRecDepth 100000 in
set_option maxHeartbeats 400000 in
theorem whole_any (n : Nat) (w : World) (h1 : 1 ≤ n) (h2 : n ≤ 65536) :
    Calls Try.prog 77 #[.int .i64 n] w fun e w' => e = .returned (.agg #[.int .i64 0, .int .i64 (dep n)]) ∧ Below w.heap.size w w' := by
  have HD : Hid _ := dep_bitLen n h1 h2
  have e1 : ((n : Int) - 1).toNat = n - 1 := by omega
  go_enter Try.func77, Try.ntmps77
  go_wp2_with fail
  refine (len_any ((n : Int) - 1) _ (by omega) (by omega)).mono ?_
  rintro e w' ⟨rfl, rfl⟩
  rw [e1, HD.out]
  go_wp2
  exact bodyPost_ret (v := .agg #[.int .i64 0, .int .i64 (dep n)]) (by simp [results, Try.results77, go_sem]) rfl ⟨rfl, (Below.refl _ _).alloc (Nat.le_refl _) _⟩
end Go.Proofs.Ytpdjdaipijjeeaa
