/-
  The depth of a tree, the kind of a node, two bytes of a number: plain mathematics.
-/
import Derived.Test.YtpdjdaipijjeeaaMem
namespace Go.Proofs.Ytpdjdaipijjeeaa

/-- 2 to the power d. -/
def pw (d : Nat) : Nat := 2 ^ d
theorem pw_zero : pw 0 = 1 := rfl
theorem pw_succ (d : Nat) : pw (d + 1) = 2 * pw d := by unfold pw; rw [Nat.pow_succ]; omega
theorem pw_le {d e : Nat} (h : d ≤ e) : pw d ≤ pw e := Nat.pow_le_pow_right (by omega) h
theorem pw_lt {d e : Nat} (h : d < e) : pw d < pw e := Nat.pow_lt_pow_right (by omega) h
theorem pw_pos (d : Nat) : 0 < pw d := Nat.pow_pos (by omega)
theorem pw_half (d : Nat) (h : 0 < d) : pw d = 2 * pw (d - 1) := by
  obtain ⟨e, rfl⟩ : ∃ e, d = e + 1 := ⟨d - 1, by omega⟩
  rw [Nat.add_sub_cancel]; exact pw_succ e
theorem pw_9 : pw 9 = 512 := rfl
theorem pw_16 : pw 16 = 65536 := rfl
theorem pw_62 : pw 62 = 4611686018427387904 := by decide

/-- D(n). -/
def dep (n : Nat) : Nat := if n ≤ 1 then 0 else Nat.log2 (n - 1) + 1
theorem dep_spec (n : Nat) : n ≤ pw (dep n) := by
  unfold dep; split
  · simpa [pw] using ‹n ≤ 1›
  · have := @Nat.lt_log2_self (n - 1); unfold pw; omega
theorem dep_least (n e : Nat) (h : e < dep n) : pw e < n := by
  unfold dep at h; split at h
  · omega
  · have h1 : pw (Nat.log2 (n - 1)) ≤ n - 1 := Nat.log2_self_le (by omega)
    have h2 : pw e ≤ pw (Nat.log2 (n - 1)) := pw_le (by omega)
    omega
theorem dep_of (n d : Nat) (h1 : n ≤ pw d) (h2 : ∀ e, e < d → pw e < n) : dep n = d := by
  have a := dep_spec n
  rcases Nat.lt_trichotomy (dep n) d with h | h | h
  · have := h2 _ h; omega
  · exact h
  · have := dep_least n d h; omega
theorem dep_le (n d : Nat) (h : n ≤ pw d) : dep n ≤ d := by
  rcases Nat.lt_or_ge d (dep n) with h1 | h1
  · have := dep_least n d h1; omega
  · exact h1

/-- Which kind of node stands at p of depth d in a proof. -/
def kindOf (k M N : Int) (p d : Nat) : Int :=
  if (if k = 2 then ((p : Int) + pw d ≤ M ∨ M ≤ p) else (M < p ∨ (p : Int) + pw d ≤ M)) then 0 else if d = 0 then 1 else if (p : Int) + pw (d - 1) < N then 2 else 3

/-- Two bytes of a number. -/
def two8 (n : Int) : List UInt8 := [UInt8.ofNat (n / 256 % 256).toNat, UInt8.ofNat (n % 256).toNat]
theorem two8_length (n : Int) : (two8 n).length = 2 := rfl
end Go.Proofs.Ytpdjdaipijjeeaa
