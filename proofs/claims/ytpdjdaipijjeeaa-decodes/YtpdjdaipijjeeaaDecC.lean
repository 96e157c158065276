/-
  Reading a message by its kind, as plain mathematics.
-/
import Derived.Test.YtpdjdaipijjeeaaDecB
namespace Go.Proofs.Ytpdjdaipijjeeaa

/-- What is left of reading behind the fields: the tree, and the end. -/
def decT (l : List UInt8) (k M N R : Int) (a : Nat) : Except (Int × Nat) Msg :=
  match rdNode l k M N (dep N.toNat) 0 a with
  | .error e => .error e
  | .ok (t, a') => if a' < l.length then .error (6, a') else .ok ⟨k, M, N, R, t⟩
def dec1G (l : List UInt8) (N R : Int) : Except (Int × Nat) Msg :=
  if N < 1 ∨ 500 < N then .error (1, 1) else if 5 < l.length then .error (6, 5) else .ok ⟨1, 0, N, R, []⟩
def dec2G (l : List UInt8) (M N R : Int) : Except (Int × Nat) Msg :=
  if N < 1 ∨ 500 < N then .error (1, 3) else if M < 1 ∨ N < M then .error (1, 1) else decT l 2 M N R 7
def dec3G (l : List UInt8) (M N : Int) : Except (Int × Nat) Msg :=
  if N < 1 ∨ 500 < N then .error (1, 3) else if N ≤ M then .error (1, 1) else decT l 3 M N 0 5

theorem decS_long (l : List UInt8) (h : 4000 < l.length) : decS l = .error (2, 0) := by
  unfold decS rdHead; rw [if_pos h]
theorem decS_nil (l : List UInt8) (h : l.length = 0) : decS l = .error (5, 0) := by
  rw [List.eq_nil_of_length_eq_zero h]; rfl
theorem decS_kind (l : List UInt8) (h : 0 < l.length) (hl : l.length ≤ 4000) (hk : (l[0].toNat : Int) < 1 ∨ (3 : Int) < (l[0].toNat : Int)) : decS l = .error (4, 0) := by
  unfold decS rdHead
  rw [if_neg (by omega), List.getElem?_eq_getElem h]
  simp only
  rw [if_pos hk]

theorem decS_1s (l : List UInt8) (h : 0 < l.length) (hk : (l[0].toNat : Int) = 1) (h5 : l.length < 5) : decS l = .error (5, l.length) := by
  unfold decS rdHead
  rw [if_neg (by omega), List.getElem?_eq_getElem h]
  simp only
  rw [if_neg (by omega), if_pos hk, List.getElem?_eq_none (show l.length ≤ 4 by omega)]
  cases l[1]? <;> cases l[2]? <;> cases l[3]? <;> rfl
theorem decS_2s (l : List UInt8) (h : 0 < l.length) (hk : (l[0].toNat : Int) = 2) (h5 : l.length < 7) : decS l = .error (5, l.length) := by
  unfold decS rdHead
  rw [if_neg (by omega), List.getElem?_eq_getElem h]
  simp only
  rw [if_neg (by omega), if_neg (by omega), if_pos hk, List.getElem?_eq_none (show l.length ≤ 6 by omega)]
  cases l[1]? <;> cases l[2]? <;> cases l[3]? <;> cases l[4]? <;> cases l[5]? <;> rfl
theorem decS_3s (l : List UInt8) (h : 0 < l.length) (hk : (l[0].toNat : Int) = 3) (h5 : l.length < 5) : decS l = .error (5, l.length) := by
  unfold decS rdHead
  rw [if_neg (by omega), List.getElem?_eq_getElem h]
  simp only
  rw [if_neg (by omega), if_neg (by omega), if_neg (by omega), List.getElem?_eq_none (show l.length ≤ 4 by omega)]
  cases l[1]? <;> cases l[2]? <;> cases l[3]? <;> rfl
theorem decS_1 (l : List UInt8) (h5 : 5 ≤ l.length) (hl : l.length ≤ 4000) (hk : (l[0].toNat : Int) = 1) : decS l = dec1G l (num2 l[1] l[2]) (num2 l[3] l[4]) := by
  unfold decS rdHead dec1G
  rw [if_neg (by omega), List.getElem?_eq_getElem (show 0 < l.length by omega)]
  simp only
  rw [if_neg (by omega), if_pos hk, List.getElem?_eq_getElem (show 1 < l.length by omega), List.getElem?_eq_getElem (show 2 < l.length by omega), List.getElem?_eq_getElem (show 3 < l.length by omega), List.getElem?_eq_getElem (show 4 < l.length by omega)]
  simp only
  by_cases hN : num2 l[1] l[2] < 1 ∨ (500 : Int) < num2 l[1] l[2]
  · rw [if_pos hN, if_pos hN]
  · rw [if_neg hN, if_neg hN]
    simp only [if_pos]
theorem decS_2 (l : List UInt8) (h5 : 7 ≤ l.length) (hl : l.length ≤ 4000) (hk : (l[0].toNat : Int) = 2) : decS l = dec2G l (num2 l[1] l[2]) (num2 l[3] l[4]) (num2 l[5] l[6]) := by
  unfold decS rdHead dec2G decT
  rw [if_neg (by omega), List.getElem?_eq_getElem (show 0 < l.length by omega)]
  simp only
  rw [if_neg (by omega), if_neg (by omega), if_pos hk, List.getElem?_eq_getElem (show 1 < l.length by omega), List.getElem?_eq_getElem (show 2 < l.length by omega), List.getElem?_eq_getElem (show 3 < l.length by omega), List.getElem?_eq_getElem (show 4 < l.length by omega), List.getElem?_eq_getElem (show 5 < l.length by omega), List.getElem?_eq_getElem (show 6 < l.length by omega)]
  simp only
  by_cases hN : num2 l[3] l[4] < 1 ∨ (500 : Int) < num2 l[3] l[4]
  · rw [if_pos hN, if_pos hN]
  · rw [if_neg hN, if_neg hN]
    by_cases hM : num2 l[1] l[2] < 1 ∨ num2 l[3] l[4] < num2 l[1] l[2]
    · rw [if_pos hM, if_pos hM]
    · rw [if_neg hM, if_neg hM]
      simp only
      rw [if_neg (by omega)]
      generalize rdNode _ _ _ _ _ _ _ = r
      cases r <;> rfl
theorem decS_3 (l : List UInt8) (h5 : 5 ≤ l.length) (hl : l.length ≤ 4000) (hk : (l[0].toNat : Int) = 3) : decS l = dec3G l (num2 l[1] l[2]) (num2 l[3] l[4]) := by
  unfold decS rdHead dec3G decT
  rw [if_neg (by omega), List.getElem?_eq_getElem (show 0 < l.length by omega)]
  simp only
  rw [if_neg (by omega), if_neg (by omega), if_neg (by omega), List.getElem?_eq_getElem (show 1 < l.length by omega), List.getElem?_eq_getElem (show 2 < l.length by omega), List.getElem?_eq_getElem (show 3 < l.length by omega), List.getElem?_eq_getElem (show 4 < l.length by omega)]
  simp only
  by_cases hN : num2 l[3] l[4] < 1 ∨ (500 : Int) < num2 l[3] l[4]
  · rw [if_pos hN, if_pos hN]
  · rw [if_neg hN, if_neg hN]
    by_cases hM : num2 l[3] l[4] ≤ num2 l[1] l[2]
    · rw [if_pos hM, if_pos hM]
    · rw [if_neg hM, if_neg hM]
      simp only
      rw [if_neg (by omega)]
      generalize rdNode _ _ _ _ _ _ _ = r
      cases r <;> rfl
end Go.Proofs.Ytpdjdaipijjeeaa
