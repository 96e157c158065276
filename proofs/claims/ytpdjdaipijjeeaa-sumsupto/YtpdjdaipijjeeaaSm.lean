/-
  The sum of a text, as plain mathematics: no program in it.
-/
import Derived.WalkKit
namespace Go.Proofs.Ytpdjdaipijjeeaa

/-- One byte more. -/
def smStep (v : Int) (b : UInt8) : Int := (v * 257 + b.toNat + 1) % 65521
def smFrom (v : Int) (l : List UInt8) : Int := l.foldl smStep v
/-- The document's sum. -/
def sm (l : List UInt8) : Int := smFrom 1 l

theorem smStep_bd (v : Int) (b : UInt8) : 0 ≤ smStep v b ∧ smStep v b ≤ 65520 := by unfold smStep; omega
theorem smFrom_snoc (v : Int) (l : List UInt8) (b : UInt8) : smFrom v (l ++ [b]) = smStep (smFrom v l) b := by simp [smFrom]
theorem smFrom_append (v : Int) (l r : List UInt8) : smFrom v (l ++ r) = smFrom (smFrom v l) r := by simp [smFrom]
theorem smFrom_bd (v : Int) (l : List UInt8) (h : 0 ≤ v ∧ v ≤ 65520) : 0 ≤ smFrom v l ∧ smFrom v l ≤ 65520 := by
  induction l generalizing v with
  | nil => exact h
  | cons b l ih => exact ih _ (smStep_bd v b)
theorem sm_bd (l : List UInt8) : 0 ≤ sm l ∧ sm l ≤ 65520 := smFrom_bd 1 l (by omega)
theorem sm_snoc (l : List UInt8) (b : UInt8) : sm (l ++ [b]) = smStep (sm l) b := smFrom_snoc 1 l b
theorem sm_append (l r : List UInt8) : sm (l ++ r) = smFrom (sm l) r := smFrom_append 1 l r
theorem sm_nil : sm [] = 1 := rfl

theorem take_snoc {α : Type} (l : List α) (k : Nat) (h : k < l.length) : l.take (k + 1) = l.take k ++ [l[k]] := List.take_succ_eq_append_getElem h
theorem bytes_snoc (s : ByteArray) (k : Nat) (h : k < s.size) : s.data.toList.take (k + 1) = s.data.toList.take k ++ [s[k]] := by
  rw [List.take_succ_eq_append_getElem (by simpa using h)]; rfl
theorem flatten_snoc {α : Type} (ls : List (List α)) (k : Nat) (h : k < ls.length) : (ls.take (k + 1)).flatten = (ls.take k).flatten ++ ls[k] := by
  rw [take_snoc ls k h, List.flatten_append]; simp only [List.flatten_cons, List.flatten_nil, List.append_nil]

theorem ret_int {k : IntKind} {a b : Int} (h : a = b) : Ending.returned (.int k a) = .returned (.int k b) := by rw [h]
end Go.Proofs.Ytpdjdaipijjeeaa
