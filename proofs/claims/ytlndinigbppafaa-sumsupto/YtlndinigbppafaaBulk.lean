/-
  What the bound of the '..Upto' statements gives: how long texts and lists are.
-/
import Derived.Test.YtlndinigbppafaaRows
import Derived.Test.YtlndinigbppafaaSm
import Derived.SliceStrings
namespace Go.Proofs.Ytlndinigbppafaa
open Go.RowKit Go.ChangeShapes

theorem bulk_one {H : Type} (d : DataW H) : 1 ≤ Rows.uptoBulk d := by
  cases d with
  | lit l => cases l <;> simp [Rows.uptoBulk]
  | _ => simp [Rows.uptoBulk]

theorem bulk_append {H : Type} (l r : List (DataW H)) : Rows.uptoBulkAll (l ++ r) = Rows.uptoBulkAll l + Rows.uptoBulkAll r := by
  induction l with
  | nil => simp [Rows.uptoBulkAll]
  | cons x l ih => simp only [List.cons_append, Rows.uptoBulkAll, ih]; omega

/-- Strings: all their bytes, and one for each. -/
theorem bulk_strs {H : Type} (ss : List ByteArray) : Rows.uptoBulkAll (strs (H := H) ss) = (cat ss).length + ss.length := by
  induction ss with
  | nil => rfl
  | cons s ss ih =>
    have e : strs (H := H) (s :: ss) = .lit (.string s.data.toList) :: strs ss := rfl
    have c : (cat (s :: ss)).length = s.data.toList.length + (cat ss).length := by unfold cat; rw [List.map_cons, List.flatten_cons, List.length_append]
    rw [e, c, List.length_cons]
    simp only [Rows.uptoBulkAll, Rows.uptoBulk, ih]
    omega

theorem cat_mem (ss : List ByteArray) (s : ByteArray) (h : s ∈ ss) : s.size ≤ (cat ss).length := by
  induction ss with
  | nil => cases h
  | cons x ss ih =>
    have c : (cat (x :: ss)).length = x.data.toList.length + (cat ss).length := by unfold cat; rw [List.map_cons, List.flatten_cons, List.length_append]
    have e : x.data.toList.length = x.size := by rw [Array.length_toList]; rfl
    rcases List.mem_cons.1 h with rfl | h
    · omega
    · have := ih h; omega

theorem small_of {H : Type} {l : List (DataW H)} (hk : Rows.uptoSmall H l = true) : Rows.uptoBulkAll l ≤ 1048576 := of_decide_eq_true hk
theorem bulk_slice {H : Type} (e s : List (DataW H)) : Rows.uptoBulk (.slice e s) = Rows.uptoBulkAll e + Rows.uptoBulkAll s + 1 := by simp only [Rows.uptoBulk]
end Go.Proofs.Ytlndinigbppafaa
