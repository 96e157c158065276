/-
  The law Prefix: what is left of its frame behind Proofs is borne by the simulation; a list cut out of a kept one is kept as it is.
-/
import Derived.Test.YtlndinigbppafaaPxC
namespace Go.Proofs.Ytlndinigbppafaa
open Go.Sim Go.Conc Go.Fi

theorem codeOK8 : CodeOK Try.prog c8rest := codeB_ok infos (by kernel_rfl)

theorem cut50_id {s : ByteArray} (h : s.size ≤ 50) : cut50 s = s := by unfold cut50; rw [if_neg (by omega)]
theorem keptL_take (ps : List ByteArray) (m : Nat) (h : 1 ≤ m) : keptL ((keptL ps).take m) = (keptL ps).take m := by
  have hK1 := (keptL_len ps).1
  have hK2 := (keptL_len ps).2
  have hne : (keptL ps).take m ≠ [] := by
    intro e
    have := congrArg List.length e
    rw [List.length_take, List.length_nil] at this
    omega
  rw [show keptL ((keptL ps).take m) = (((keptL ps).take m).take 60).map cut50 by unfold keptL; rw [if_neg]; exact hne]
  rw [List.take_of_length_le (by rw [List.length_take]; omega)]
  have : ∀ l : List ByteArray, (∀ s ∈ l, s.size ≤ 50) → l.map cut50 = l := by
    intro l
    induction l with
    | nil => exact fun _ => rfl
    | cons a l ih => exact fun hl => by rw [List.map_cons, cut50_id (hl a (List.mem_cons_self ..)), ih fun s hs => hl s (List.mem_cons_of_mem _ hs)]
  exact this _ fun s hs => keptL_le ps s (List.mem_of_mem_take hs)
end Go.Proofs.Ytlndinigbppafaa
