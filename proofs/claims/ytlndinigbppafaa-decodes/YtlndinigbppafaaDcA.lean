/-
  The walks of the document's Same, and of the law Decodes.
-/
import Derived.Test.YtlndinigbppafaaScanQ
import Derived.Test.YtlndinigbppafaaWire
namespace Go.Proofs.Ytlndinigbppafaa
open Go.RowKit

set_option maxRecDepth 100000 in
set_option maxHeartbeats 2000000 in
theorem same_eq (k M N R : Int) (T U : Value) (ns : List PN) (w : World) (hT : NodesG w T ns) (hU : NodesG w U ns) (hn : ns.length ≤ 1000000) :
    Calls Try.prog 40 #[.agg #[.int .i64 k, .int .i64 M, .int .i64 N, .int .i64 R, T], .agg #[.int .i64 k, .int .i64 M, .int .i64 N, .int .i64 R, U]] w fun e w' => e = .returned (.bool true) ∧ Below w.heap.size w w' := by
  obtain ⟨ao, cap, rfl, _, hc⟩ := hT.cells
  obtain ⟨ao', cap', rfl, _, hc'⟩ := hU.cells
  go_enter Try.func40, Try.ntmps40
  go_wp2
  go_loopw [5] (fun i wr => ∃ j : Nat, j ≤ ns.length ∧ i = .int .i64 j ∧ Below (w.heap.size + 1 + 1) ((w.alloc (.cells #[.int .i64 k, .int .i64 M, .int .i64 N, .int .i64 R, .slice ao ns.length cap] 42)).alloc (.cells #[.int .i64 k, .int .i64 M, .int .i64 N, .int .i64 R, .slice ao' ns.length cap'] 42)) wr) (fun i _ => ns.length - (intOf i).toNat)
  case atStart => exact ⟨0, Nat.zero_le _, rfl, Below.refl _ _⟩
  case round =>
    obtain ⟨j, hj, rfl, hb⟩ := hrel
    have hbw : Below w.heap.size w wr := (((Below.refl _ _).alloc (Nat.le_refl _) _).alloc (by simp) _).trans (hb.mono (by omega))
    have hbs : w.heap.size + 1 + 1 ≤ wr.heap.size := by have := hb.size; simpa using this
    have hbx : wr.cell? ⟨w.heap.size, 4, none⟩ = some (.slice ao ns.length cap) := (hb.cell (p := ⟨w.heap.size, 4, none⟩) (by simp; omega)).trans (by simp)
    have hby : wr.cell? ⟨w.heap.size + 1, 4, none⟩ = some (.slice ao' ns.length cap') := (hb.cell (p := ⟨w.heap.size + 1, 4, none⟩) (by simp)).trans (by rw [cell_of_row _ _ _ _ _ _ (heap_new _ _ _ (by simp))]; rfl)
    by_cases hlt : j < ns.length
    · obtain ⟨b, o, rfl, hbl, hcl⟩ := hc (by omega)
      obtain ⟨b', o', rfl, hbl', hcl'⟩ := hc' (by omega)
      obtain ⟨e0, e1, e2⟩ := hcl j hlt
      obtain ⟨g0, g1, g2⟩ := hcl' j hlt
      replace e0 := (hbw.cell (p := ⟨b, o + j * 3, none⟩) hbl).trans e0
      replace e1 := (hbw.cell (p := ⟨b, o + j * 3 + 1, none⟩) hbl).trans e1
      replace e2 := (hbw.cell (p := ⟨b, o + j * 3 + 2, none⟩) hbl).trans e2
      replace g0 := (hbw.cell (p := ⟨b', o' + j * 3, none⟩) hbl').trans g0
      replace g1 := (hbw.cell (p := ⟨b', o' + j * 3 + 1, none⟩) hbl').trans g1
      replace g2 := (hbw.cell (p := ⟨b', o' + j * 3 + 2, none⟩) hbl').trans g2
      generalize ns[j] = x at *
      clear hcl hcl' hc hc' hT hU
      go_wp2
      go_quiet (fail)
      go_wp2
      go_roundw
      case rel => exact ⟨j + 1, by omega, by go_num, below_drewN hb _⟩
      case measure => simp [intOf]; omega
    · have hjl : j = ns.length := by omega
      subst hjl
      go_wp2
      go_ret
      exact ⟨rfl, hbw⟩

set_option maxRecDepth 100000 in
set_option maxHeartbeats 2000000 in
theorem num_any (x : Int) (w : World) :
    Calls Try.prog 32 #[.int .i64 x] w fun e w' => e = .returned (.int .i64 x) ∧ w' = w := by
  go_enter Try.func32, Try.ntmps32
  go_wp2
  go_ret
  exact ⟨rfl, rfl⟩
end Go.Proofs.Ytlndinigbppafaa
