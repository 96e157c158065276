/-
  The walks of the law Encodes.
-/
import Derived.Test.YtlndinigbppafaaEnK
import Derived.Test.YtlndinigbppafaaEnD
import Derived.Test.YtlndinigbppafaaDcB
namespace Go.Proofs.Ytlndinigbppafaa
open Go.RowKit

set_option maxRecDepth 100000 in
set_option maxHeartbeats 1000000 in
theorem steleEncode_any (k M N R : Int) (T : Value) (ns : List PN) (w : World) (hT : NodesG w T ns) :
    Calls Try.prog 27 #[.agg #[.int .i64 k, .int .i64 M, .int .i64 N, .int .i64 R, T]] w fun e w' => EncP k M N R ns w e w' := by
  obtain ⟨ao, cap, rfl, _⟩ := id hT
  go_enter Try.func27, Try.ntmps27
  go_wp2_with fail
  refine (encode_any k M N R _ ns _ (hT.keep (keepA _ _))).mono ?_
  rintro e w1 ⟨hb1, hout⟩
  have hA : Below w.heap.size w (w.alloc (.cells #[.int .i64 k, .int .i64 M, .int .i64 N, .int .i64 R, .slice ao ns.length cap] 42)) := (Below.refl _ _).alloc (Nat.le_refl _) _
  have hb := hA.trans (hb1.mono hA.size)
  rcases hout with ⟨hv, v', rfl, hO⟩ | ⟨hv, rfl⟩
  · go_wp2
    all_goals go_returns
    all_goals exact ⟨hb, .inl ⟨hv, _, rfl, owns_base hO (by simp)⟩⟩
  · go_wp2
    all_goals go_returns
    all_goals exact ⟨hb, .inr ⟨hv, rfl⟩⟩

theorem refEncode_any (k M N R : Int) (T : Value) (ns : List PN) (w : World) (hT : NodesG w T ns) :
    Calls Try.prog 41 #[.agg #[.int .i64 k, .int .i64 M, .int .i64 N, .int .i64 R, T]] w fun e w' => Below w.heap.size w w' ∧
      ((ValidM ⟨k, M, N, R, ns⟩ ∧ e = .returned (.tuple #[.string ⟨(encM k M N R ns).toArray⟩, .int .i64 0])) ∨ (¬ ValidM ⟨k, M, N, R, ns⟩ ∧ e = .returned (.tuple #[.string ⟨#[]⟩, .int .i64 1]))) := by
  cases hS : smallB k M N R ns with
  | true => exact refEnc_any k M N R T ns w hT hS
  | false =>
    refine (refEnc_big k M N R T ns w hT hS).mono fun e w' h => ⟨h.2, .inr ⟨fun hv => ?_, h.1⟩⟩
    have := valid_small hv
    simp only at this
    rw [hS] at this
    cases this

theorem conv_none (u : World) : (convert 24 9 (.slice none 0 0)).run Try.prog u = .ok (.string ⟨#[]⟩) u := by
  rw [run_convert_bytes_string _ _ _ 5 none 0 0 Try.underlying24 Try.underlying5 Try.underlying9]
  rfl

set_option maxRecDepth 100000 in
set_option maxHeartbeats 2000000 in
theorem encoded_any (k M N R : Int) (T : Value) (ns : List PN) (w : World) (hT : NodesG w T ns) :
    Calls Try.prog 18 #[.agg #[.int .i64 k, .int .i64 M, .int .i64 N, .int .i64 R, T]] w fun e w' => ∃ b, e = .returned (.tuple #[b, .bool true]) ∧ Below w.heap.size w w' := by
  obtain ⟨ao, cap, rfl, _⟩ := id hT
  go_enter Try.func18, Try.ntmps18
  go_wp2_with fail
  have hA : Below w.heap.size w (w.alloc (.cells #[.int .i64 k, .int .i64 M, .int .i64 N, .int .i64 R, .slice ao ns.length cap] 42)) := (Below.refl _ _).alloc (Nat.le_refl _) _
  have hX : (w.alloc (.cells #[.int .i64 k, .int .i64 M, .int .i64 N, .int .i64 R, .slice ao ns.length cap] 42)).heap[w.heap.size]? = some (.cells #[.int .i64 k, .int .i64 M, .int .i64 N, .int .i64 R, .slice ao ns.length cap] 42 (0, 0)) := heap_alloc_new _ _
  have hT1 := hT.keep (keepA w (.cells #[.int .i64 k, .int .i64 M, .int .i64 N, .int .i64 R, .slice ao ns.length cap] 42))
  generalize w.alloc (.cells #[.int .i64 k, .int .i64 M, .int .i64 N, .int .i64 R, .slice ao ns.length cap] 42) = u1 at hA hX hT1 ⊢
  refine (steleEncode_any k M N R _ ns _ hT1).mono ?_
  rintro e u2 ⟨hb2, hout⟩
  have hX2 := (hb2.block _ (lt_of_heap hX)).trans hX
  have hT2 := hT1.keep (KeepsT.of_below hb2 (Nat.le_refl _))
  have hB2 := hA.trans (hb2.mono hA.size)
  clear hA hX hT1 hb2 hT
  have c0 : u2.cell? ⟨w.heap.size, 0, none⟩ = some (.int .i64 k) := by rw [cell_of_row _ _ _ _ _ _ hX2]; rfl
  have c1 : u2.cell? ⟨w.heap.size, 1, none⟩ = some (.int .i64 M) := by rw [cell_of_row _ _ _ _ _ _ hX2]; rfl
  have c2 : u2.cell? ⟨w.heap.size, 2, none⟩ = some (.int .i64 N) := by rw [cell_of_row _ _ _ _ _ _ hX2]; rfl
  have c3 : u2.cell? ⟨w.heap.size, 3, none⟩ = some (.int .i64 R) := by rw [cell_of_row _ _ _ _ _ _ hX2]; rfl
  have c4 : u2.cell? ⟨w.heap.size, 4, none⟩ = some (.slice ao ns.length cap) := by rw [cell_of_row _ _ _ _ _ _ hX2]; rfl
  rcases hout with ⟨hv, v', rfl, hO⟩ | ⟨hv, rfl⟩
  · have HV : Hid _ := hv
    obtain ⟨ad, cp, rfl⟩ : ∃ ad cp, v' = .slice (some ad) (encM k M N R ns).length cp := by
      rcases hO.2 with ⟨rfl, h0⟩ | ⟨g', cap', cur', rfl, _⟩
      · have : 1 ≤ (encM k M N R ns).length := by unfold encM encH; simp
        omega
      · exact ⟨_, _, rfl⟩
    have hBy := BytesAt.of_owns hO
    clear hO hv
    go_wp2_with fail
    refine (refEncode_any k M N R _ ns _ hT2).mono ?_
    rintro e u3 ⟨hb3, hout⟩
    have hB3 := hB2.trans (hb3.mono hB2.size)
    have hBy3 := hBy.keep (KeepsT.of_below hb3 (Nat.le_refl _))
    have hcv := conv_slice u3 _ ad cp hBy3
    have hcv2 := conv_slice u3.drew _ ad cp (hBy3.keep (keepD _))
    clear c0 c1 c2 c3 c4
    rcases hout with ⟨_, rfl⟩ | ⟨hn, _⟩
    · go_wp2
      all_goals go_returns
      all_goals exact ⟨_, rfl, hB3⟩
    · exact absurd HV.out hn
  · have HV : Hid _ := hv
    go_wp2_with fail
    refine (refEncode_any k M N R _ ns _ hT2).mono ?_
    rintro e u3 ⟨hb3, hout⟩
    have hB3 := hB2.trans (hb3.mono hB2.size)
    clear c0 c1 c2 c3 c4
    rcases hout with ⟨hn, _⟩ | ⟨_, rfl⟩
    · exact absurd hn HV.out
    · have hcv := conv_none u3
      have hcv2 := conv_none u3.drew
      go_wp2
      all_goals go_returns
      all_goals exact ⟨_, rfl, hB3⟩
end Go.Proofs.Ytlndinigbppafaa

/-
  The law Encodes at any message: both Encodes give the same bytes and the same error.
-/
namespace Go.Proofs.Ytlndinigbppafaa
open Go.RowKit

set_option maxRecDepth 100000 in
set_option maxHeartbeats 2000000 in
theorem encodes_any (k M N R : Int) (T : Value) (ns : List PN) (w : World) (hT : NodesG w T ns) :
    Calls Try.prog 7 #[.agg #[.int .i64 k, .int .i64 M, .int .i64 N, .int .i64 R, T]] w fun e w' => e = .returned (.bool true) ∧ Below w.heap.size w w' := by
  obtain ⟨ao, cap, rfl, _⟩ := id hT
  go_enter Try.func7, Try.ntmps7
  go_wp2_with fail
  have hA : Below w.heap.size w (w.alloc (.cells #[.int .i64 k, .int .i64 M, .int .i64 N, .int .i64 R, .slice ao ns.length cap] 42)) := (Below.refl _ _).alloc (Nat.le_refl _) _
  refine (encoded_any k M N R _ ns _ (hT.keep (keepA _ _))).mono ?_
  rintro e w1 ⟨b, rfl, hb1⟩
  have hb := hA.trans (hb1.mono hA.size)
  go_wp2
  all_goals go_returns
  all_goals exact ⟨rfl, hb⟩
end Go.Proofs.Ytlndinigbppafaa
