/-
  The walks of the program's Decode: the head whole, and the message.
-/
import Derived.Test.YtpdjdaipijjeeaaCodF
namespace Go.Proofs.Ytpdjdaipijjeeaa
open Go.RowKit

theorem boxes_new (w w1 : World) (hb1 : Below ((w.alloc (.cells #[.int .i64 0, .int .i64 0, .int .i64 0, .int .i64 0, .slice none 0 0] 42)).alloc (.cells #[.int .i64 0, .int .i64 0] 110)).heap.size ((w.alloc (.cells #[.int .i64 0, .int .i64 0, .int .i64 0, .int .i64 0, .slice none 0 0] 42)).alloc (.cells #[.int .i64 0, .int .i64 0] 110)) w1) :
    MsgZ w1 w.heap.size ∧ w1.heap[w.heap.size + 1]? = some (.cells #[.int .i64 0, .int .i64 0] 110 (0, 0)) ∧ Below w.heap.size w w1 := by
  have h0 := hb1.size
  simp at h0
  refine ⟨MsgZ.below (heap_old _ _ _ _ (heap_new _ _ _ rfl)) hb1, ?_, (((Below.refl _ _).alloc (Nat.le_refl _) _).alloc (by simp) _).trans (hb1.mono (by simp; omega))⟩
  rw [hb1.block _ (by simp)]
  exact heap_new _ _ _ (by simp)

set_option maxRecDepth 100000 in
set_option maxHeartbeats 1000000 in
theorem head_bad (v : Value) (l : List UInt8) (w : World) (hv : BytesC w v l) (h1 : 1 ≤ l.length) (k : Int) (h0 : (l[0].toNat : Int) = k) (hk : k < 1 ∨ 3 < k) :
    Calls Try.prog 81 #[v] w fun e w' => e = .returned (.tuple #[msgW 0 0 0 0 (.slice none 0 0), .int .i64 0, .agg #[.int .i64 4, .int .i64 0]]) ∧ Below w.heap.size w w' := by
  unfold msgW
  obtain ⟨b0, o, cap, rfl, hlc, hcm, hbw, hB, hcell⟩ := hv.cells (by omega)
  have c0 := hcell 0 (by omega)
  rw [Nat.add_zero, h0] at c0
  have hk1 : wrap64 k = k := by have := l[0].toNat_lt; go_arith
  have HK : Hid _ := hk
  clear hcell hB hk
  go_enter Try.func81, Try.ntmps81
  go_wp2_with fail
  refine (layout_no k _ HK.out).mono ?_
  rintro e w1 ⟨rfl, hb1⟩
  obtain ⟨hZ, hX, hb⟩ := boxes_new w w1 hb1
  have hA : Below w1.heap.size w1 (w1.alloc (.cells #[.int .i64 0, .int .i64 0, .int .i64 0, .int .i64 0] 148)) := (Below.refl _ _).alloc (Nat.le_refl _) _
  have hbW : Below w.heap.size w (w1.alloc (.cells #[.int .i64 0, .int .i64 0, .int .i64 0, .int .i64 0] 148)) := hb.trans (hA.mono hb.size)
  obtain ⟨x0, x1, x2, x3, x4, r0, r1, r2, r3, r4, rB⟩ := MsgZ.cells (MsgZ.below hZ hA)
  have hX' : (w1.alloc (.cells #[.int .i64 0, .int .i64 0, .int .i64 0, .int .i64 0] 148)).heap[w.heap.size + 1]? = some (.cells #[.int .i64 0, .int .i64 0] 110 (0, 0)) := by rw [hA.block _ (lt_of_heap hX)]; exact hX
  obtain ⟨y0, y1, s0, s1⟩ := FaultZ.cells hX'
  clear hb1 hZ hX hA hb hX' hbw hlc hcm hv c0
  go_wp2
  all_goals refine bodyPost_ret (v := .tuple #[.agg #[.int .i64 0, .int .i64 0, .int .i64 0, .int .i64 0, .slice none 0 0], .int .i64 0, .agg #[.int .i64 4, .int .i64 0]]) (by simp [results, Try.results81, go_sem, x0, x1, x2, x3, x4, y0, y1]) rfl ?_
  all_goals exact ⟨rfl, by go_grown⟩

set_option maxRecDepth 100000 in
set_option maxHeartbeats 1000000 in
theorem head_short (v : Value) (l : List UInt8) (w : World) (hv : BytesC w v l) (h1 : 1 ≤ l.length) (k a b c d : Int) (h0 : (l[0].toNat : Int) = k) (hd : (l.length : Int) < d)
    (hlay : ∀ w : World, Calls Try.prog 96 #[.int .i64 k] w fun e w' => e = .returned (.tuple #[.agg #[.int .i64 a, .int .i64 b, .int .i64 c, .int .i64 d], .bool true]) ∧ Below w.heap.size w w') :
    Calls Try.prog 81 #[v] w fun e w' => e = .returned (.tuple #[msgW 0 0 0 0 (.slice none 0 0), .int .i64 0, .agg #[.int .i64 5, .int .i64 l.length]]) ∧ Below w.heap.size w w' := by
  unfold msgW
  have HL : Hid _ := hlay
  clear hlay
  obtain ⟨b0, o, cap, rfl, hlc, hcm, hbw, hB, hcell⟩ := hv.cells (by omega)
  have c0 := hcell 0 (by omega)
  rw [Nat.add_zero, h0] at c0
  have hk1 : wrap64 k = k := by have := l[0].toNat_lt; go_arith
  clear hcell hB
  go_enter Try.func81, Try.ntmps81
  go_wp2_with fail
  refine (HL.out _).mono ?_
  rintro e w1 ⟨rfl, hb1⟩
  obtain ⟨hZ, hX, hb⟩ := boxes_new w w1 hb1
  have hA : Below w1.heap.size w1 (w1.alloc (.cells #[.int .i64 a, .int .i64 b, .int .i64 c, .int .i64 d] 148)) := (Below.refl _ _).alloc (Nat.le_refl _) _
  have hbW : Below w.heap.size w (w1.alloc (.cells #[.int .i64 a, .int .i64 b, .int .i64 c, .int .i64 d] 148)) := hb.trans (hA.mono hb.size)
  obtain ⟨x0, x1, x2, x3, x4, r0, r1, r2, r3, r4, rB⟩ := MsgZ.cells (MsgZ.below hZ hA)
  have hX' : (w1.alloc (.cells #[.int .i64 a, .int .i64 b, .int .i64 c, .int .i64 d] 148)).heap[w.heap.size + 1]? = some (.cells #[.int .i64 0, .int .i64 0] 110 (0, 0)) := by rw [hA.block _ (lt_of_heap hX)]; exact hX
  obtain ⟨y0, y1, s0, s1⟩ := FaultZ.cells hX'
  clear hb1 hZ hX hA hb hX' hbw hlc hcm hv c0
  go_wp2
  all_goals refine bodyPost_ret (v := .tuple #[.agg #[.int .i64 0, .int .i64 0, .int .i64 0, .int .i64 0, .slice none 0 0], .int .i64 0, .agg #[.int .i64 5, .int .i64 l.length]]) (by simp [results, Try.results81, go_sem, x0, x1, x2, x3, x4, y0, y1]) rfl ?_
  all_goals exact ⟨rfl, by go_grown⟩
end Go.Proofs.Ytpdjdaipijjeeaa
