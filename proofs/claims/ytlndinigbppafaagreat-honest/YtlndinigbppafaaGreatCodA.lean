/-
  The walks of the program's reader: the fields ahead of a tree.
-/
import Derived.Test.YtlndinigbppafaaGreatSumW
import Derived.Test.YtlndinigbppafaaGreatRd
import Derived.Handy
import Derived.BigQuiet
import Derived.OneCell
namespace Go.Proofs.YtlndinigbppafaaGreat
open Go.RowKit

theorem or_bytes (x y : UInt8) : bits BinOp.or IntKind.i64 (wrap64 (wrap64 (x.toNat : Int) * 256)) (wrap64 (y.toNat : Int)) = num2 x y := by
  have hx := x.toNat_lt
  have hy := y.toNat_lt
  have e1 : wrap64 (wrap64 (x.toNat : Int) * 256) = ((x.toNat * 256 : Nat) : Int) := by go_arith
  have e2 : wrap64 (y.toNat : Int) = (y.toNat : Int) := by go_arith
  have h1 : (BitVec.ofInt 64 ((x.toNat * 256 : Nat) : Int)).toNat = x.toNat * 256 := by
    rw [BitVec.ofInt_natCast, BitVec.toNat_ofNat]; exact Nat.mod_eq_of_lt (by omega)
  have h2 : (BitVec.ofInt 64 (y.toNat : Int)).toNat = y.toNat := by
    rw [BitVec.ofInt_natCast, BitVec.toNat_ofNat]; exact Nat.mod_eq_of_lt (by omega)
  have h3 : x.toNat * 256 ||| y.toNat = x.toNat * 256 + y.toNat := by
    have := Nat.shiftLeft_add_eq_or_of_lt (b := y.toNat) (i := 8) hy x.toNat
    rw [Nat.shiftLeft_eq] at this
    exact this.symm
  rw [e1, e2]
  show IntKind.i64.wrap ((BitVec.ofInt 64 ((x.toNat * 256 : Nat) : Int) ||| BitVec.ofInt 64 (y.toNat : Int)).toNat : Int) = _
  rw [BitVec.toNat_or, h1, h2, h3, num2]
  go_arith

set_option maxRecDepth 100000 in
set_option maxHeartbeats 400000 in
theorem number2_any (v : Value) (l : List UInt8) (w : World) (hv : BytesAt w v l) (h2 : 2 ≤ l.length) :
    Calls Tryz.prog 170 #[v] w fun e w' => e = .returned (.int .i64 (num2 l[0] l[1])) ∧ Below w.heap.size w w' := by
  obtain ⟨ao, cap, rfl, _, hc⟩ := hv.cells
  obtain ⟨b, o, rfl, hcell⟩ := hc (by omega)
  have c0 := hcell 0 (by omega)
  rw [Nat.add_zero] at c0
  have c1 := hcell 1 (by omega)
  have hb0 := World.block_lt_of_cell? w _ c0
  go_enter Tryz.func170, Tryz.ntmps170
  go_wp2
  go_quiet (fail)
  go_wp2
  go_ret
  exact ⟨ret_int (or_bytes _ _), below_drewN (Below.refl _ _) _⟩

/-- Bytes from a place on. -/
theorem BytesAt.from {w : World} {ao : Option Addr} {n cap : Nat} {l : List UInt8} (h : BytesAt w (.slice ao n cap) l) (a m c : Nat) (hm : a + m ≤ l.length) (hl : 0 < l.length) :
    ∃ b o, ao = some ⟨b, o, none⟩ ∧ BytesAt w (.slice (some ⟨b, o + a, none⟩) m c) ((l.drop a).take m) := by
  obtain ⟨ao', cap', e, _, hh⟩ := h
  simp only [Value.slice.injEq] at e
  obtain ⟨rfl, rfl, rfl⟩ := e
  obtain ⟨b, o, cur, fr, rfl, hlt, hc⟩ := hh hl
  refine ⟨b, o, rfl, _, _, by rw [List.length_take, List.length_drop]; congr 1; omega, fun h => (by cases h), fun _ => ⟨b, o + a, cur, fr, rfl, hlt, fun j hj => ?_⟩⟩
  rw [List.length_take, List.length_drop] at hj
  rw [Nat.add_assoc, hc (a + j) (by omega)]
  congr 3
  simp

set_option maxRecDepth 100000 in
set_option maxHeartbeats 400000 in
theorem numberAt_zero (v : Value) (w : World) :
    Calls Tryz.prog 153 #[v, .int .i64 0] w fun e w' => e = .returned (.int .i64 0) ∧ w' = w := by
  go_enter Tryz.func153, Tryz.ntmps153
  go_wp2
  go_ret
  exact ⟨rfl, rfl⟩

/-- Bytes in a slice whose room is known. -/
def BytesC (w : World) (v : Value) (l : List UInt8) : Prop := BytesAt w v l ∧ ∃ ao cap, v = .slice ao l.length cap ∧ l.length ≤ cap ∧ cap ≤ maxLen
theorem BytesC.below {w w' : World} {v : Value} {l : List UInt8} (h : BytesC w v l) (hb : Below w.heap.size w w') : BytesC w' v l := ⟨h.1.keep (KeepsT.of_below hb (Nat.le_refl _)), h.2⟩
theorem BytesC.cells {w : World} {v : Value} {l : List UInt8} (h : BytesC w v l) (h0 : 0 < l.length) : ∃ b o cap, v = .slice (some ⟨b, o, none⟩) l.length cap ∧ l.length ≤ cap ∧ cap ≤ maxLen ∧ b < w.heap.size ∧ BytesAt w (.slice (some ⟨b, o, none⟩) l.length cap) l ∧ ∀ j (h : j < l.length), w.cell? ⟨b, o + j, none⟩ = some (.int .u8 l[j].toNat) := by
  obtain ⟨h1, ao, cap, rfl, hl, hm⟩ := h
  obtain ⟨ao', cap', e, _, hc⟩ := h1.cells
  simp only [Value.slice.injEq] at e
  obtain ⟨rfl, _, rfl⟩ := e
  obtain ⟨b, o, rfl, hcell⟩ := hc h0
  exact ⟨b, o, cap, rfl, hl, hm, World.block_lt_of_cell? w _ (hcell 0 h0), h1, hcell⟩

set_option maxRecDepth 100000 in
set_option maxHeartbeats 400000 in
theorem numberAt_any (v : Value) (l : List UInt8) (a : Nat) (w : World) (hv : BytesC w v l) (h1 : 1 ≤ a) (h2 : a + 2 ≤ l.length) (hl : l.length ≤ 4000) :
    Calls Tryz.prog 153 #[v, .int .i64 a] w fun e w' => e = .returned (.int .i64 (num2 l[a] l[a + 1])) ∧ Below w.heap.size w w' := by
  obtain ⟨b, o, cap, rfl, hlc, hcm, hbw, hB, hcell⟩ := hv.cells (by omega)
  obtain ⟨b', o', e, hB2⟩ := hB.from a (l.length - a) (cap - a) (by omega) (by omega)
  cases e
  have hg : ((l.drop a).take (l.length - a)).length = l.length - a := by simp
  have e0 : ((l.drop a).take (l.length - a))[0]'(by omega) = l[a] := by simp
  have e1 : ((l.drop a).take (l.length - a))[1]'(by omega) = l[a + 1] := by simp
  clear hcell hv hB
  go_enter Tryz.func153, Tryz.ntmps153
  go_wp2_with fail
  refine (number2_any _ _ _ hB2 (by omega)).mono ?_
  rintro e w1 ⟨rfl, hb1⟩
  rw [e0, e1]
  go_wp2
  go_ret
  exact ⟨rfl, hb1⟩

set_option maxRecDepth 100000 in
set_option maxHeartbeats 400000 in
theorem layout_1 (w : World) :
    Calls Tryz.prog 152 #[.int .i64 1] w fun e w' => e = .returned (.tuple #[.agg #[.int .i64 0, .int .i64 1, .int .i64 3, .int .i64 5], .bool true]) ∧ Below w.heap.size w w' := by
  go_enter Tryz.func152, Tryz.ntmps152
  go_wp2
  go_returns
  exact ⟨rfl, by go_grown⟩
set_option maxRecDepth 100000 in
set_option maxHeartbeats 400000 in
theorem layout_2 (w : World) :
    Calls Tryz.prog 152 #[.int .i64 2] w fun e w' => e = .returned (.tuple #[.agg #[.int .i64 1, .int .i64 3, .int .i64 5, .int .i64 7], .bool true]) ∧ Below w.heap.size w w' := by
  go_enter Tryz.func152, Tryz.ntmps152
  go_wp2
  go_returns
  exact ⟨rfl, by go_grown⟩
set_option maxRecDepth 100000 in
set_option maxHeartbeats 400000 in
theorem layout_3 (w : World) :
    Calls Tryz.prog 152 #[.int .i64 3] w fun e w' => e = .returned (.tuple #[.agg #[.int .i64 1, .int .i64 3, .int .i64 0, .int .i64 5], .bool true]) ∧ Below w.heap.size w w' := by
  go_enter Tryz.func152, Tryz.ntmps152
  go_wp2
  go_returns
  exact ⟨rfl, by go_grown⟩
set_option maxRecDepth 100000 in
set_option maxHeartbeats 400000 in
theorem layout_no (k : Int) (w : World) (h : k < 1 ∨ 3 < k) :
    Calls Tryz.prog 152 #[.int .i64 k] w fun e w' => e = .returned (.tuple #[.agg #[.int .i64 0, .int .i64 0, .int .i64 0, .int .i64 0], .bool false]) ∧ Below w.heap.size w w' := by
  have h1 : (k == 1) = false := beq_eq_false_iff_ne.2 (by omega)
  have h2 : (k == 2) = false := beq_eq_false_iff_ne.2 (by omega)
  have h3 : (k == 3) = false := beq_eq_false_iff_ne.2 (by omega)
  go_enter Tryz.func152, Tryz.ntmps152
  go_wp2
  go_returns
  exact ⟨rfl, by go_grown⟩

set_option maxRecDepth 100000 in
set_option maxHeartbeats 400000 in
theorem chk_n (k M N R a b c d : Int) (T : Value) (w : World) (h : N < 1 ∨ 500 < N) :
    Calls Tryz.prog 154 #[.agg #[.int .i64 k, .int .i64 M, .int .i64 N, .int .i64 R, T], .agg #[.int .i64 a, .int .i64 b, .int .i64 c, .int .i64 d]] w fun e w' => e = .returned (.agg #[.int .i64 1, .int .i64 b]) ∧ Below w.heap.size w w' := by
  rcases h with h | h
  all_goals go_enter Tryz.func154, Tryz.ntmps154
  all_goals go_wp2
  all_goals go_returns
  all_goals exact ⟨rfl, by go_grown⟩
set_option maxRecDepth 100000 in
set_option maxHeartbeats 400000 in
theorem chk_1 (M N R a b c d : Int) (T : Value) (w : World) (h1 : 1 ≤ N) (h2 : N ≤ 500) :
    Calls Tryz.prog 154 #[.agg #[.int .i64 1, .int .i64 M, .int .i64 N, .int .i64 R, T], .agg #[.int .i64 a, .int .i64 b, .int .i64 c, .int .i64 d]] w fun e w' => e = .returned (.agg #[.int .i64 0, .int .i64 0]) ∧ Below w.heap.size w w' := by
  go_enter Tryz.func154, Tryz.ntmps154
  go_wp2
  all_goals go_returns
  all_goals exact ⟨rfl, by go_grown⟩
set_option maxRecDepth 100000 in
set_option maxHeartbeats 400000 in
theorem chk_2 (M N R a b c d : Int) (T : Value) (w : World) (h1 : 1 ≤ N) (h2 : N ≤ 500) (h3 : 1 ≤ M) (h4 : M ≤ N) :
    Calls Tryz.prog 154 #[.agg #[.int .i64 2, .int .i64 M, .int .i64 N, .int .i64 R, T], .agg #[.int .i64 a, .int .i64 b, .int .i64 c, .int .i64 d]] w fun e w' => e = .returned (.agg #[.int .i64 0, .int .i64 0]) ∧ Below w.heap.size w w' := by
  go_enter Tryz.func154, Tryz.ntmps154
  go_wp2
  all_goals go_returns
  all_goals exact ⟨rfl, by go_grown⟩
set_option maxRecDepth 100000 in
set_option maxHeartbeats 400000 in
theorem chk_2a (M N R a b c d : Int) (T : Value) (w : World) (h1 : 1 ≤ N) (h2 : N ≤ 500) (h3 : M < 1) :
    Calls Tryz.prog 154 #[.agg #[.int .i64 2, .int .i64 M, .int .i64 N, .int .i64 R, T], .agg #[.int .i64 a, .int .i64 b, .int .i64 c, .int .i64 d]] w fun e w' => e = .returned (.agg #[.int .i64 1, .int .i64 a]) ∧ Below w.heap.size w w' := by
  go_enter Tryz.func154, Tryz.ntmps154
  go_wp2
  all_goals go_returns
  all_goals exact ⟨rfl, by go_grown⟩
set_option maxRecDepth 100000 in
set_option maxHeartbeats 400000 in
theorem chk_2b (M N R a b c d : Int) (T : Value) (w : World) (h1 : 1 ≤ N) (h2 : N ≤ 500) (h3 : 1 ≤ M) (h4 : N < M) :
    Calls Tryz.prog 154 #[.agg #[.int .i64 2, .int .i64 M, .int .i64 N, .int .i64 R, T], .agg #[.int .i64 a, .int .i64 b, .int .i64 c, .int .i64 d]] w fun e w' => e = .returned (.agg #[.int .i64 1, .int .i64 a]) ∧ Below w.heap.size w w' := by
  go_enter Tryz.func154, Tryz.ntmps154
  go_wp2
  all_goals go_returns
  all_goals exact ⟨rfl, by go_grown⟩
set_option maxRecDepth 100000 in
set_option maxHeartbeats 400000 in
theorem chk_3 (M N R a b c d : Int) (T : Value) (w : World) (h1 : 1 ≤ N) (h2 : N ≤ 500) (h4 : M < N) :
    Calls Tryz.prog 154 #[.agg #[.int .i64 3, .int .i64 M, .int .i64 N, .int .i64 R, T], .agg #[.int .i64 a, .int .i64 b, .int .i64 c, .int .i64 d]] w fun e w' => e = .returned (.agg #[.int .i64 0, .int .i64 0]) ∧ Below w.heap.size w w' := by
  go_enter Tryz.func154, Tryz.ntmps154
  go_wp2
  all_goals go_returns
  all_goals exact ⟨rfl, by go_grown⟩
set_option maxRecDepth 100000 in
set_option maxHeartbeats 400000 in
theorem chk_3a (M N R a b c d : Int) (T : Value) (w : World) (h1 : 1 ≤ N) (h2 : N ≤ 500) (h4 : N ≤ M) :
    Calls Tryz.prog 154 #[.agg #[.int .i64 3, .int .i64 M, .int .i64 N, .int .i64 R, T], .agg #[.int .i64 a, .int .i64 b, .int .i64 c, .int .i64 d]] w fun e w' => e = .returned (.agg #[.int .i64 1, .int .i64 a]) ∧ Below w.heap.size w w' := by
  go_enter Tryz.func154, Tryz.ntmps154
  go_wp2
  all_goals go_returns
  all_goals exact ⟨rfl, by go_grown⟩
end Go.Proofs.YtlndinigbppafaaGreat
