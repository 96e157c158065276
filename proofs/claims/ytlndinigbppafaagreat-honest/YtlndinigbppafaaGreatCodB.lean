/-
  The walk of the program's reader of the fields ahead of a tree.
-/
import Derived.Test.YtlndinigbppafaaGreatCodA
import Derived.Deep.RegionHeld3
import Derived.Test.YtlndinigbppafaaGreatWire
namespace Go.Proofs.YtlndinigbppafaaGreat
open Go.RowKit

/-- A message's value. -/
def msgW (k M N R : Int) (T : Value) : Value := .agg #[.int .i64 k, .int .i64 M, .int .i64 N, .int .i64 R, T]

set_option maxRecDepth 100000 in
set_option maxHeartbeats 400000 in
theorem head_nil (v : Value) (w : World) (hv : BytesC w v []) :
    Calls Tryz.prog 119 #[v] w fun e w' => e = .returned (.tuple #[msgW 0 0 0 0 (.slice none 0 0), .int .i64 0, .agg #[.int .i64 5, .int .i64 0]]) ∧ Below w.heap.size w w' := by
  unfold msgW
  obtain ⟨_, ao, cap, rfl, _, _⟩ := hv
  rw [List.length_nil]
  go_enter Tryz.func119, Tryz.ntmps119
  go_wp2
  all_goals go_returns
  all_goals exact ⟨rfl, by go_grown⟩

/-- A layout that lies at a block, and the bytes. -/
def LayAt (w : World) (L : Nat) (a b c d : Int) (v : Value) (l : List UInt8) : Prop :=
  w.cell? ⟨L, 0, none⟩ = some (.int .i64 a) ∧ w.cell? ⟨L, 1, none⟩ = some (.int .i64 b) ∧ w.cell? ⟨L, 2, none⟩ = some (.int .i64 c) ∧ w.cell? ⟨L, 3, none⟩ = some (.int .i64 d) ∧ BytesC w v l
theorem LayAt.below {w w' : World} {L : Nat} {a b c d : Int} {v : Value} {l : List UInt8} (h : LayAt w L a b c d v l) (hb : Below w.heap.size w w') : LayAt w' L a b c d v l :=
  ⟨cell_keep h.1 hb, cell_keep h.2.1 hb, cell_keep h.2.2.1 hb, cell_keep h.2.2.2.1 hb, h.2.2.2.2.below hb⟩

/-- The number at a place, 0 at no place. -/
def numP (l : List UInt8) (P : Int) : Int := if P = 0 then 0 else num2 (l.getD P.toNat 0) (l.getD (P.toNat + 1) 0)
def okP (l : List UInt8) (P : Int) : Prop := P = 0 ∨ (1 ≤ P ∧ P + 2 ≤ l.length)
theorem numberAt_gen (v : Value) (l : List UInt8) (P : Int) (w : World) (hv : BytesC w v l) (hl : l.length ≤ 4000) (hP : okP l P) :
    Calls Tryz.prog 153 #[v, .int .i64 P] w fun e w' => e = .returned (.int .i64 (numP l P)) ∧ Below w.heap.size w w' := by
  rcases hP with rfl | ⟨h1, h2⟩
  · exact (numberAt_zero v w).mono fun e w' h => ⟨h.1, by rw [h.2]; exact Below.refl _ _⟩
  · have e1 : P = ((P.toNat : Nat) : Int) := by omega
    have e2 : numP l P = num2 (l[P.toNat]'(by omega)) (l[P.toNat + 1]'(by omega)) := by
      unfold numP
      rw [if_neg (by omega)]
      simp only [List.getD_eq_getElem?_getD]
      rw [List.getElem?_eq_getElem (by omega), List.getElem?_eq_getElem (by omega)]
      rfl
    rw [e2]
    have := numberAt_any v l P.toNat w hv (by omega) (by omega) hl
    rw [← e1] at this
    exact this

/-- What is held while the fields are read: the layout, the bytes, the boxes of the results, the kind. -/
def HeadS (w : World) (X L b0 o : Nat) (k a b c d : Int) (v : Value) (l : List UInt8) : Prop :=
  LayAt w L a b c d v l ∧ w.heap[X]? = some (.cells #[.int .i64 0, .int .i64 0, .int .i64 0, .int .i64 0, .slice none 0 0] 63 (0, 0)) ∧ w.heap[X + 1]? = some (.cells #[.int .i64 0, .int .i64 0] 158 (0, 0)) ∧ w.cell? ⟨b0, o, none⟩ = some (.int .u8 k)
theorem HeadS.below {w w' : World} {X L b0 o : Nat} {k a b c d : Int} {v : Value} {l : List UInt8} (h : HeadS w X L b0 o k a b c d v l) (hb : Below w.heap.size w w') : HeadS w' X L b0 o k a b c d v l :=
  ⟨h.1.below hb, by rw [hb.block _ (lt_of_heap h.2.1)]; exact h.2.1, by rw [hb.block _ (lt_of_heap h.2.2.1)]; exact h.2.2.1, cell_keep h.2.2.2 hb⟩
theorem HeadS.full {W w : World} {X L b0 o : Nat} {k a b c d : Int} {v : Value} {l : List UInt8} (h : HeadS W X L b0 o k a b c d v l) (hb : Below W.heap.size W w) :
    w.cell? ⟨L, 0, none⟩ = some (.int .i64 a) ∧ w.cell? ⟨L, 1, none⟩ = some (.int .i64 b) ∧ w.cell? ⟨L, 2, none⟩ = some (.int .i64 c) ∧ w.cell? ⟨b0, o, none⟩ = some (.int .u8 k) ∧ Below W.heap.size W w :=
  have h' := h.below hb
  ⟨h'.1.1, h'.1.2.1, h'.1.2.2.1, h'.2.2.2, hb⟩
theorem HeadS.next {W w w' : World} {X L b0 o : Nat} {k a b c d : Int} {v : Value} {l : List UInt8} {p1 p2 p3 p4 : Prop} (h : HeadS W X L b0 o k a b c d v l) (hs : p1 ∧ p2 ∧ p3 ∧ p4 ∧ Below W.heap.size W w) (hb : Below w.heap.size w w') :
    w'.cell? ⟨L, 0, none⟩ = some (.int .i64 a) ∧ w'.cell? ⟨L, 1, none⟩ = some (.int .i64 b) ∧ w'.cell? ⟨L, 2, none⟩ = some (.int .i64 c) ∧ w'.cell? ⟨b0, o, none⟩ = some (.int .u8 k) ∧ Below W.heap.size W w' :=
  h.full (hs.2.2.2.2.trans (hb.mono hs.2.2.2.2.size))
theorem HeadS.bytes {W w : World} {X L b0 o : Nat} {k a b c d : Int} {v : Value} {l : List UInt8} {p1 p2 p3 p4 : Prop} (h : HeadS W X L b0 o k a b c d v l) (hs : p1 ∧ p2 ∧ p3 ∧ p4 ∧ Below W.heap.size W w) : BytesC w v l := (h.below hs.2.2.2.2).1.2.2.2.2
theorem below_of {W w : World} {p1 p2 p3 p4 : Prop} (hs : p1 ∧ p2 ∧ p3 ∧ p4 ∧ Below W.heap.size W w) : Below W.heap.size W w := hs.2.2.2.2

/-- A new message's block. -/
def MsgZ (w : World) (B : Nat) : Prop := w.heap[B]? = some (.cells #[.int .i64 0, .int .i64 0, .int .i64 0, .int .i64 0, .slice none 0 0] 63 (0, 0))
theorem MsgZ.new (w : World) : MsgZ (w.alloc (.cells #[.int .i64 0, .int .i64 0, .int .i64 0, .int .i64 0, .slice none 0 0] 63)) w.heap.size := heap_alloc_new _ _
theorem MsgZ.drew {w : World} {B : Nat} (h : MsgZ w B) : MsgZ w.drew B := h
theorem MsgZ.below {w w' : World} {B : Nat} (h : MsgZ w B) (hb : Below w.heap.size w w') : MsgZ w' B := by unfold MsgZ; rw [hb.block _ (lt_of_heap h)]; exact h
theorem MsgZ.cells {w : World} {B : Nat} (h : MsgZ w B) : w.cell? ⟨B, 0, none⟩ = some (.int .i64 0) ∧ w.cell? ⟨B, 1, none⟩ = some (.int .i64 0) ∧ w.cell? ⟨B, 2, none⟩ = some (.int .i64 0) ∧ w.cell? ⟨B, 3, none⟩ = some (.int .i64 0) ∧ w.cell? ⟨B, 4, none⟩ = some (.slice none 0 0) ∧
    w.frozen? ⟨B, 0, none⟩ = false ∧ w.frozen? ⟨B, 1, none⟩ = false ∧ w.frozen? ⟨B, 2, none⟩ = false ∧ w.frozen? ⟨B, 3, none⟩ = false ∧ w.frozen? ⟨B, 4, none⟩ = false ∧ B < w.heap.size := by
  refine ⟨?_, ?_, ?_, ?_, ?_, ?_, ?_, ?_, ?_, ?_, lt_of_heap h⟩
  · rw [cell_of_row _ _ _ _ _ _ h]; rfl
  · rw [cell_of_row _ _ _ _ _ _ h]; rfl
  · rw [cell_of_row _ _ _ _ _ _ h]; rfl
  · rw [cell_of_row _ _ _ _ _ _ h]; rfl
  · rw [cell_of_row _ _ _ _ _ _ h]; rfl
  all_goals (unfold World.frozen?; rw [h]; simp)

/-- A message's block. -/
def MsgF (w : World) (B : Nat) (k M N R : Int) : Prop := w.heap[B]? = some (.cells #[.int .i64 k, .int .i64 M, .int .i64 N, .int .i64 R, .slice none 0 0] 63 (0, 0))
def MsgF.world {w : World} {B : Nat} {k M N R : Int} (_ : MsgF w B k M N R) : World := w
def MsgF.block {w : World} {B : Nat} {k M N R : Int} (_ : MsgF w B k M N R) : Nat := B
theorem MsgF.put {w : World} {B : Nat} (h : MsgZ w B) (k M N R : Int) : MsgF (((((w.setCell ⟨B, 0, none⟩ (.int .i64 k)).setCell ⟨B, 1, none⟩ (.int .i64 M)).setCell ⟨B, 2, none⟩ (.int .i64 N)).setCell ⟨B, 3, none⟩ (.int .i64 R)).setCell ⟨B, 4, none⟩ (.slice none 0 0)) B k M N R := by
  unfold MsgZ at h
  unfold MsgF
  simp [World.setCell, Array.getElem?_modify, h]
theorem MsgF.new (w : World) (k M N R : Int) : MsgF (w.alloc (.cells #[.int .i64 k, .int .i64 M, .int .i64 N, .int .i64 R, .slice none 0 0] 63)) w.heap.size k M N R := heap_alloc_new _ _
theorem MsgF.below {w w' : World} {B : Nat} {k M N R : Int} (h : MsgF w B k M N R) (hb : Below w.heap.size w w') : MsgF w' B k M N R := by unfold MsgF; rw [hb.block _ (lt_of_heap h)]; exact h
theorem MsgF.cells {w : World} {B : Nat} {k M N R : Int} (h : MsgF w B k M N R) : w.cell? ⟨B, 0, none⟩ = some (.int .i64 k) ∧ w.cell? ⟨B, 1, none⟩ = some (.int .i64 M) ∧ w.cell? ⟨B, 2, none⟩ = some (.int .i64 N) ∧ w.cell? ⟨B, 3, none⟩ = some (.int .i64 R) ∧ w.cell? ⟨B, 4, none⟩ = some (.slice none 0 0) := by
  refine ⟨?_, ?_, ?_, ?_, ?_⟩ <;> (rw [cell_of_row _ _ _ _ _ _ h]; rfl)
theorem FaultZ.cells {w : World} {B : Nat} (h : w.heap[B]? = some (.cells #[.int .i64 0, .int .i64 0] 158 (0, 0))) : w.cell? ⟨B, 0, none⟩ = some (.int .i64 0) ∧ w.cell? ⟨B, 1, none⟩ = some (.int .i64 0) ∧ w.frozen? ⟨B, 0, none⟩ = false ∧ w.frozen? ⟨B, 1, none⟩ = false := by
  refine ⟨?_, ?_, ?_, ?_⟩
  · rw [cell_of_row _ _ _ _ _ _ h]; rfl
  · rw [cell_of_row _ _ _ _ _ _ h]; rfl
  all_goals (unfold World.frozen?; rw [h]; simp)

set_option maxRecDepth 100000 in
set_option maxHeartbeats 6000000 in
theorem head_any (v : Value) (l : List UInt8) (w : World) (hv : BytesC w v l) (hl : l.length ≤ 4000) (h1 : 1 ≤ l.length) (k a b c d f q : Int) (h0 : (l[0].toNat : Int) = k) (hd : d ≤ l.length) (ha : okP l a) (hb : okP l b) (hc : okP l c)
    (hlay : ∀ w : World, Calls Tryz.prog 152 #[.int .i64 k] w fun e w' => e = .returned (.tuple #[.agg #[.int .i64 a, .int .i64 b, .int .i64 c, .int .i64 d], .bool true]) ∧ Below w.heap.size w w')
    (hck : ∀ (T : Value) (w : World), Calls Tryz.prog 154 #[.agg #[.int .i64 k, .int .i64 (numP l a), .int .i64 (numP l b), .int .i64 (numP l c), T], .agg #[.int .i64 a, .int .i64 b, .int .i64 c, .int .i64 d]] w fun e w' => e = .returned (.agg #[.int .i64 f, .int .i64 q]) ∧ Below w.heap.size w w') :
    Calls Tryz.prog 119 #[v] w fun e w' => e = .returned (.tuple #[msgW k (numP l a) (numP l b) (numP l c) (.slice none 0 0), .int .i64 d, .agg #[.int .i64 f, .int .i64 q]]) ∧ Below w.heap.size w w' := by
  unfold msgW
  have Hlay := Hid.out (show Hid _ from hlay)
  have HC : Hid _ := hck
  clear hlay hck
  obtain ⟨b0, o, cap, rfl, hlc, hcm, hbw, hB, hcell⟩ := hv.cells (by omega)
  have c0 := hcell 0 (by omega)
  rw [Nat.add_zero, h0] at c0
  have hk : wrap64 k = k := by have := l[0].toNat_lt; go_arith
  have hk2 : IntKind.i64.wrap k = k := by have := l[0].toNat_lt; go_arith
  have hc0 : ∀ w : World, BytesC w (.slice (some ⟨b0, o, none⟩) l.length cap) l → w.cell? ⟨b0, o, none⟩ = some (.int .u8 k) := by
    intro w hw
    obtain ⟨_, _, _, e, _, _, _, _, hc⟩ := hw.cells (by omega)
    cases e
    have := hc 0 (by omega)
    rw [Nat.add_zero, h0] at this
    exact this
  have Hc0 : Hid _ := hc0
  clear hcell hB hc0
  go_enter Tryz.func119, Tryz.ntmps119
  go_wp2_with fail
  refine (Hlay _).mono ?_
  rintro e w1 ⟨rfl, hb1⟩
  clear Hlay
  go_wp2_with fail
  have hS : HeadS (w1.alloc (.cells #[.int .i64 a, .int .i64 b, .int .i64 c, .int .i64 d] 226)) w.heap.size w1.heap.size b0 o k a b c d (.slice (some ⟨b0, o, none⟩) l.length cap) l := by
    have hA : Below w1.heap.size w1 (w1.alloc (.cells #[.int .i64 a, .int .i64 b, .int .i64 c, .int .i64 d] 226)) := (Below.refl _ _).alloc (Nat.le_refl _) _
    refine ⟨⟨by simp, by simp, by simp, by simp, ?_⟩, ?_, ?_, ?_⟩
    · exact (hv.below (((Below.refl _ _).alloc (Nat.le_refl _) _).alloc (by simp) _)).below hb1 |>.below hA
    · rw [hA.block _ (by have := hb1.size; simp at this; omega), hb1.block _ (by simp; omega)]
      exact heap_old _ _ _ _ (heap_new _ _ _ rfl)
    · rw [hA.block _ (by have := hb1.size; simp at this; omega), hb1.block _ (by simp)]
      exact heap_new _ _ _ (by simp)
    · exact Hc0.out _ ((hv.below (((Below.refl _ _).alloc (Nat.le_refl _) _).alloc (by simp) _)).below hb1 |>.below hA)
  have hW : Below w.heap.size w (w1.alloc (.cells #[.int .i64 a, .int .i64 b, .int .i64 c, .int .i64 d] 226)) := by
    have := hb1.size
    simp at this
    exact (((((Below.refl _ _).alloc (Nat.le_refl _) _).alloc (by simp) _).trans (hb1.mono (by simp; omega))).alloc (by omega) _)
  have hL := lt_of_heap hS.2.2.1
  have hLX : w.heap.size + 1 < w1.heap.size := by have := hb1.size; simp at this; omega
  have hLW : w1.heap.size < (w1.alloc (.cells #[.int .i64 a, .int .i64 b, .int .i64 c, .int .i64 d] 226)).heap.size := by simp
  generalize w1.alloc (.cells #[.int .i64 a, .int .i64 b, .int .i64 c, .int .i64 d] 226) = W at hS hW hL hLW ⊢
  generalize w1.heap.size = L at hS hLX hLW ⊢
  clear hb1 c0 hv
  have hF := hS.full (Below.refl _ _)
  have hp1 : 0 < l.length := by omega
  have hp2 : (0 : Int) < (l.length : Int) := by omega
  have hp3 : ¬ l.length = 0 := by omega
  have HS : Hid _ := hS
  clear hS
  go_region_held3 (fun w' => w'.cell? ⟨L, 0, none⟩ = some (.int .i64 a) ∧ w'.cell? ⟨L, 1, none⟩ = some (.int .i64 b) ∧ w'.cell? ⟨L, 2, none⟩ = some (.int .i64 c) ∧ w'.cell? ⟨b0, o, none⟩ = some (.int .u8 k) ∧ Below W.heap.size W w')
    (first
      | (with_reducible assumption)
      | (refine HeadS.full HS.out ?_; (repeat (first | exact Below.refl _ _ | (with_reducible exact below_of (by assumption)) | (with_reducible refine Below.drew ?_) | (with_reducible refine Below.alloc ?_ (by first | omega | (simp; omega) | simp) _) | (with_reducible refine Below.setCell ?_ (by first | omega | (simp; omega) | simp) _))); done))
    (first
      | (go_at_call 153; refine (numberAt_gen _ l _ _ (HeadS.bytes HS.out (by with_reducible assumption)) hl (by with_reducible assumption)).mono ?_; rintro e wA ⟨rfl, hbA⟩; have hkA := HeadS.next HS.out (by with_reducible assumption) hbA; have hsA := (below_of hkA).size; (try clear z0 z1 z2 z3 z4 f0 f1 f2 f3 f4 zB); (first | ((with_reducible have hz := MsgZ.below (by assumption) hbA); obtain ⟨z0, z1, z2, z3, z4, f0, f1, f2, f3, f4, zB⟩ := MsgZ.cells hz) | ((with_reducible have hz := MsgZ.below (MsgZ.new _) hbA); obtain ⟨z0, z1, z2, z3, z4, f0, f1, f2, f3, f4, zB⟩ := MsgZ.cells hz) | ((with_reducible have hz := MsgZ.below (MsgZ.drew (MsgZ.new _)) hbA); obtain ⟨z0, z1, z2, z3, z4, f0, f1, f2, f3, f4, zB⟩ := MsgZ.cells hz) | skip)))
  all_goals (first
    | (have hm := MsgF.put hz k (numP l a) (numP l b) (numP l c); have hbm := MsgF.world hm; skip)
    | (have hm := MsgF.new wA k (numP l a) (numP l b) (numP l c); have hbm := MsgF.world hm; skip))
  all_goals clear hbm
  all_goals obtain ⟨U, hU⟩ : ∃ U, U = MsgF.world hm := ⟨_, rfl⟩
  all_goals obtain ⟨G, hG⟩ : ∃ G, G = MsgF.block hm := ⟨_, rfl⟩
  all_goals simp only [MsgF.world, MsgF.block] at hU hG
  all_goals rw [← hU]
  all_goals have hb' : Below W.heap.size W U := by (rw [hU]; exact below_of (by with_reducible assumption))
  all_goals rw [← hU, ← hG] at hm
  all_goals rw [← hG]
  all_goals have hGW : W.heap.size ≤ G := by (rw [hG]; omega)
  all_goals clear hU hG
  all_goals have hn1 : ¬ G = w.heap.size := by omega
  all_goals have hn1' : ¬ w.heap.size = G := by omega
  all_goals have hn2 : ¬ G = w.heap.size + 1 := by omega
  all_goals have hn2' : ¬ w.heap.size + 1 = G := by omega
  all_goals have hn3 : ¬ L = w.heap.size := by omega
  all_goals have hn3' : ¬ w.heap.size = L := by omega
  all_goals have hn4 : ¬ L = w.heap.size + 1 := by omega
  all_goals have hn4' : ¬ w.heap.size + 1 = L := by omega
  all_goals obtain ⟨g0, g1, g2, g3, g4⟩ := hm.cells
  all_goals obtain ⟨⟨l0, l1, l2, l3, _⟩, _, _, _⟩ := HeadS.below HS.out hb'
  all_goals go_wp2_with fail
  all_goals go_region_held3 (fun w' => (w'.cell? ⟨G, 0, none⟩ = some (.int .i64 k) ∧ w'.cell? ⟨G, 1, none⟩ = some (.int .i64 (numP l a)) ∧ w'.cell? ⟨G, 2, none⟩ = some (.int .i64 (numP l b)) ∧ w'.cell? ⟨G, 3, none⟩ = some (.int .i64 (numP l c)) ∧ w'.cell? ⟨G, 4, none⟩ = some (.slice none 0 0)) ∧ w'.cell? ⟨L, 0, none⟩ = some (.int .i64 a) ∧ w'.cell? ⟨L, 1, none⟩ = some (.int .i64 b) ∧ w'.cell? ⟨L, 2, none⟩ = some (.int .i64 c) ∧ w'.cell? ⟨L, 3, none⟩ = some (.int .i64 d)) (go_keep)
    (first
      | (go_at_call 154; refine (HC.out _ _).mono ?_; rintro e wD ⟨rfl, hbD⟩; have hqD : Below W.heap.size W wD := hb'.drew.trans (hbD.mono hb'.size); obtain ⟨j0, j1, j2, j3, j4⟩ := MsgF.cells (hm.below (((Below.refl _ _).drew).trans hbD)); obtain ⟨⟨o0, o1, o2, o3, _⟩, hx, hy, _⟩ := HeadS.below HS.out hqD; obtain ⟨x0, x1, x2, x3, x4, r0, r1, r2, r3, r4, rB⟩ := MsgZ.cells hx; obtain ⟨y0, y1, s0, s1⟩ := FaultZ.cells hy; have hqw : Below w.heap.size w wD := hW.trans (hqD.mono hW.size)))
  all_goals go_wp2
  all_goals refine bodyPost_ret (v := .tuple #[.agg #[.int .i64 k, .int .i64 (numP l a), .int .i64 (numP l b), .int .i64 (numP l c), .slice none 0 0], .int .i64 d, .agg #[.int .i64 f, .int .i64 q]]) (by simp [results, Tryz.results119, go_sem, x0, x1, x2, x3, x4, y0, y1]) rfl ?_
  all_goals exact ⟨rfl, (((((((hqw.setCell (Nat.le_refl _) _).setCell (Nat.le_refl _) _).setCell (Nat.le_refl _) _).setCell (Nat.le_refl _) _).setCell (Nat.le_refl _) _).setCell (Nat.le_succ _) _).setCell (Nat.le_succ _) _)⟩
end Go.Proofs.YtlndinigbppafaaGreat
