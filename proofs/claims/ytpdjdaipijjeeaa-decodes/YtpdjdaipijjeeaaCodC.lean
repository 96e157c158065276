/-
  The walks of the program's reader of nodes: take, short, stub, leaf, node.
-/
import Derived.Test.YtpdjdaipijjeeaaCodA
import Derived.Test.YtpdjdaipijjeeaaScanA
import Derived.Test.YtpdjdaipijjeeaaWireB
namespace Go.Proofs.Ytpdjdaipijjeeaa
open Go.RowKit

/-- A reader that lies at a block. -/
def RdAt (w : World) (B : Nat) (v : Value) (l : List UInt8) (a : Nat) : Prop :=
  w.heap[B]? = some (.cells #[v, .int .i64 a] 126 (0, 0)) ∧ BytesC w v l
theorem RdAt.below {w w' : World} {B : Nat} {v : Value} {l : List UInt8} {a : Nat} (h : RdAt w B v l a) (hb : Below w.heap.size w w') : RdAt w' B v l a :=
  ⟨by rw [hb.block _ (lt_of_heap h.1)]; exact h.1, h.2.below hb⟩
theorem RdAt.cell {w : World} {B : Nat} {v : Value} {l : List UInt8} {a : Nat} (h : RdAt w B v l a) : w.cell? ⟨B, 0, none⟩ = some v ∧ w.cell? ⟨B, 1, none⟩ = some (.int .i64 a) ∧ w.frozen? ⟨B, 1, none⟩ = false ∧ B < w.heap.size := by
  refine ⟨?_, ?_, ?_, lt_of_heap h.1⟩
  · rw [cell_of_row _ _ _ _ _ _ h.1]; rfl
  · rw [cell_of_row _ _ _ _ _ _ h.1]; rfl
  · unfold World.frozen?; rw [h.1]; simp
theorem BytesAt.set {w : World} {B j : Nat} {v u : Value} {l : List UInt8} {cur : Array Value} {fr : Nat × Nat} {t : TypeId} (h : BytesAt w v l) (hB : w.heap[B]? = some (.cells cur t fr)) (ht : t ≠ 5) : BytesAt (w.setCell ⟨B, j, none⟩ u) v l := by
  obtain ⟨ao, cap, rfl, hz, h⟩ := h
  refine ⟨ao, cap, rfl, hz, fun hl => ?_⟩
  obtain ⟨b, o, cur', fr', rfl, hlt, hc⟩ := h hl
  refine ⟨b, o, cur', fr', rfl, ?_, hc⟩
  rw [Below.heap_setCell _ _ _ _ ?_]
  · exact hlt
  · show b ≠ B
    intro e
    subst e
    rw [hB] at hlt
    simp at hlt
    exact ht hlt.2.1
theorem RdAt.set {w : World} {B : Nat} {v : Value} {l : List UInt8} {a : Nat} (h : RdAt w B v l a) (x : Nat) : RdAt (w.setCell ⟨B, 1, none⟩ (.int .i64 x)) B v l x :=
  ⟨by simp [World.setCell, Array.getElem?_modify, h.1], h.2.1.set h.1 (by decide), h.2.2⟩

set_option maxRecDepth 100000 in
set_option maxHeartbeats 1000000 in
theorem take_no (w : World) (B : Nat) (v : Value) (l : List UInt8) (a c : Nat) (h : RdAt w B v l a) (ha : a ≤ l.length) (hc : l.length < a + c) (hc2 : c ≤ 4000) :
    Calls Try.prog 105 #[.pointer (some ⟨B, 0, none⟩), .int .i64 c] w fun e w' => e = .returned (.tuple #[.slice none 0 0, .bool false]) ∧ Below w.heap.size w w' := by
  obtain ⟨c0, c1, z1, hB⟩ := h.cell
  obtain ⟨_, ao, cap, rfl, hlc, hcm⟩ := h.2
  go_enter Try.func105, Try.ntmps105
  go_wp2
  go_quiet (fail)
  go_wp2
  go_returns
  exact ⟨rfl, below_drewN (Below.refl _ _) _⟩

set_option maxRecDepth 100000 in
set_option maxHeartbeats 1000000 in
theorem take_ok (w : World) (B : Nat) (v : Value) (l : List UInt8) (a c : Nat) (hr : RdAt w B v l a) (hc : a + c ≤ l.length) (hl : l.length ≤ 4000) (h0 : 0 < l.length) :
    Calls Try.prog 105 #[.pointer (some ⟨B, 0, none⟩), .int .i64 c] w fun e w' => ∃ v', e = .returned (.tuple #[v', .bool true]) ∧ RdAt w' B v l (a + c) ∧ BytesAt w' v' ((l.drop a).take c) ∧ Frame2 w w' B none ∧ ∃ ad cp, v' = .slice (some ad) c cp := by
  obtain ⟨c0, c1, z1, hB⟩ := hr.cell
  obtain ⟨b, o, cap, rfl, hlc, hcm, hbw, hBy, hcell⟩ := hr.2.cells h0
  have Hc : Hid _ := hcell
  clear hcell
  obtain ⟨b', o', e, hB2⟩ := hBy.from a c (cap - a) hc h0
  cases e
  have HB2 : Hid _ := hB2
  clear hB2
  go_enter Try.func105, Try.ntmps105
  go_wp2
  go_quiet (fail)
  go_wp2
  go_quiet (fail)
  all_goals go_wp2
  all_goals go_returns
  all_goals rw [show ((a : Int) + (c : Int)) = ((a + c : Nat) : Int) by omega]
  · subst h
    have hc0 : c = 0 := by omega
    refine ⟨_, rfl, (hr.below (below_drewN (Below.refl _ _) _)).set _, ?_, ?_, _, _, rfl⟩
    · rw [hc0]
      exact ⟨_, _, rfl, fun h => (by cases h), fun h => (by simp at h)⟩
    · exact ((Frame2.refl w B none).then (below_drewN (Below.refl _ _) _)).set _ _ B 1 none _
  · refine ⟨_, rfl, (hr.below (below_drewN (Below.refl _ _) _)).set (a + c), (BytesAt.keep HB2.out (KeepsT.of_below (below_drewN (Below.refl _ _) _) (Nat.le_refl _))).set (hr.below (below_drewN (Below.refl _ _) _)).1 (by decide), ?_, _, _, rfl⟩
    exact ((Frame2.refl w B none).then (below_drewN (Below.refl _ _) _)).set _ _ B 1 none _

set_option maxRecDepth 100000 in
set_option maxHeartbeats 1000000 in
theorem short_any (w : World) (B : Nat) (v : Value) (l : List UInt8) (a : Nat) (hr : RdAt w B v l a) :
    Calls Try.prog 106 #[.pointer (some ⟨B, 0, none⟩)] w fun e w' => e = .returned (.agg #[.int .i64 5, .int .i64 l.length]) ∧ Below w.heap.size w w' := by
  obtain ⟨c0, c1, z1, hB⟩ := hr.cell
  obtain ⟨_, ao, cap, rfl, hlc, hcm⟩ := hr.2
  go_enter Try.func106, Try.ntmps106
  go_wp2
  all_goals go_returns
  all_goals exact ⟨rfl, by go_grown⟩

/-- What reading one node gives. -/
def NodeR (w w' : World) (B : Nat) (v : Value) (l : List UInt8) (e : Ending) (rd : Except (Int × Nat) (PN × Nat)) : Prop :=
  Frame2 w w' B none ∧ match rd with
  | .error (f, q) => f ≠ 0 ∧ e = .returned (.tuple #[.agg #[.int .i64 0, .int .i64 0, .string ⟨#[]⟩], .agg #[.int .i64 f, .int .i64 q]]) ∧ ∃ a, RdAt w' B v l a
  | .ok (n, a) => e = .returned (.tuple #[.agg #[.int .i64 n.kind, .int .i64 n.dig, .string n.ev], .agg #[.int .i64 0, .int .i64 0]]) ∧ RdAt w' B v l a

/-- The boxes of a node's and a fault's results. -/
def BoxNF (w : World) (X : Nat) : Prop := w.heap[X]? = some (.cells #[.int .i64 0, .int .i64 0, .string ⟨#[]⟩] 100 (0, 0)) ∧ w.heap[X + 1]? = some (.cells #[.int .i64 0, .int .i64 0] 110 (0, 0))
theorem BoxNF.new (w : World) : BoxNF ((w.alloc (.cells #[.int .i64 0, .int .i64 0, .string ⟨#[]⟩] 100)).alloc (.cells #[.int .i64 0, .int .i64 0] 110)) w.heap.size :=
  ⟨heap_old _ _ _ _ (heap_new _ _ _ rfl), heap_new _ _ _ (by simp)⟩
theorem BoxNF.below {w w' : World} {X : Nat} (h : BoxNF w X) (hb : Below w.heap.size w w') : BoxNF w' X := ⟨by rw [hb.block _ (lt_of_heap h.1)]; exact h.1, by rw [hb.block _ (lt_of_heap h.2)]; exact h.2⟩
theorem BoxNF.frame {w w' : World} {X B : Nat} (h : BoxNF w X) (hF : Frame2 w w' B none) (hB : B < X) : BoxNF w' X :=
  ⟨by rw [hF.block _ (lt_of_heap h.1) (by omega) (by simp)]; exact h.1, by rw [hF.block _ (lt_of_heap h.2) (by omega) (by simp)]; exact h.2⟩
theorem BoxNF.cells {w : World} {X : Nat} (h : BoxNF w X) : (w.cell? ⟨X, 0, none⟩ = some (.int .i64 0) ∧ w.cell? ⟨X, 1, none⟩ = some (.int .i64 0) ∧ w.cell? ⟨X, 2, none⟩ = some (.string ⟨#[]⟩) ∧ w.frozen? ⟨X, 0, none⟩ = false ∧ w.frozen? ⟨X, 1, none⟩ = false ∧ w.frozen? ⟨X, 2, none⟩ = false) ∧
    (w.cell? ⟨X + 1, 0, none⟩ = some (.int .i64 0) ∧ w.cell? ⟨X + 1, 1, none⟩ = some (.int .i64 0) ∧ w.frozen? ⟨X + 1, 0, none⟩ = false ∧ w.frozen? ⟨X + 1, 1, none⟩ = false) ∧ X + 1 < w.heap.size := by
  refine ⟨⟨?_, ?_, ?_, ?_, ?_, ?_⟩, ⟨?_, ?_, ?_, ?_⟩, lt_of_heap h.2⟩
  all_goals first
    | (rw [cell_of_row _ _ _ _ _ _ h.1]; rfl)
    | (rw [cell_of_row _ _ _ _ _ _ h.2]; rfl)
    | (unfold World.frozen?; rw [h.1]; simp; done)
    | (unfold World.frozen?; rw [h.2]; simp; done)

theorem BytesAt.frame {w w' : World} {B : Nat} {v : Value} {l : List UInt8} {cur : Array Value} {fr : Nat × Nat} {t : TypeId} (h : BytesAt w v l) (hF : Frame2 w w' B none) (hB : w.heap[B]? = some (.cells cur t fr)) (ht : t ≠ 5) : BytesAt w' v l := by
  obtain ⟨ao, cap, rfl, hz, h⟩ := h
  refine ⟨ao, cap, rfl, hz, fun hl => ?_⟩
  obtain ⟨b, o, cur', fr', rfl, hlt, hc⟩ := h hl
  refine ⟨b, o, cur', fr', rfl, ?_, hc⟩
  rw [hF.block b (lt_of_heap hlt) ?_ (by simp)]
  · exact hlt
  · intro e
    subst e
    rw [hB] at hlt
    simp at hlt
    exact ht hlt.2.1
theorem RdAt.of_frame {w w' : World} {B : Nat} {v : Value} {l : List UInt8} {a a' : Nat} (hr : RdAt w B v l a) (hF : Frame2 w w' B none) (hB : w'.heap[B]? = some (.cells #[v, .int .i64 a'] 126 (0, 0))) : RdAt w' B v l a' :=
  ⟨hB, hr.2.1.frame hF hr.1 (by decide), hr.2.2⟩
theorem Frame2.setOut {w w' : World} {B : Nat} {row : Option Nat} (h : Frame2 w w' B row) (X j : Nat) (u : Value) (hX : w.heap.size ≤ X) : Frame2 w (w'.setCell ⟨X, j, none⟩ u) B row :=
  ⟨h.os, h.tape, h.output, by simpa [World.setCell] using h.size, fun k hk hB hr => by rw [Below.heap_setCell _ _ _ _ (show k ≠ X by omega)]; exact h.block k hk hB hr⟩
/-- The results are stored. -/
theorem nr_put {w w2 : World} {B : Nat} {v : Value} {l : List UInt8} {a0 a : Nat} (hr : RdAt w B v l a0) (hF : Frame2 w w2 B none) (hr2 : RdAt w2 B v l a) (p q r s t : Value) :
    Frame2 w (((((w2.setCell ⟨w.heap.size, 0, none⟩ p).setCell ⟨w.heap.size, 1, none⟩ q).setCell ⟨w.heap.size, 2, none⟩ r).setCell ⟨w.heap.size + 1, 0, none⟩ s).setCell ⟨w.heap.size + 1, 1, none⟩ t) B none ∧
    RdAt (((((w2.setCell ⟨w.heap.size, 0, none⟩ p).setCell ⟨w.heap.size, 1, none⟩ q).setCell ⟨w.heap.size, 2, none⟩ r).setCell ⟨w.heap.size + 1, 0, none⟩ s).setCell ⟨w.heap.size + 1, 1, none⟩ t) B v l a := by
  have hBw := lt_of_heap hr.1
  have h5 := ((((hF.setOut w.heap.size 0 p (Nat.le_refl _)).setOut w.heap.size 1 q (Nat.le_refl _)).setOut w.heap.size 2 r (Nat.le_refl _)).setOut (w.heap.size + 1) 0 s (Nat.le_succ _)).setOut (w.heap.size + 1) 1 t (Nat.le_succ _)
  refine ⟨h5, hr.of_frame h5 ?_⟩
  rw [Below.heap_setCell _ _ _ _ (show B ≠ w.heap.size + 1 by omega), Below.heap_setCell _ _ _ _ (show B ≠ w.heap.size + 1 by omega), Below.heap_setCell _ _ _ _ (show B ≠ w.heap.size by omega), Below.heap_setCell _ _ _ _ (show B ≠ w.heap.size by omega), Below.heap_setCell _ _ _ _ (show B ≠ w.heap.size by omega)]
  exact hr2.1
theorem take2_get (l : List UInt8) (a : Nat) (hc : a + 2 ≤ l.length) : ((l.drop a).take 2)[0]'(by simp; omega) = l[a] ∧ ((l.drop a).take 2)[1]'(by simp; omega) = l[a + 1] := by
  constructor <;> simp

set_option maxRecDepth 100000 in
set_option maxHeartbeats 1000000 in
theorem stub_ok (w : World) (B : Nat) (v : Value) (l : List UInt8) (a : Nat) (hr : RdAt w B v l a) (hc : a + 2 ≤ l.length) (hl : l.length ≤ 4000) :
    Calls Try.prog 107 #[.pointer (some ⟨B, 0, none⟩)] w fun e w' => NodeR w w' B v l e (.ok (⟨0, num2 l[a] l[a + 1], ByteArray.empty⟩, a + 2)) := by
  have hBw := lt_of_heap hr.1
  go_enter Try.func107, Try.ntmps107
  go_wp2_with fail
  have hA : Below w.heap.size w ((w.alloc (.cells #[.int .i64 0, .int .i64 0, .string ⟨#[]⟩] 100)).alloc (.cells #[.int .i64 0, .int .i64 0] 110)) := ((Below.refl _ _).alloc (Nat.le_refl _) _).alloc (by simp) _
  have hX := BoxNF.new w
  generalize (w.alloc (.cells #[.int .i64 0, .int .i64 0, .string ⟨#[]⟩] 100)).alloc (.cells #[.int .i64 0, .int .i64 0] 110) = W at hA hX ⊢
  refine (take_ok _ _ _ _ _ 2 (hr.below hA) hc hl (by omega)).mono ?_
  rintro e w1 ⟨v', rfl, hr1, hB1, hF1, _⟩
  have hX1 := hX.frame hF1 hBw
  obtain ⟨⟨x0, x1, x2, f0, f1, f2⟩, ⟨y0, y1, g0, g1⟩, hs1⟩ := hX1.cells
  go_wp2_with fail
  refine (number2_any _ _ _ hB1 (by simp; omega)).mono ?_
  rintro e w2 ⟨rfl, hb2⟩
  rw [(take2_get l a hc).1, (take2_get l a hc).2]
  have hr2 := hr1.below hb2
  have hF2 : Frame2 w w2 B none := ((Frame2.of_below B none hA).trans hF1).then hb2
  have hX2 := hX1.below hb2
  clear x0 x1 x2 f0 f1 f2 y0 y1 g0 g1 hs1
  obtain ⟨⟨x0, x1, x2, f0, f1, f2⟩, ⟨y0, y1, g0, g1⟩, hs1⟩ := hX2.cells
  go_wp2
  refine bodyPost_ret (v := .tuple #[.agg #[.int .i64 0, .int .i64 (num2 l[a] l[a + 1]), .string ⟨#[]⟩], .agg #[.int .i64 0, .int .i64 0]]) (by simp [results, Try.results107, go_sem, x0, x1, x2, y0, y1]) rfl ?_
  obtain ⟨k1, k2⟩ := nr_put hr hF2 hr2 (.int .i64 0) (.int .i64 (num2 l[a] l[a + 1])) (.string ⟨#[]⟩) (.int .i64 0) (.int .i64 0)
  exact ⟨k1, rfl, k2⟩

set_option maxRecDepth 100000 in
set_option maxHeartbeats 1000000 in
theorem stub_no (w : World) (B : Nat) (v : Value) (l : List UInt8) (a : Nat) (hr : RdAt w B v l a) (ha : a ≤ l.length) (hc : l.length < a + 2) :
    Calls Try.prog 107 #[.pointer (some ⟨B, 0, none⟩)] w fun e w' => NodeR w w' B v l e (.error (5, l.length)) := by
  have hBw := lt_of_heap hr.1
  go_enter Try.func107, Try.ntmps107
  go_wp2_with fail
  have hA : Below w.heap.size w ((w.alloc (.cells #[.int .i64 0, .int .i64 0, .string ⟨#[]⟩] 100)).alloc (.cells #[.int .i64 0, .int .i64 0] 110)) := ((Below.refl _ _).alloc (Nat.le_refl _) _).alloc (by simp) _
  have hX := BoxNF.new w
  generalize (w.alloc (.cells #[.int .i64 0, .int .i64 0, .string ⟨#[]⟩] 100)).alloc (.cells #[.int .i64 0, .int .i64 0] 110) = W at hA hX ⊢
  refine (take_no _ _ _ _ _ 2 (hr.below hA) ha hc (by omega)).mono ?_
  rintro e w1 ⟨rfl, hb1⟩
  have hr1 := (hr.below hA).below hb1
  have hX1 := hX.below hb1
  go_wp2_with fail
  refine (short_any _ _ _ _ _ hr1).mono ?_
  rintro e w2 ⟨rfl, hb2⟩
  have hr2 := hr1.below hb2
  have hF2 : Frame2 w w2 B none := ((Frame2.of_below B none hA).then hb1).then hb2
  have hX2 := hX1.below hb2
  obtain ⟨⟨x0, x1, x2, f0, f1, f2⟩, ⟨y0, y1, g0, g1⟩, hs1⟩ := hX2.cells
  go_wp2
  refine bodyPost_ret (v := .tuple #[.agg #[.int .i64 0, .int .i64 0, .string ⟨#[]⟩], .agg #[.int .i64 5, .int .i64 l.length]]) (by simp [results, Try.results107, go_sem, x0, x1, x2, y0, y1]) rfl ?_
  obtain ⟨k1, k2⟩ := nr_put hr hF2 hr2 (.int .i64 0) (.int .i64 0) (.string ⟨#[]⟩) (.int .i64 5) (.int .i64 l.length)
  exact ⟨k1, by decide, rfl, _, k2⟩
end Go.Proofs.Ytpdjdaipijjeeaa
