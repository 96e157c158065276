/-
  The walks of the program's reader of nodes: take, short, stub, leaf, node.
-/
import Derived.Test.YtlndinigbppafaaGreatCodA
import Derived.Test.YtlndinigbppafaaGreatScanA
import Derived.Test.YtlndinigbppafaaGreatWire
namespace Go.Proofs.YtlndinigbppafaaGreat
open Go.RowKit

/-- A reader that lies at a block. -/
def RdAt (w : World) (B : Nat) (v : Value) (l : List UInt8) (a : Nat) : Prop :=
  w.heap[B]? = some (.cells #[v, .int .i64 a] 195 (0, 0)) ∧ BytesC w v l
theorem RdAt.below {w w' : World} {B : Nat} {v : Value} {l : List UInt8} {a : Nat} (h : RdAt w B v l a) (hb : Below w.heap.size w w') : RdAt w' B v l a :=
  ⟨by rw [hb.block _ (lt_of_heap h.1)]; exact h.1, h.2.below hb⟩
theorem RdAt.cell {w : World} {B : Nat} {v : Value} {l : List UInt8} {a : Nat} (h : RdAt w B v l a) : w.cell? ⟨B, 0, none⟩ = some v ∧ w.cell? ⟨B, 1, none⟩ = some (.int .i64 a) ∧ w.frozen? ⟨B, 1, none⟩ = false ∧ B < w.heap.size := by
  refine ⟨?_, ?_, ?_, lt_of_heap h.1⟩
  · rw [cell_of_row _ _ _ _ _ _ h.1]; rfl
  · rw [cell_of_row _ _ _ _ _ _ h.1]; rfl
  · unfold World.frozen?; rw [h.1]; simp
theorem BytesAt.set {w : World} {B j : Nat} {v u : Value} {l : List UInt8} {cur : Array Value} {fr : Nat × Nat} {t : TypeId} (h : BytesAt w v l) (hB : w.heap[B]? = some (.cells cur t fr)) (ht : t ≠ 5) : BytesAt (w.setCell ⟨B, j, none⟩ u) v l := by
  obtain ⟨ao, cap, rfl, hz, h⟩ := h
  refine ⟨ao, cap, rfl, hz, fun hl => ?_⟩
  obtain ⟨b, o, cur', fr', rfl, hlt, hc⟩ := h hl
  refine ⟨b, o, cur', fr', rfl, ?_, hc⟩
  rw [Below.heap_setCell _ _ _ _ ?_]
  · exact hlt
  · show b ≠ B
    intro e
    subst e
    rw [hB] at hlt
    simp at hlt
    exact ht hlt.2.1
theorem RdAt.set {w : World} {B : Nat} {v : Value} {l : List UInt8} {a : Nat} (h : RdAt w B v l a) (x : Nat) : RdAt (w.setCell ⟨B, 1, none⟩ (.int .i64 x)) B v l x :=
  ⟨by simp [World.setCell, Array.getElem?_modify, h.1], h.2.1.set h.1 (by decide), h.2.2⟩

set_option maxRecDepth 100000 in
set_option maxHeartbeats 1000000 in
theorem take_no (w : World) (B : Nat) (v : Value) (l : List UInt8) (a c : Nat) (h : RdAt w B v l a) (ha : a ≤ l.length) (hc : l.length < a + c) (hc2 : c ≤ 4000) :
    Calls Tryz.prog 171 #[.pointer (some ⟨B, 0, none⟩), .int .i64 c] w fun e w' => e = .returned (.tuple #[.slice none 0 0, .bool false]) ∧ Below w.heap.size w w' := by
  obtain ⟨c0, c1, z1, hB⟩ := h.cell
  obtain ⟨_, ao, cap, rfl, hlc, hcm⟩ := h.2
  go_enter Tryz.func171, Tryz.ntmps171
  go_wp2
  go_quiet (fail)
  go_wp2
  go_returns
  exact ⟨rfl, below_drewN (Below.refl _ _) _⟩

set_option maxRecDepth 100000 in
set_option maxHeartbeats 1000000 in
theorem take_ok (w : World) (B : Nat) (v : Value) (l : List UInt8) (a c : Nat) (hr : RdAt w B v l a) (hc : a + c ≤ l.length) (hl : l.length ≤ 4000) (h0 : 0 < l.length) :
    Calls Tryz.prog 171 #[.pointer (some ⟨B, 0, none⟩), .int .i64 c] w fun e w' => ∃ v', e = .returned (.tuple #[v', .bool true]) ∧ RdAt w' B v l (a + c) ∧ BytesAt w' v' ((l.drop a).take c) ∧ Frame2 w w' B none ∧ ∃ ad cp, v' = .slice (some ad) c cp := by
  obtain ⟨c0, c1, z1, hB⟩ := hr.cell
  obtain ⟨b, o, cap, rfl, hlc, hcm, hbw, hBy, hcell⟩ := hr.2.cells h0
  have Hc : Hid _ := hcell
  clear hcell
  obtain ⟨b', o', e, hB2⟩ := hBy.from a c (cap - a) hc h0
  cases e
  have HB2 : Hid _ := hB2
  clear hB2
  go_enter Tryz.func171, Tryz.ntmps171
  go_wp2
  go_quiet (fail)
  go_wp2
  go_quiet (fail)
  all_goals go_wp2
  all_goals go_returns
  all_goals rw [show ((a : Int) + (c : Int)) = ((a + c : Nat) : Int) by omega]
  · subst h
    have hc0 : c = 0 := by omega
    refine ⟨_, rfl, (hr.below (below_drewN (Below.refl _ _) _)).set _, ?_, ?_, _, _, rfl⟩
    · rw [hc0]
      exact ⟨_, _, rfl, fun h => (by cases h), fun h => (by simp at h)⟩
    · exact ((Frame2.refl w B none).then (below_drewN (Below.refl _ _) _)).set _ _ B 1 none _
  · refine ⟨_, rfl, (hr.below (below_drewN (Below.refl _ _) _)).set (a + c), (BytesAt.keep HB2.out (KeepsT.of_below (below_drewN (Below.refl _ _) _) (Nat.le_refl _))).set (hr.below (below_drewN (Below.refl _ _) _)).1 (by decide), ?_, _, _, rfl⟩
    exact ((Frame2.refl w B none).then (below_drewN (Below.refl _ _) _)).set _ _ B 1 none _

set_option maxRecDepth 100000 in
set_option maxHeartbeats 1000000 in
theorem short_any (w : World) (B : Nat) (v : Value) (l : List UInt8) (a : Nat) (hr : RdAt w B v l a) :
    Calls Tryz.prog 172 #[.pointer (some ⟨B, 0, none⟩)] w fun e w' => e = .returned (.agg #[.int .i64 5, .int .i64 l.length]) ∧ Below w.heap.size w w' := by
  obtain ⟨c0, c1, z1, hB⟩ := hr.cell
  obtain ⟨_, ao, cap, rfl, hlc, hcm⟩ := hr.2
  go_enter Tryz.func172, Tryz.ntmps172
  go_wp2
  all_goals go_returns
  all_goals exact ⟨rfl, by go_grown⟩

/-- What reading one node gives. -/
def NodeR (w w' : World) (B : Nat) (v : Value) (l : List UInt8) (e : Ending) (rd : Except (Int × Nat) (PN × Nat)) : Prop :=
  Frame2 w w' B none ∧ match rd with
  | .error (f, q) => f ≠ 0 ∧ e = .returned (.tuple #[.agg #[.int .i64 0, .int .i64 0, .string ⟨#[]⟩], .agg #[.int .i64 f, .int .i64 q]]) ∧ ∃ a, RdAt w' B v l a
  | .ok (n, a) => e = .returned (.tuple #[.agg #[.int .i64 n.kind, .int .i64 n.dig, .string n.ev], .agg #[.int .i64 0, .int .i64 0]]) ∧ RdAt w' B v l a

/-- The boxes of a node's and a fault's results. -/
def BoxNF (w : World) (X : Nat) : Prop := w.heap[X]? = some (.cells #[.int .i64 0, .int .i64 0, .string ⟨#[]⟩] 116 (0, 0)) ∧ w.heap[X + 1]? = some (.cells #[.int .i64 0, .int .i64 0] 158 (0, 0))
theorem BoxNF.new (w : World) : BoxNF ((w.alloc (.cells #[.int .i64 0, .int .i64 0, .string ⟨#[]⟩] 116)).alloc (.cells #[.int .i64 0, .int .i64 0] 158)) w.heap.size :=
  ⟨heap_old _ _ _ _ (heap_new _ _ _ rfl), heap_new _ _ _ (by simp)⟩
theorem BoxNF.below {w w' : World} {X : Nat} (h : BoxNF w X) (hb : Below w.heap.size w w') : BoxNF w' X := ⟨by rw [hb.block _ (lt_of_heap h.1)]; exact h.1, by rw [hb.block _ (lt_of_heap h.2)]; exact h.2⟩
theorem BoxNF.frame {w w' : World} {X B : Nat} (h : BoxNF w X) (hF : Frame2 w w' B none) (hB : B < X) : BoxNF w' X :=
  ⟨by rw [hF.block _ (lt_of_heap h.1) (by omega) (by simp)]; exact h.1, by rw [hF.block _ (lt_of_heap h.2) (by omega) (by simp)]; exact h.2⟩
theorem BoxNF.cells {w : World} {X : Nat} (h : BoxNF w X) : (w.cell? ⟨X, 0, none⟩ = some (.int .i64 0) ∧ w.cell? ⟨X, 1, none⟩ = some (.int .i64 0) ∧ w.cell? ⟨X, 2, none⟩ = some (.string ⟨#[]⟩) ∧ w.frozen? ⟨X, 0, none⟩ = false ∧ w.frozen? ⟨X, 1, none⟩ = false ∧ w.frozen? ⟨X, 2, none⟩ = false) ∧
    (w.cell? ⟨X + 1, 0, none⟩ = some (.int .i64 0) ∧ w.cell? ⟨X + 1, 1, none⟩ = some (.int .i64 0) ∧ w.frozen? ⟨X + 1, 0, none⟩ = false ∧ w.frozen? ⟨X + 1, 1, none⟩ = false) ∧ X + 1 < w.heap.size := by
  refine ⟨⟨?_, ?_, ?_, ?_, ?_, ?_⟩, ⟨?_, ?_, ?_, ?_⟩, lt_of_heap h.2⟩
  all_goals first
    | (rw [cell_of_row _ _ _ _ _ _ h.1]; rfl)
    | (rw [cell_of_row _ _ _ _ _ _ h.2]; rfl)
    | (unfold World.frozen?; rw [h.1]; simp; done)
    | (unfold World.frozen?; rw [h.2]; simp; done)

theorem BytesAt.frame {w w' : World} {B : Nat} {v : Value} {l : List UInt8} {cur : Array Value} {fr : Nat × Nat} {t : TypeId} (h : BytesAt w v l) (hF : Frame2 w w' B none) (hB : w.heap[B]? = some (.cells cur t fr)) (ht : t ≠ 5) : BytesAt w' v l := by
  obtain ⟨ao, cap, rfl, hz, h⟩ := h
  refine ⟨ao, cap, rfl, hz, fun hl => ?_⟩
  obtain ⟨b, o, cur', fr', rfl, hlt, hc⟩ := h hl
  refine ⟨b, o, cur', fr', rfl, ?_, hc⟩
  rw [hF.block b (lt_of_heap hlt) ?_ (by simp)]
  · exact hlt
  · intro e
    subst e
    rw [hB] at hlt
    simp at hlt
    exact ht hlt.2.1
theorem RdAt.of_frame {w w' : World} {B : Nat} {v : Value} {l : List UInt8} {a a' : Nat} (hr : RdAt w B v l a) (hF : Frame2 w w' B none) (hB : w'.heap[B]? = some (.cells #[v, .int .i64 a'] 195 (0, 0))) : RdAt w' B v l a' :=
  ⟨hB, hr.2.1.frame hF hr.1 (by decide), hr.2.2⟩
theorem Frame2.setOut {w w' : World} {B : Nat} {row : Option Nat} (h : Frame2 w w' B row) (X j : Nat) (u : Value) (hX : w.heap.size ≤ X) : Frame2 w (w'.setCell ⟨X, j, none⟩ u) B row :=
  ⟨h.os, h.tape, h.output, by simpa [World.setCell] using h.size, fun k hk hB hr => by rw [Below.heap_setCell _ _ _ _ (show k ≠ X by omega)]; exact h.block k hk hB hr⟩
/-- The results are stored. -/
theorem nr_put {w w2 : World} {B : Nat} {v : Value} {l : List UInt8} {a0 a : Nat} (hr : RdAt w B v l a0) (hF : Frame2 w w2 B none) (hr2 : RdAt w2 B v l a) (p q r s t : Value) :
    Frame2 w (((((w2.setCell ⟨w.heap.size, 0, none⟩ p).setCell ⟨w.heap.size, 1, none⟩ q).setCell ⟨w.heap.size, 2, none⟩ r).setCell ⟨w.heap.size + 1, 0, none⟩ s).setCell ⟨w.heap.size + 1, 1, none⟩ t) B none ∧
    RdAt (((((w2.setCell ⟨w.heap.size, 0, none⟩ p).setCell ⟨w.heap.size, 1, none⟩ q).setCell ⟨w.heap.size, 2, none⟩ r).setCell ⟨w.heap.size + 1, 0, none⟩ s).setCell ⟨w.heap.size + 1, 1, none⟩ t) B v l a := by
  have hBw := lt_of_heap hr.1
  have h5 := ((((hF.setOut w.heap.size 0 p (Nat.le_refl _)).setOut w.heap.size 1 q (Nat.le_refl _)).setOut w.heap.size 2 r (Nat.le_refl _)).setOut (w.heap.size + 1) 0 s (Nat.le_succ _)).setOut (w.heap.size + 1) 1 t (Nat.le_succ _)
  refine ⟨h5, hr.of_frame h5 ?_⟩
  rw [Below.heap_setCell _ _ _ _ (show B ≠ w.heap.size + 1 by omega), Below.heap_setCell _ _ _ _ (show B ≠ w.heap.size + 1 by omega), Below.heap_setCell _ _ _ _ (show B ≠ w.heap.size by omega), Below.heap_setCell _ _ _ _ (show B ≠ w.heap.size by omega), Below.heap_setCell _ _ _ _ (show B ≠ w.heap.size by omega)]
  exact hr2.1
theorem take2_get (l : List UInt8) (a : Nat) (hc : a + 2 ≤ l.length) : ((l.drop a).take 2)[0]'(by simp; omega) = l[a] ∧ ((l.drop a).take 2)[1]'(by simp; omega) = l[a + 1] := by
  constructor <;> simp

set_option maxRecDepth 100000 in
set_option maxHeartbeats 1000000 in
theorem stub_ok (w : World) (B : Nat) (v : Value) (l : List UInt8) (a : Nat) (hr : RdAt w B v l a) (hc : a + 2 ≤ l.length) (hl : l.length ≤ 4000) :
    Calls Tryz.prog 173 #[.pointer (some ⟨B, 0, none⟩)] w fun e w' => NodeR w w' B v l e (.ok (⟨0, num2 l[a] l[a + 1], ByteArray.empty⟩, a + 2)) := by
  have hBw := lt_of_heap hr.1
  go_enter Tryz.func173, Tryz.ntmps173
  go_wp2_with fail
  have hA : Below w.heap.size w ((w.alloc (.cells #[.int .i64 0, .int .i64 0, .string ⟨#[]⟩] 116)).alloc (.cells #[.int .i64 0, .int .i64 0] 158)) := ((Below.refl _ _).alloc (Nat.le_refl _) _).alloc (by simp) _
  have hX := BoxNF.new w
  generalize (w.alloc (.cells #[.int .i64 0, .int .i64 0, .string ⟨#[]⟩] 116)).alloc (.cells #[.int .i64 0, .int .i64 0] 158) = W at hA hX ⊢
  refine (take_ok _ _ _ _ _ 2 (hr.below hA) hc hl (by omega)).mono ?_
  rintro e w1 ⟨v', rfl, hr1, hB1, hF1, _⟩
  have hX1 := hX.frame hF1 hBw
  obtain ⟨⟨x0, x1, x2, f0, f1, f2⟩, ⟨y0, y1, g0, g1⟩, hs1⟩ := hX1.cells
  go_wp2_with fail
  refine (number2_any _ _ _ hB1 (by simp; omega)).mono ?_
  rintro e w2 ⟨rfl, hb2⟩
  rw [(take2_get l a hc).1, (take2_get l a hc).2]
  have hr2 := hr1.below hb2
  have hF2 : Frame2 w w2 B none := ((Frame2.of_below B none hA).trans hF1).then hb2
  have hX2 := hX1.below hb2
  clear x0 x1 x2 f0 f1 f2 y0 y1 g0 g1 hs1
  obtain ⟨⟨x0, x1, x2, f0, f1, f2⟩, ⟨y0, y1, g0, g1⟩, hs1⟩ := hX2.cells
  go_wp2
  refine bodyPost_ret (v := .tuple #[.agg #[.int .i64 0, .int .i64 (num2 l[a] l[a + 1]), .string ⟨#[]⟩], .agg #[.int .i64 0, .int .i64 0]]) (by simp [results, Tryz.results173, go_sem, x0, x1, x2, y0, y1]) rfl ?_
  obtain ⟨k1, k2⟩ := nr_put hr hF2 hr2 (.int .i64 0) (.int .i64 (num2 l[a] l[a + 1])) (.string ⟨#[]⟩) (.int .i64 0) (.int .i64 0)
  exact ⟨k1, rfl, k2⟩

set_option maxRecDepth 100000 in
set_option maxHeartbeats 1000000 in
theorem stub_no (w : World) (B : Nat) (v : Value) (l : List UInt8) (a : Nat) (hr : RdAt w B v l a) (ha : a ≤ l.length) (hc : l.length < a + 2) :
    Calls Tryz.prog 173 #[.pointer (some ⟨B, 0, none⟩)] w fun e w' => NodeR w w' B v l e (.error (5, l.length)) := by
  have hBw := lt_of_heap hr.1
  go_enter Tryz.func173, Tryz.ntmps173
  go_wp2_with fail
  have hA : Below w.heap.size w ((w.alloc (.cells #[.int .i64 0, .int .i64 0, .string ⟨#[]⟩] 116)).alloc (.cells #[.int .i64 0, .int .i64 0] 158)) := ((Below.refl _ _).alloc (Nat.le_refl _) _).alloc (by simp) _
  have hX := BoxNF.new w
  generalize (w.alloc (.cells #[.int .i64 0, .int .i64 0, .string ⟨#[]⟩] 116)).alloc (.cells #[.int .i64 0, .int .i64 0] 158) = W at hA hX ⊢
  refine (take_no _ _ _ _ _ 2 (hr.below hA) ha hc (by omega)).mono ?_
  rintro e w1 ⟨rfl, hb1⟩
  have hr1 := (hr.below hA).below hb1
  have hX1 := hX.below hb1
  go_wp2_with fail
  refine (short_any _ _ _ _ _ hr1).mono ?_
  rintro e w2 ⟨rfl, hb2⟩
  have hr2 := hr1.below hb2
  have hF2 : Frame2 w w2 B none := ((Frame2.of_below B none hA).then hb1).then hb2
  have hX2 := hX1.below hb2
  obtain ⟨⟨x0, x1, x2, f0, f1, f2⟩, ⟨y0, y1, g0, g1⟩, hs1⟩ := hX2.cells
  go_wp2
  refine bodyPost_ret (v := .tuple #[.agg #[.int .i64 0, .int .i64 0, .string ⟨#[]⟩], .agg #[.int .i64 5, .int .i64 l.length]]) (by simp [results, Tryz.results173, go_sem, x0, x1, x2, y0, y1]) rfl ?_
  obtain ⟨k1, k2⟩ := nr_put hr hF2 hr2 (.int .i64 0) (.int .i64 0) (.string ⟨#[]⟩) (.int .i64 5) (.int .i64 l.length)
  exact ⟨k1, by decide, rfl, _, k2⟩
end Go.Proofs.YtlndinigbppafaaGreat

/-
  The walks of the program's reader of nodes: a leaf, a node.
-/
namespace Go.Proofs.YtlndinigbppafaaGreat
open Go.RowKit

theorem conv_slice (u : World) (l : List UInt8) (ad : Addr) (cp : Nat) (h : BytesAt u (.slice (some ad) l.length cp) l) : (convert 27 9 (.slice (some ad) l.length cp)).run Tryz.prog u = .ok (.string ⟨l.toArray⟩) u := by
  refine run_convert_bytes_back _ _ _ 5 _ _ l Tryz.underlying27 Tryz.underlying5 Tryz.underlying9 fun j hj => ?_
  obtain ⟨ao, cap, e, _, hc⟩ := h.cells
  simp only [Value.slice.injEq] at e
  obtain ⟨rfl, -, -⟩ := e
  obtain ⟨b, o, e, hcell⟩ := hc (by omega)
  cases e
  rw [show (⟨b, o, none⟩ : Addr).add j = ⟨b, o + j, none⟩ by unfold Addr.add; split <;> simp_all]
  exact hcell j hj

set_option maxRecDepth 100000 in
set_option maxHeartbeats 1000000 in
theorem leaf_no1 (w : World) (B : Nat) (v : Value) (l : List UInt8) (a : Nat) (st : Int) (hr : RdAt w B v l a) (ha : a ≤ l.length) (hc : l.length < a + 1) :
    Calls Tryz.prog 174 #[.pointer (some ⟨B, 0, none⟩), .int .i64 st] w fun e w' => NodeR w w' B v l e (.error (5, l.length)) := by
  have hBw := lt_of_heap hr.1
  go_enter Tryz.func174, Tryz.ntmps174
  go_wp2_with fail
  have hA : Below w.heap.size w ((w.alloc (.cells #[.int .i64 0, .int .i64 0, .string ⟨#[]⟩] 116)).alloc (.cells #[.int .i64 0, .int .i64 0] 158)) := ((Below.refl _ _).alloc (Nat.le_refl _) _).alloc (by simp) _
  have hX := BoxNF.new w
  generalize (w.alloc (.cells #[.int .i64 0, .int .i64 0, .string ⟨#[]⟩] 116)).alloc (.cells #[.int .i64 0, .int .i64 0] 158) = W at hA hX ⊢
  refine (take_no _ _ _ _ _ 1 (hr.below hA) ha hc (by omega)).mono ?_
  rintro e w1 ⟨rfl, hb1⟩
  have hr1 := (hr.below hA).below hb1
  have hX1 := hX.below hb1
  go_wp2_with fail
  refine (short_any _ _ _ _ _ hr1).mono ?_
  rintro e w2 ⟨rfl, hb2⟩
  have hr2 := hr1.below hb2
  have hF2 : Frame2 w w2 B none := ((Frame2.of_below B none hA).then hb1).then hb2
  have hX2 := hX1.below hb2
  obtain ⟨⟨x0, x1, x2, f0, f1, f2⟩, ⟨y0, y1, g0, g1⟩, hs1⟩ := hX2.cells
  go_wp2
  refine bodyPost_ret (v := .tuple #[.agg #[.int .i64 0, .int .i64 0, .string ⟨#[]⟩], .agg #[.int .i64 5, .int .i64 l.length]]) (by simp [results, Tryz.results174, go_sem, x0, x1, x2, y0, y1]) rfl ?_
  obtain ⟨k1, k2⟩ := nr_put hr hF2 hr2 (.int .i64 0) (.int .i64 0) (.string ⟨#[]⟩) (.int .i64 5) (.int .i64 l.length)
  exact ⟨k1, by decide, rfl, _, k2⟩

theorem take1_get (l : List UInt8) (a : Nat) (hc : a + 1 ≤ l.length) : ((l.drop a).take 1)[0]'(by simp; omega) = l[a] := by simp

set_option maxRecDepth 100000 in
set_option maxHeartbeats 1000000 in
theorem cleaf_long (w : World) (B : Nat) (v : Value) (l : List UInt8) (a st : Nat) (hr : RdAt w B v l a) (hc : a + 1 ≤ l.length) (hl : l.length ≤ 4000) (hz : 50 < l[a].toNat) :
    Calls Tryz.prog 174 #[.pointer (some ⟨B, 0, none⟩), .int .i64 st] w fun e w' => NodeR w w' B v l e (.error (2, st)) := by
  have hBw := lt_of_heap hr.1
  go_enter Tryz.func174, Tryz.ntmps174
  go_wp2_with fail
  have hA : Below w.heap.size w ((w.alloc (.cells #[.int .i64 0, .int .i64 0, .string ⟨#[]⟩] 116)).alloc (.cells #[.int .i64 0, .int .i64 0] 158)) := ((Below.refl _ _).alloc (Nat.le_refl _) _).alloc (by simp) _
  have hX := BoxNF.new w
  generalize (w.alloc (.cells #[.int .i64 0, .int .i64 0, .string ⟨#[]⟩] 116)).alloc (.cells #[.int .i64 0, .int .i64 0] 158) = W at hA hX ⊢
  refine (take_ok _ _ _ _ _ 1 (hr.below hA) hc hl (by omega)).mono ?_
  rintro e w1 ⟨v', rfl, hr1, hB1, hF1, ad, cp, rfl⟩
  have hX1 := hX.frame hF1 hBw
  have hF2 : Frame2 w w1 B none := (Frame2.of_below B none hA).trans hF1
  obtain ⟨⟨x0, x1, x2, f0, f1, f2⟩, ⟨y0, y1, g0, g1⟩, hs1⟩ := hX1.cells
  obtain ⟨ao, cap', e, _, hcc⟩ := hB1.cells
  simp only [Value.slice.injEq] at e
  obtain ⟨rfl, -, -⟩ := e
  obtain ⟨b, o, e, hcell⟩ := hcc (by simp; omega)
  cases e
  have c0 := hcell 0 (by simp; omega)
  rw [take1_get l a hc, Nat.add_zero] at c0
  clear hcell hcc
  go_wp2
  refine bodyPost_ret (v := .tuple #[.agg #[.int .i64 0, .int .i64 0, .string ⟨#[]⟩], .agg #[.int .i64 2, .int .i64 st]]) (by simp [results, Tryz.results174, go_sem, x0, x1, x2, y0, y1]) rfl ?_
  obtain ⟨k1, k2⟩ := nr_put hr hF2 hr1 (.int .i64 0) (.int .i64 0) (.string ⟨#[]⟩) (.int .i64 2) (.int .i64 st)
  exact ⟨k1, by decide, rfl, _, k2⟩

set_option maxRecDepth 100000 in
set_option maxHeartbeats 1000000 in
theorem leaf_no2 (w : World) (B : Nat) (v : Value) (l : List UInt8) (a : Nat) (st : Int) (hr : RdAt w B v l a) (hc : a + 1 ≤ l.length) (hl : l.length ≤ 4000) (hz : l[a].toNat ≤ 50) (hs : l.length < a + 1 + l[a].toNat) :
    Calls Tryz.prog 174 #[.pointer (some ⟨B, 0, none⟩), .int .i64 st] w fun e w' => NodeR w w' B v l e (.error (5, l.length)) := by
  have hBw := lt_of_heap hr.1
  go_enter Tryz.func174, Tryz.ntmps174
  go_wp2_with fail
  have hA : Below w.heap.size w ((w.alloc (.cells #[.int .i64 0, .int .i64 0, .string ⟨#[]⟩] 116)).alloc (.cells #[.int .i64 0, .int .i64 0] 158)) := ((Below.refl _ _).alloc (Nat.le_refl _) _).alloc (by simp) _
  have hX := BoxNF.new w
  generalize (w.alloc (.cells #[.int .i64 0, .int .i64 0, .string ⟨#[]⟩] 116)).alloc (.cells #[.int .i64 0, .int .i64 0] 158) = W at hA hX ⊢
  refine (take_ok _ _ _ _ _ 1 (hr.below hA) hc hl (by omega)).mono ?_
  rintro e w1 ⟨v', rfl, hr1, hB1, hF1, ad, cp, rfl⟩
  have hX1 := hX.frame hF1 hBw
  have hF2 : Frame2 w w1 B none := (Frame2.of_below B none hA).trans hF1
  obtain ⟨ao, cap', e, _, hcc⟩ := hB1.cells
  simp only [Value.slice.injEq] at e
  obtain ⟨rfl, -, -⟩ := e
  obtain ⟨b, o, e, hcell⟩ := hcc (by simp; omega)
  cases e
  have c0 := hcell 0 (by simp; omega)
  rw [take1_get l a hc, Nat.add_zero] at c0
  clear hcell hcc
  generalize hzz : l[a].toNat = z at *
  have TK := take_no w1 B v l (a + 1) z hr1 hc hs (by omega)
  go_wp2_with fail
  refine TK.mono ?_
  rintro e w2 ⟨rfl, hb2⟩
  have hr2 := hr1.below hb2
  have hX2 := hX1.below hb2
  go_wp2_with fail
  refine (short_any _ _ _ _ _ hr2).mono ?_
  rintro e w3 ⟨rfl, hb3⟩
  have hr3 := hr2.below hb3
  have hX3 := hX2.below hb3
  have hF3 := (hF2.then hb2).then hb3
  obtain ⟨⟨x0, x1, x2, f0, f1, f2⟩, ⟨y0, y1, g0, g1⟩, hs1⟩ := hX3.cells
  go_wp2
  refine bodyPost_ret (v := .tuple #[.agg #[.int .i64 0, .int .i64 0, .string ⟨#[]⟩], .agg #[.int .i64 5, .int .i64 l.length]]) (by simp [results, Tryz.results174, go_sem, x0, x1, x2, y0, y1]) rfl ?_
  obtain ⟨k1, k2⟩ := nr_put hr hF3 hr3 (.int .i64 0) (.int .i64 0) (.string ⟨#[]⟩) (.int .i64 5) (.int .i64 l.length)
  exact ⟨k1, by decide, rfl, _, k2⟩

set_option maxRecDepth 100000 in
set_option maxHeartbeats 1000000 in
theorem cleaf_ok (w : World) (B : Nat) (v : Value) (l : List UInt8) (a : Nat) (st : Int) (hr : RdAt w B v l a) (hc : a + 1 ≤ l.length) (hl : l.length ≤ 4000) (hz : l[a].toNat ≤ 50) (hs : a + 1 + l[a].toNat ≤ l.length) :
    Calls Tryz.prog 174 #[.pointer (some ⟨B, 0, none⟩), .int .i64 st] w fun e w' => NodeR w w' B v l e (.ok (⟨1, 0, ⟨((l.drop (a + 1)).take l[a].toNat).toArray⟩⟩, a + 1 + l[a].toNat)) := by
  have hBw := lt_of_heap hr.1
  go_enter Tryz.func174, Tryz.ntmps174
  go_wp2_with fail
  have hA : Below w.heap.size w ((w.alloc (.cells #[.int .i64 0, .int .i64 0, .string ⟨#[]⟩] 116)).alloc (.cells #[.int .i64 0, .int .i64 0] 158)) := ((Below.refl _ _).alloc (Nat.le_refl _) _).alloc (by simp) _
  have hX := BoxNF.new w
  generalize (w.alloc (.cells #[.int .i64 0, .int .i64 0, .string ⟨#[]⟩] 116)).alloc (.cells #[.int .i64 0, .int .i64 0] 158) = W at hA hX ⊢
  refine (take_ok _ _ _ _ _ 1 (hr.below hA) hc hl (by omega)).mono ?_
  rintro e w1 ⟨v', rfl, hr1, hB1, hF1, ad, cp, rfl⟩
  have hX1 := hX.frame hF1 hBw
  have hF2 : Frame2 w w1 B none := (Frame2.of_below B none hA).trans hF1
  obtain ⟨ao, cap', e, _, hcc⟩ := hB1.cells
  simp only [Value.slice.injEq] at e
  obtain ⟨rfl, -, -⟩ := e
  obtain ⟨b, o, e, hcell⟩ := hcc (by simp; omega)
  cases e
  have c0 := hcell 0 (by simp; omega)
  rw [take1_get l a hc, Nat.add_zero] at c0
  clear hcell hcc
  generalize hzz : l[a].toNat = z at *
  have TK := take_ok w1 B v l (a + 1) z hr1 (by omega) hl (by omega)
  go_wp2_with fail
  refine TK.mono ?_
  rintro e w2 ⟨v2, rfl, hr2, hB2, hF2', ad2, cp2, rfl⟩
  have hX2 := hX1.frame hF2' hBw
  have hF3 : Frame2 w w2 B none := hF2.trans hF2'
  obtain ⟨⟨x0, x1, x2, f0, f1, f2⟩, ⟨y0, y1, g0, g1⟩, hs1⟩ := hX2.cells
  have hlen : ((l.drop (a + 1)).take z).length = z := by simp; omega
  have hcv : (convert 27 9 (.slice (some ad2) z cp2)).run Tryz.prog w2 = .ok (.string ⟨((l.drop (a + 1)).take z).toArray⟩) w2 := by
    have := conv_slice w2 ((l.drop (a + 1)).take z) ad2 cp2 (by rw [hlen]; exact hB2)
    rwa [hlen] at this
  clear TK
  go_wp2
  refine bodyPost_ret (v := .tuple #[.agg #[.int .i64 1, .int .i64 0, .string ⟨((l.drop (a + 1)).take z).toArray⟩], .agg #[.int .i64 0, .int .i64 0]]) (by simp [results, Tryz.results174, go_sem, x0, x1, x2, y0, y1]) rfl ?_
  obtain ⟨k1, k2⟩ := nr_put hr hF3 hr2 (.int .i64 1) (.int .i64 0) (.string ⟨((l.drop (a + 1)).take z).toArray⟩) (.int .i64 0) (.int .i64 0)
  subst hzz
  exact ⟨k1, rfl, k2⟩
end Go.Proofs.YtlndinigbppafaaGreat

/-
  The walk of the program's reader of a node.
-/
namespace Go.Proofs.YtlndinigbppafaaGreat
open Go.RowKit

set_option maxRecDepth 100000 in
set_option maxHeartbeats 1000000 in
theorem nd_end (w : World) (B : Nat) (v : Value) (l : List UInt8) (a : Nat) (k : Int) (hr : RdAt w B v l a) (ha : a ≤ l.length) (hc : l.length < a + 1) :
    Calls Tryz.prog 155 #[.pointer (some ⟨B, 0, none⟩), .int .i64 k] w fun e w' => NodeR w w' B v l e (.error (5, l.length)) := by
  have hBw := lt_of_heap hr.1
  obtain ⟨r0, r1, rz, rB⟩ := hr.cell
  go_enter Tryz.func155, Tryz.ntmps155
  go_wp2_with fail
  have hA : Below w.heap.size w ((w.alloc (.cells #[.int .i64 0, .int .i64 0, .string ⟨#[]⟩] 116)).alloc (.cells #[.int .i64 0, .int .i64 0] 158)) := ((Below.refl _ _).alloc (Nat.le_refl _) _).alloc (by simp) _
  have hX := BoxNF.new w
  generalize (w.alloc (.cells #[.int .i64 0, .int .i64 0, .string ⟨#[]⟩] 116)).alloc (.cells #[.int .i64 0, .int .i64 0] 158) = W at hA hX ⊢
  refine (take_no _ _ _ _ _ 1 (hr.below hA) ha hc (by omega)).mono ?_
  rintro e w1 ⟨rfl, hb1⟩
  have hr1 := (hr.below hA).below hb1
  have hX1 := hX.below hb1
  go_wp2_with fail
  refine (short_any _ _ _ _ _ hr1).mono ?_
  rintro e w2 ⟨rfl, hb2⟩
  have hr2 := hr1.below hb2
  have hF2 : Frame2 w w2 B none := ((Frame2.of_below B none hA).then hb1).then hb2
  have hX2 := hX1.below hb2
  obtain ⟨⟨x0, x1, x2, f0, f1, f2⟩, ⟨y0, y1, g0, g1⟩, hs1⟩ := hX2.cells
  go_wp2
  refine bodyPost_ret (v := .tuple #[.agg #[.int .i64 0, .int .i64 0, .string ⟨#[]⟩], .agg #[.int .i64 5, .int .i64 l.length]]) (by simp [results, Tryz.results155, go_sem, x0, x1, x2, y0, y1]) rfl ?_
  obtain ⟨k1, k2⟩ := nr_put hr hF2 hr2 (.int .i64 0) (.int .i64 0) (.string ⟨#[]⟩) (.int .i64 5) (.int .i64 l.length)
  exact ⟨k1, by decide, rfl, _, k2⟩

set_option maxRecDepth 100000 in
set_option maxHeartbeats 1000000 in
theorem nd_shape (w : World) (B : Nat) (v : Value) (l : List UInt8) (a : Nat) (k : Int) (hr : RdAt w B v l a) (hc : a + 1 ≤ l.length) (hl : l.length ≤ 4000) (hk : (l[a].toNat : Int) ≠ k) :
    Calls Tryz.prog 155 #[.pointer (some ⟨B, 0, none⟩), .int .i64 k] w fun e w' => NodeR w w' B v l e (.error (7, a)) := by
  have hBw := lt_of_heap hr.1
  obtain ⟨r0, r1, rz, rB⟩ := hr.cell
  go_enter Tryz.func155, Tryz.ntmps155
  go_wp2_with fail
  have hA : Below w.heap.size w ((w.alloc (.cells #[.int .i64 0, .int .i64 0, .string ⟨#[]⟩] 116)).alloc (.cells #[.int .i64 0, .int .i64 0] 158)) := ((Below.refl _ _).alloc (Nat.le_refl _) _).alloc (by simp) _
  have hX := BoxNF.new w
  generalize (w.alloc (.cells #[.int .i64 0, .int .i64 0, .string ⟨#[]⟩] 116)).alloc (.cells #[.int .i64 0, .int .i64 0] 158) = W at hA hX ⊢
  refine (take_ok _ _ _ _ _ 1 (hr.below hA) hc hl (by omega)).mono ?_
  rintro e w1 ⟨v', rfl, hr1, hB1, hF1, ad, cp, rfl⟩
  have hX1 := hX.frame hF1 hBw
  have hF2 : Frame2 w w1 B none := (Frame2.of_below B none hA).trans hF1
  obtain ⟨ao, cap', e, _, hcc⟩ := hB1.cells
  simp only [Value.slice.injEq] at e
  obtain ⟨rfl, -, -⟩ := e
  obtain ⟨b, o, e, hcell⟩ := hcc (by simp; omega)
  cases e
  have c0 := hcell 0 (by simp; omega)
  rw [take1_get l a hc, Nat.add_zero] at c0
  clear hcell hcc
  obtain ⟨⟨x0, x1, x2, f0, f1, f2⟩, ⟨y0, y1, g0, g1⟩, hs1⟩ := hX1.cells
  have hzb := l[a].toNat_lt
  have hz0 : (0 : Int) ≤ (l[a].toNat : Int) := by omega
  have hz1 : (l[a].toNat : Int) ≤ 255 := by omega
  clear hzb
  generalize (l[a].toNat : Int) = z at hk c0 hz0 hz1
  have hkb : (z == k) = false := beq_eq_false_iff_ne.2 hk
  have hkn : (z != k) = true := by rw [bne, hkb]; rfl
  go_wp2
  refine bodyPost_ret (v := .tuple #[.agg #[.int .i64 0, .int .i64 0, .string ⟨#[]⟩], .agg #[.int .i64 7, .int .i64 a]]) (by simp [results, Tryz.results155, go_sem, x0, x1, x2, y0, y1]) rfl ?_
  obtain ⟨k1, k2⟩ := nr_put hr hF2 hr1 (.int .i64 0) (.int .i64 0) (.string ⟨#[]⟩) (.int .i64 7) (.int .i64 a)
  exact ⟨k1, by decide, rfl, _, k2⟩

set_option maxRecDepth 100000 in
set_option maxHeartbeats 1000000 in
theorem nd_plain (w : World) (B : Nat) (v : Value) (l : List UInt8) (a : Nat) (k : Int) (hr : RdAt w B v l a) (hc : a + 1 ≤ l.length) (hl : l.length ≤ 4000) (hk : (l[a].toNat : Int) = k) (h2 : 2 ≤ k) :
    Calls Tryz.prog 155 #[.pointer (some ⟨B, 0, none⟩), .int .i64 k] w fun e w' => NodeR w w' B v l e (.ok (⟨k, 0, ByteArray.empty⟩, a + 1)) := by
  have hk0 : (k == 0) = false := beq_eq_false_iff_ne.2 (by omega)
  have hk1 : (k == 1) = false := beq_eq_false_iff_ne.2 (by omega)
  have hkw : wrap64 k = k := by have := l[a].toNat_lt; go_arith
  have hBw := lt_of_heap hr.1
  obtain ⟨r0, r1, rz, rB⟩ := hr.cell
  go_enter Tryz.func155, Tryz.ntmps155
  go_wp2_with fail
  have hA : Below w.heap.size w ((w.alloc (.cells #[.int .i64 0, .int .i64 0, .string ⟨#[]⟩] 116)).alloc (.cells #[.int .i64 0, .int .i64 0] 158)) := ((Below.refl _ _).alloc (Nat.le_refl _) _).alloc (by simp) _
  have hX := BoxNF.new w
  generalize (w.alloc (.cells #[.int .i64 0, .int .i64 0, .string ⟨#[]⟩] 116)).alloc (.cells #[.int .i64 0, .int .i64 0] 158) = W at hA hX ⊢
  refine (take_ok _ _ _ _ _ 1 (hr.below hA) hc hl (by omega)).mono ?_
  rintro e w1 ⟨v', rfl, hr1, hB1, hF1, ad, cp, rfl⟩
  have hX1 := hX.frame hF1 hBw
  have hF2 : Frame2 w w1 B none := (Frame2.of_below B none hA).trans hF1
  obtain ⟨ao, cap', e, _, hcc⟩ := hB1.cells
  simp only [Value.slice.injEq] at e
  obtain ⟨rfl, -, -⟩ := e
  obtain ⟨b, o, e, hcell⟩ := hcc (by simp; omega)
  cases e
  have c0 := hcell 0 (by simp; omega)
  rw [take1_get l a hc, Nat.add_zero] at c0
  clear hcell hcc
  rw [hk] at c0
  obtain ⟨⟨x0, x1, x2, f0, f1, f2⟩, ⟨y0, y1, g0, g1⟩, hs1⟩ := hX1.cells
  go_wp2
  refine bodyPost_ret (v := .tuple #[.agg #[.int .i64 k, .int .i64 0, .string ⟨#[]⟩], .agg #[.int .i64 0, .int .i64 0]]) (by simp [results, Tryz.results155, go_sem, x0, x1, x2, y0, y1]) rfl ?_
  obtain ⟨k1, k2⟩ := nr_put hr hF2 hr1 (.int .i64 k) (.int .i64 0) (.string ⟨#[]⟩) (.int .i64 0) (.int .i64 0)
  exact ⟨k1, rfl, k2⟩

set_option maxRecDepth 100000 in
set_option maxHeartbeats 1000000 in
theorem nd_stub (w : World) (B : Nat) (v : Value) (l : List UInt8) (a : Nat) (hr : RdAt w B v l a) (hc : a + 1 ≤ l.length) (hl : l.length ≤ 4000) (hk : (l[a].toNat : Int) = 0) (rd : Except (Int × Nat) (PN × Nat))
    (hst : ∀ w : World, RdAt w B v l (a + 1) → Calls Tryz.prog 173 #[.pointer (some ⟨B, 0, none⟩)] w fun e w' => NodeR w w' B v l e rd) :
    Calls Tryz.prog 155 #[.pointer (some ⟨B, 0, none⟩), .int .i64 0] w fun e w' => NodeR w w' B v l e rd := by
  have HST : Hid _ := hst
  clear hst
  have hBw := lt_of_heap hr.1
  obtain ⟨r0, r1, rz, rB⟩ := hr.cell
  go_enter Tryz.func155, Tryz.ntmps155
  go_wp2_with fail
  have hA : Below w.heap.size w ((w.alloc (.cells #[.int .i64 0, .int .i64 0, .string ⟨#[]⟩] 116)).alloc (.cells #[.int .i64 0, .int .i64 0] 158)) := ((Below.refl _ _).alloc (Nat.le_refl _) _).alloc (by simp) _
  have hX := BoxNF.new w
  generalize (w.alloc (.cells #[.int .i64 0, .int .i64 0, .string ⟨#[]⟩] 116)).alloc (.cells #[.int .i64 0, .int .i64 0] 158) = W at hA hX ⊢
  refine (take_ok _ _ _ _ _ 1 (hr.below hA) hc hl (by omega)).mono ?_
  rintro e w1 ⟨v', rfl, hr1, hB1, hF1, ad, cp, rfl⟩
  have hX1 := hX.frame hF1 hBw
  have hF2 : Frame2 w w1 B none := (Frame2.of_below B none hA).trans hF1
  obtain ⟨ao, cap', e, _, hcc⟩ := hB1.cells
  simp only [Value.slice.injEq] at e
  obtain ⟨rfl, -, -⟩ := e
  obtain ⟨b, o, e, hcell⟩ := hcc (by simp; omega)
  cases e
  have c0 := hcell 0 (by simp; omega)
  rw [take1_get l a hc, Nat.add_zero] at c0
  clear hcell hcc
  rw [hk] at c0
  go_wp2_with fail
  refine (HST.out _ hr1).mono ?_
  rintro e w2 ⟨hF3, hout⟩
  have hX2 := hX1.frame hF3 hBw
  have hF4 := hF2.trans hF3
  obtain ⟨⟨x0, x1, x2, f0, f1, f2⟩, ⟨y0, y1, g0, g1⟩, hs1⟩ := hX2.cells
  cases rd with
  | error y =>
    obtain ⟨f, q⟩ := y
    obtain ⟨hne, rfl, a', hr2⟩ := hout
    go_wp2
    refine bodyPost_ret (v := .tuple #[.agg #[.int .i64 0, .int .i64 0, .string ⟨#[]⟩], .agg #[.int .i64 f, .int .i64 q]]) (by simp [results, Tryz.results155, go_sem, x0, x1, x2, y0, y1]) rfl ?_
    obtain ⟨k1, k2⟩ := nr_put hr hF4 hr2 (.int .i64 0) (.int .i64 0) (.string ⟨#[]⟩) (.int .i64 f) (.int .i64 q)
    exact ⟨k1, hne, rfl, _, k2⟩
  | ok y =>
    obtain ⟨n, a'⟩ := y
    obtain ⟨rfl, hr2⟩ := hout
    go_wp2
    refine bodyPost_ret (v := .tuple #[.agg #[.int .i64 n.kind, .int .i64 n.dig, .string n.ev], .agg #[.int .i64 0, .int .i64 0]]) (by simp [results, Tryz.results155, go_sem, x0, x1, x2, y0, y1]) rfl ?_
    obtain ⟨k1, k2⟩ := nr_put hr hF4 hr2 (.int .i64 n.kind) (.int .i64 n.dig) (.string n.ev) (.int .i64 0) (.int .i64 0)
    exact ⟨k1, rfl, k2⟩

set_option maxRecDepth 100000 in
set_option maxHeartbeats 1000000 in
theorem nd_leaf (w : World) (B : Nat) (v : Value) (l : List UInt8) (a : Nat) (hr : RdAt w B v l a) (hc : a + 1 ≤ l.length) (hl : l.length ≤ 4000) (hk : (l[a].toNat : Int) = 1) (rd : Except (Int × Nat) (PN × Nat))
    (hst : ∀ w : World, RdAt w B v l (a + 1) → Calls Tryz.prog 174 #[.pointer (some ⟨B, 0, none⟩), .int .i64 a] w fun e w' => NodeR w w' B v l e rd) :
    Calls Tryz.prog 155 #[.pointer (some ⟨B, 0, none⟩), .int .i64 1] w fun e w' => NodeR w w' B v l e rd := by
  have HST : Hid _ := hst
  clear hst
  have hBw := lt_of_heap hr.1
  obtain ⟨r0, r1, rz, rB⟩ := hr.cell
  go_enter Tryz.func155, Tryz.ntmps155
  go_wp2_with fail
  have hA : Below w.heap.size w ((w.alloc (.cells #[.int .i64 0, .int .i64 0, .string ⟨#[]⟩] 116)).alloc (.cells #[.int .i64 0, .int .i64 0] 158)) := ((Below.refl _ _).alloc (Nat.le_refl _) _).alloc (by simp) _
  have hX := BoxNF.new w
  generalize (w.alloc (.cells #[.int .i64 0, .int .i64 0, .string ⟨#[]⟩] 116)).alloc (.cells #[.int .i64 0, .int .i64 0] 158) = W at hA hX ⊢
  refine (take_ok _ _ _ _ _ 1 (hr.below hA) hc hl (by omega)).mono ?_
  rintro e w1 ⟨v', rfl, hr1, hB1, hF1, ad, cp, rfl⟩
  have hX1 := hX.frame hF1 hBw
  have hF2 : Frame2 w w1 B none := (Frame2.of_below B none hA).trans hF1
  obtain ⟨ao, cap', e, _, hcc⟩ := hB1.cells
  simp only [Value.slice.injEq] at e
  obtain ⟨rfl, -, -⟩ := e
  obtain ⟨b, o, e, hcell⟩ := hcc (by simp; omega)
  cases e
  have c0 := hcell 0 (by simp; omega)
  rw [take1_get l a hc, Nat.add_zero] at c0
  clear hcell hcc
  rw [hk] at c0
  go_wp2_with fail
  refine (HST.out _ hr1).mono ?_
  rintro e w2 ⟨hF3, hout⟩
  have hX2 := hX1.frame hF3 hBw
  have hF4 := hF2.trans hF3
  obtain ⟨⟨x0, x1, x2, f0, f1, f2⟩, ⟨y0, y1, g0, g1⟩, hs1⟩ := hX2.cells
  cases rd with
  | error y =>
    obtain ⟨f, q⟩ := y
    obtain ⟨hne, rfl, a', hr2⟩ := hout
    go_wp2
    refine bodyPost_ret (v := .tuple #[.agg #[.int .i64 0, .int .i64 0, .string ⟨#[]⟩], .agg #[.int .i64 f, .int .i64 q]]) (by simp [results, Tryz.results155, go_sem, x0, x1, x2, y0, y1]) rfl ?_
    obtain ⟨k1, k2⟩ := nr_put hr hF4 hr2 (.int .i64 0) (.int .i64 0) (.string ⟨#[]⟩) (.int .i64 f) (.int .i64 q)
    exact ⟨k1, hne, rfl, _, k2⟩
  | ok y =>
    obtain ⟨n, a'⟩ := y
    obtain ⟨rfl, hr2⟩ := hout
    go_wp2
    refine bodyPost_ret (v := .tuple #[.agg #[.int .i64 n.kind, .int .i64 n.dig, .string n.ev], .agg #[.int .i64 0, .int .i64 0]]) (by simp [results, Tryz.results155, go_sem, x0, x1, x2, y0, y1]) rfl ?_
    obtain ⟨k1, k2⟩ := nr_put hr hF4 hr2 (.int .i64 n.kind) (.int .i64 n.dig) (.string n.ev) (.int .i64 0) (.int .i64 0)
    exact ⟨k1, rfl, k2⟩

theorem nd_any (w : World) (B : Nat) (v : Value) (l : List UInt8) (a : Nat) (k : Int) (hr : RdAt w B v l a) (ha : a ≤ l.length) (hl : l.length ≤ 4000) (h0 : 0 ≤ k) (h3 : k ≤ 3) :
    Calls Tryz.prog 155 #[.pointer (some ⟨B, 0, none⟩), .int .i64 k] w fun e w' => NodeR w w' B v l e (rd1 l k a) := by
  unfold rd1
  by_cases hc : a + 1 ≤ l.length
  · rw [List.getElem?_eq_getElem (show a < l.length by omega)]
    simp only
    by_cases hk : (l[a].toNat : Int) ≠ k
    · rw [if_pos hk]
      exact nd_shape w B v l a k hr hc hl hk
    · rw [if_neg hk]
      have hk' : (l[a].toNat : Int) = k := by omega
      by_cases k0 : k = 0
      · subst k0
        rw [if_pos rfl]
        refine nd_stub w B v l a hr hc hl hk' _ fun w' hr' => ?_
        by_cases h2 : a + 1 + 2 ≤ l.length
        · rw [List.getElem?_eq_getElem (show a + 1 < l.length by omega), List.getElem?_eq_getElem (show a + 2 < l.length by omega)]
          exact stub_ok w' B v l (a + 1) hr' h2 hl
        · rw [List.getElem?_eq_none (show l.length ≤ a + 2 by omega)]
          have := stub_no w' B v l (a + 1) hr' hc (by omega)
          cases l[a + 1]? <;> exact this
      · rw [if_neg k0]
        by_cases k1 : k = 1
        · subst k1
          rw [if_pos rfl]
          refine nd_leaf w B v l a hr hc hl hk' _ fun w' hr' => ?_
          by_cases h2 : a + 1 + 1 ≤ l.length
          · rw [List.getElem?_eq_getElem (show a + 1 < l.length by omega)]
            simp only
            by_cases hz : 50 < l[a + 1].toNat
            · rw [if_pos hz]
              exact cleaf_long w' B v l (a + 1) a hr' h2 hl hz
            · rw [if_neg hz]
              by_cases hs : l.length < a + 2 + l[a + 1].toNat
              · rw [if_pos hs]
                exact leaf_no2 w' B v l (a + 1) a hr' h2 hl (by omega) (by omega)
              · rw [if_neg hs]
                exact cleaf_ok w' B v l (a + 1) a hr' h2 hl (by omega) (by omega)
          · rw [List.getElem?_eq_none (show l.length ≤ a + 1 by omega)]
            exact leaf_no1 w' B v l (a + 1) a hr' hc (by omega)
        · rw [if_neg k1]
          exact nd_plain w B v l a k hr hc hl hk' (by omega)
  · rw [List.getElem?_eq_none (show l.length ≤ a by omega)]
    exact nd_end w B v l a k hr ha (by omega)
end Go.Proofs.YtlndinigbppafaaGreat
