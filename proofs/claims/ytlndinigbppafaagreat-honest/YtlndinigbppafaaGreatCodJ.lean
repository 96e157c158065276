/-
  The walk of the program's Decode, whole.
-/
import Derived.Test.YtlndinigbppafaaGreatCodI
namespace Go.Proofs.YtlndinigbppafaaGreat
open Go.RowKit

/-- What the program's Decode gives. -/
def DecP (l : List UInt8) (w : World) (e : Ending) (w' : World) : Prop :=
  Below w.heap.size w w' ∧ match decS l with
  | .error (f, q) => f ≠ 0 ∧ e = .returned (.tuple #[.agg #[.int .i64 0, .int .i64 0, .int .i64 0, .int .i64 0, .slice none 0 0], .int .i64 f, .int .i64 q])
  | .ok x => ∃ (ao : Option Addr) (c : Nat), e = .returned (.tuple #[.agg #[.int .i64 x.kind, .int .i64 x.m, .int .i64 x.n, .int .i64 x.root, .slice ao x.tree.length c], .int .i64 0, .int .i64 0]) ∧ NodesAt w' (.slice ao x.tree.length c) x.tree

/-- The same, with the room of its nodes. -/
def DecC (l : List UInt8) (w : World) (e : Ending) (w' : World) : Prop :=
  Below w.heap.size w w' ∧ match decS l with
  | .error (f, q) => f ≠ 0 ∧ e = .returned (.tuple #[.agg #[.int .i64 0, .int .i64 0, .int .i64 0, .int .i64 0, .slice none 0 0], .int .i64 f, .int .i64 q])
  | .ok x => ∃ (ao : Option Addr) (c : Nat), e = .returned (.tuple #[.agg #[.int .i64 x.kind, .int .i64 x.m, .int .i64 x.n, .int .i64 x.root, .slice ao x.tree.length c], .int .i64 0, .int .i64 0]) ∧ NodesAt w' (.slice ao x.tree.length c) x.tree ∧ x.tree.length ≤ c
theorem DecC.plain {l : List UInt8} {w : World} {e : Ending} {w' : World} (h : DecC l w e w') : DecP l w e w' := by
  refine ⟨h.1, ?_⟩
  have h2 := h.2
  cases hd : decS l with
  | error y => rw [hd] at h2; exact h2
  | ok x =>
    rw [hd] at h2
    obtain ⟨ao, c, h3, h4, _⟩ := h2
    exact ⟨ao, c, h3, h4⟩

set_option maxRecDepth 100000 in
set_option maxHeartbeats 2000000 in
theorem decode_cap (v : Value) (l : List UInt8) (w : World) (hv : BytesC w v l) :
    Calls Tryz.prog 59 #[v] w fun e w' => DecC l w e w' := by
  have hv0 := hv
  obtain ⟨_, ao, cap, rfl, hlc, hcm⟩ := hv0
  go_enter Tryz.func59, Tryz.ntmps59
  go_wp2_with fail
  refine (read_all _ l _ (hv.below ((Below.refl _ _).alloc (Nat.le_refl _) _))).mono ?_
  rintro e w1 ⟨hb1, hout⟩
  have hZ : MsgZ w1 w.heap.size := MsgZ.below (MsgZ.new w) hb1
  have hb : Below w.heap.size w w1 := ((Below.refl _ _).alloc (Nat.le_refl _) _).trans (hb1.mono (by simp))
  have hx1 := lt_of_heap hZ
  clear hb1
  cases hd : decS l with
  | error y =>
    obtain ⟨f, q⟩ := y
    rw [hd] at hout
    obtain ⟨hf, k, M, N, R, at1, n1, c1, rfl⟩ := hout
    have HD : Hid _ := hd
    have hfn : (f != 0) = true := by rw [bne, beq_eq_false_iff_ne.2 hf]; rfl
    clear hd hv
    obtain ⟨x0, x1, x2, x3, x4, r0, r1, r2, r3, r4, rB⟩ := MsgZ.cells hZ
    go_wp2
    clear x0 x1 x2 x3 x4 r0 r1 r2 r3 r4 rB
    have hA : Below w1.heap.size w1 ((w1.alloc (.cells #[.int .i64 k, .int .i64 M, .int .i64 N, .int .i64 R, .slice at1 n1 c1] 63)).alloc (.cells #[.int .i64 f, .int .i64 q] 158)) := ((Below.refl _ _).alloc (Nat.le_refl _) _).alloc (by simp) _
    have p0 : ((w1.alloc (.cells #[.int .i64 k, .int .i64 M, .int .i64 N, .int .i64 R, .slice at1 n1 c1] 63)).alloc (.cells #[.int .i64 f, .int .i64 q] 158)).cell? ⟨w1.heap.size + 1, 0, none⟩ = some (.int .i64 f) := by
      rw [cell_of_row _ _ _ _ _ _ (heap_new _ _ _ (by simp))]; rfl
    have p1 : ((w1.alloc (.cells #[.int .i64 k, .int .i64 M, .int .i64 N, .int .i64 R, .slice at1 n1 c1] 63)).alloc (.cells #[.int .i64 f, .int .i64 q] 158)).cell? ⟨w1.heap.size + 1, 1, none⟩ = some (.int .i64 q) := by
      rw [cell_of_row _ _ _ _ _ _ (heap_new _ _ _ (by simp))]; rfl
    have hZ2 := hZ.below hA
    have hbl := hb.trans (hA.mono hb.size)
    clear hA hZ
    generalize (w1.alloc (.cells #[.int .i64 k, .int .i64 M, .int .i64 N, .int .i64 R, .slice at1 n1 c1] 63)).alloc (.cells #[.int .i64 f, .int .i64 q] 158) = u at p0 p1 hZ2 hbl ⊢
    have hn1 : ¬ w.heap.size = w1.heap.size + 1 := by omega
    obtain ⟨x0, x1, x2, x3, x4, r0, r1, r2, r3, r4, rB⟩ := MsgZ.cells hZ2
    go_region_held3 (fun w' => w'.cell? ⟨w1.heap.size + 1, 0, none⟩ = some (.int .i64 f) ∧ w'.cell? ⟨w1.heap.size + 1, 1, none⟩ = some (.int .i64 q)) (go_keep) (fail)
    all_goals go_wp2
    all_goals refine bodyPost_ret (v := .tuple #[.agg #[.int .i64 0, .int .i64 0, .int .i64 0, .int .i64 0, .slice none 0 0], .int .i64 f, .int .i64 q]) (by simp [results, Tryz.results59, go_sem, x0, x1, x2, x3, x4]) rfl ?_
    all_goals refine ⟨by go_grown, ?_⟩
    all_goals rw [HD.out]
    all_goals exact ⟨hf, rfl⟩
  | ok x =>
    rw [hd] at hout
    obtain ⟨at1, c1, rfl, hN, hcap⟩ := hout
    have HD : Hid _ := hd
    have HCAP : Hid _ := hcap
    clear hd hv hcap
    obtain ⟨x0, x1, x2, x3, x4, r0, r1, r2, r3, r4, rB⟩ := MsgZ.cells hZ
    go_wp2
    clear x0 x1 x2 x3 x4 r0 r1 r2 r3 r4 rB
    have hZ' : w1.heap[w.heap.size]? = some (.cells #[.int .i64 0, .int .i64 0, .int .i64 0, .int .i64 0, .slice none 0 0] 63 (0, 0)) := hZ
    have hU5 : (((((w1.setCell ⟨w.heap.size, 0, none⟩ (.int .i64 x.kind)).setCell ⟨w.heap.size, 1, none⟩ (.int .i64 x.m)).setCell ⟨w.heap.size, 2, none⟩ (.int .i64 x.n)).setCell ⟨w.heap.size, 3, none⟩ (.int .i64 x.root)).setCell ⟨w.heap.size, 4, none⟩ (.slice at1 x.tree.length c1)).heap[w.heap.size]? = some (.cells #[.int .i64 x.kind, .int .i64 x.m, .int .i64 x.n, .int .i64 x.root, .slice at1 x.tree.length c1] 63 (0, 0)) := by
      simp [World.setCell, Array.getElem?_modify, hZ']
    have hb5 : Below w.heap.size w (((((w1.setCell ⟨w.heap.size, 0, none⟩ (.int .i64 x.kind)).setCell ⟨w.heap.size, 1, none⟩ (.int .i64 x.m)).setCell ⟨w.heap.size, 2, none⟩ (.int .i64 x.n)).setCell ⟨w.heap.size, 3, none⟩ (.int .i64 x.root)).setCell ⟨w.heap.size, 4, none⟩ (.slice at1 x.tree.length c1)) := ((((hb.setCell (Nat.le_refl _) _).setCell (Nat.le_refl _) _).setCell (Nat.le_refl _) _).setCell (Nat.le_refl _) _).setCell (Nat.le_refl _) _
    have hN5 : NodesAt (((((w1.setCell ⟨w.heap.size, 0, none⟩ (.int .i64 x.kind)).setCell ⟨w.heap.size, 1, none⟩ (.int .i64 x.m)).setCell ⟨w.heap.size, 2, none⟩ (.int .i64 x.n)).setCell ⟨w.heap.size, 3, none⟩ (.int .i64 x.root)).setCell ⟨w.heap.size, 4, none⟩ (.slice at1 x.tree.length c1)) (.slice at1 x.tree.length c1) x.tree := hN.keep (fun b cur fr h => by
      have hne : b ≠ w.heap.size := fun e => by subst e; rw [hZ'] at h; simp at h
      rw [Below.heap_setCell _ _ _ _ hne, Below.heap_setCell _ _ _ _ hne, Below.heap_setCell _ _ _ _ hne, Below.heap_setCell _ _ _ _ hne, Below.heap_setCell _ _ _ _ hne]
      exact h)
    generalize ((((w1.setCell ⟨w.heap.size, 0, none⟩ (.int .i64 x.kind)).setCell ⟨w.heap.size, 1, none⟩ (.int .i64 x.m)).setCell ⟨w.heap.size, 2, none⟩ (.int .i64 x.n)).setCell ⟨w.heap.size, 3, none⟩ (.int .i64 x.root)).setCell ⟨w.heap.size, 4, none⟩ (.slice at1 x.tree.length c1) = U5 at hU5 hb5 hN5 ⊢
    have hA : Below U5.heap.size U5 ((U5.alloc (.cells #[.int .i64 x.kind, .int .i64 x.m, .int .i64 x.n, .int .i64 x.root, .slice at1 x.tree.length c1] 63)).alloc (.cells #[.int .i64 0, .int .i64 0] 158)) := ((Below.refl _ _).alloc (Nat.le_refl _) _).alloc (by simp) _
    have hU6 := (hA.block _ (lt_of_heap hU5)).trans hU5
    have hb6 := hb5.trans (hA.mono hb5.size)
    have hN6 := hN5.keep (KeepsT.of_below hA (Nat.le_refl _))
    clear hA hU5 hb5 hN5 hZ hZ' hN hb hx1
    generalize (U5.alloc (.cells #[.int .i64 x.kind, .int .i64 x.m, .int .i64 x.n, .int .i64 x.root, .slice at1 x.tree.length c1] 63)).alloc (.cells #[.int .i64 0, .int .i64 0] 158) = U at hU6 hb6 hN6 ⊢
    have e0 : U.cell? ⟨w.heap.size, 0, none⟩ = some (.int .i64 x.kind) := by rw [cell_of_row _ _ _ _ _ _ hU6]; rfl
    have e1 : U.cell? ⟨w.heap.size, 1, none⟩ = some (.int .i64 x.m) := by rw [cell_of_row _ _ _ _ _ _ hU6]; rfl
    have e2 : U.cell? ⟨w.heap.size, 2, none⟩ = some (.int .i64 x.n) := by rw [cell_of_row _ _ _ _ _ _ hU6]; rfl
    have e3 : U.cell? ⟨w.heap.size, 3, none⟩ = some (.int .i64 x.root) := by rw [cell_of_row _ _ _ _ _ _ hU6]; rfl
    have e4 : U.cell? ⟨w.heap.size, 4, none⟩ = some (.slice at1 x.tree.length c1) := by rw [cell_of_row _ _ _ _ _ _ hU6]; rfl
    refine bodyPost_ret (v := .tuple #[.agg #[.int .i64 x.kind, .int .i64 x.m, .int .i64 x.n, .int .i64 x.root, .slice at1 x.tree.length c1], .int .i64 0, .int .i64 0]) (by simp [results, Tryz.results59, go_sem, e0, e1, e2, e3, e4]) rfl ?_
    refine ⟨hb6, ?_⟩
    rw [HD.out]
    exact ⟨_, _, rfl, hN6, HCAP.out⟩
theorem decode_any (v : Value) (l : List UInt8) (w : World) (hv : BytesC w v l) :
    Calls Tryz.prog 59 #[v] w fun e w' => DecP l w e w' := (decode_cap v l w hv).mono fun _ _ h => h.plain

set_option maxRecDepth 100000 in
set_option maxHeartbeats 2000000 in
theorem steleDecode_any (v : Value) (l : List UInt8) (w : World) (hv : BytesC w v l) :
    Calls Tryz.prog 84 #[v] w fun e w' => DecP l w e w' := by
  have hv0 := hv
  obtain ⟨_, ao, cap, rfl, hlc, hcm⟩ := hv0
  go_enter Tryz.func84, Tryz.ntmps84
  go_wp2_with fail
  refine (decode_any _ l _ (hv.below ((Below.refl _ _).alloc (Nat.le_refl _) _))).mono ?_
  rintro e w1 ⟨hb1, hout⟩
  have hZ : MsgZ w1 w.heap.size := MsgZ.below (MsgZ.new w) hb1
  have hb : Below w.heap.size w w1 := ((Below.refl _ _).alloc (Nat.le_refl _) _).trans (hb1.mono (by simp))
  have hx1 := lt_of_heap hZ
  obtain ⟨x0, x1, x2, x3, x4, r0, r1, r2, r3, r4, rB⟩ := MsgZ.cells hZ
  clear hb1
  cases hd : decS l with
  | error y =>
    obtain ⟨f, q⟩ := y
    rw [hd] at hout
    obtain ⟨hf, rfl⟩ := hout
    have HD : Hid _ := hd
    clear hd hv
    go_wp2
    all_goals refine bodyPost_ret (v := .tuple #[.agg #[.int .i64 0, .int .i64 0, .int .i64 0, .int .i64 0, .slice none 0 0], .int .i64 f, .int .i64 q]) (by simp [results, Tryz.results84, go_sem, x0, x1, x2, x3, x4]) rfl ?_
    all_goals refine ⟨by go_grown, ?_⟩
    all_goals rw [HD.out]
    all_goals exact ⟨hf, rfl⟩
  | ok x =>
    rw [hd] at hout
    obtain ⟨at1, c1, rfl, hN⟩ := hout
    have HD : Hid _ := hd
    clear hd hv
    go_wp2
    all_goals refine bodyPost_ret (v := .tuple #[.agg #[.int .i64 x.kind, .int .i64 x.m, .int .i64 x.n, .int .i64 x.root, .slice at1 x.tree.length c1], .int .i64 0, .int .i64 0]) (by simp [results, Tryz.results84, go_sem, x0, x1, x2, x3, x4]) rfl ?_
    all_goals refine ⟨by go_grown, ?_⟩
    all_goals rw [HD.out]
    all_goals refine ⟨_, _, rfl, ?_⟩
    all_goals exact hN.keep (fun b cur fr h => by
      have hne : b ≠ w.heap.size := fun e => by subst e; rw [hZ] at h; simp at h
      rw [Below.heap_setCell _ _ _ _ hne, Below.heap_setCell _ _ _ _ hne, Below.heap_setCell _ _ _ _ hne, Below.heap_setCell _ _ _ _ hne, Below.heap_setCell _ _ _ _ hne]
      exact h)
end Go.Proofs.YtlndinigbppafaaGreat
