/-
  The walk of the document's reader at a node.
-/
import Derived.Test.YtpdjdaipijjeeaaScanA
import Derived.Deep.RegionLaw
namespace Go.Proofs.Ytpdjdaipijjeeaa
open Go.RowKit

theorem nx_ok (s : ByteArray) (a : Nat) (q : Int) (h : a < s.size) : nxR s a 0 = s[a].toNat ∧ nxA s a 0 = a + 1 ∧ nxE s a 0 = 0 ∧ nxQ s a 0 q = q :=
  ⟨dif_pos ⟨rfl, h⟩, if_pos ⟨rfl, h⟩, by unfold nxE; rw [if_pos rfl, if_pos h], by unfold nxQ; rw [if_pos rfl, if_pos h]⟩
theorem nx_end (s : ByteArray) (a : Nat) (q : Int) (h : s.size ≤ a) : nxR s a 0 = 0 ∧ nxA s a 0 = a ∧ nxE s a 0 = 5 ∧ nxQ s a 0 q = s.size :=
  ⟨dif_neg (fun h => by omega), if_neg (fun h => by omega), by unfold nxE; rw [if_pos rfl, if_neg (by omega)], by unfold nxQ; rw [if_pos rfl, if_neg (by omega)]⟩
theorem nx_err (s : ByteArray) (a : Nat) (e q : Int) (h : e ≠ 0) : nxR s a e = 0 ∧ nxA s a e = a ∧ nxE s a e = e ∧ nxQ s a e q = q :=
  ⟨dif_neg (fun x => h x.1), if_neg (fun x => h x.1), if_neg h, if_neg h⟩

/-- The message's value, as the callee keeps it. -/
def MsgAt (w : World) (H : Nat) (k M N R : Int) (T : Value) : Prop := w.cell? ⟨H, 0, none⟩ = some (.int .i64 k) ∧ w.cell? ⟨H, 1, none⟩ = some (.int .i64 M) ∧ w.cell? ⟨H, 2, none⟩ = some (.int .i64 N) ∧ w.cell? ⟨H, 3, none⟩ = some (.int .i64 R) ∧ w.cell? ⟨H, 4, none⟩ = some T
theorem msg_new (w : World) (k M N R : Int) (T : Value) : MsgAt (w.alloc (.cells #[.int .i64 k, .int .i64 M, .int .i64 N, .int .i64 R, T] 42)) w.heap.size k M N R T := by
  refine ⟨?_, ?_, ?_, ?_, ?_⟩ <;> simp
theorem msg_keep {w w' : World} {H : Nat} {k M N R : Int} {T : Value} (h : MsgAt w H k M N R T) (hb : Below w.heap.size w w') : MsgAt w' H k M N R T :=
  ⟨cell_keep h.1 hb, cell_keep h.2.1 hb, cell_keep h.2.2.1 hb, cell_keep h.2.2.2.1 hb, cell_keep h.2.2.2.2 hb⟩
theorem msg_frame {w w' : World} {H B : Nat} {row : Option Nat} {k M N R : Int} {T : Value} (h : MsgAt w H k M N R T) (hF : Frame2 w w' B row) (hB : H ≠ B) (hr : some H ≠ row) : MsgAt w' H k M N R T := by
  have e := hF.block H (World.block_lt_of_cell? w _ h.1) hB hr
  have e2 : ∀ j, w'.cell? ⟨H, j, none⟩ = w.cell? ⟨H, j, none⟩ := fun j => World.cell?_of_block e
  unfold MsgAt
  rw [e2, e2, e2, e2, e2]
  exact h
theorem msg_at {w w' : World} {k M N R : Int} {T : Value} (hb : Below (w.alloc (.cells #[.int .i64 k, .int .i64 M, .int .i64 N, .int .i64 R, T] 42)).heap.size (w.alloc (.cells #[.int .i64 k, .int .i64 M, .int .i64 N, .int .i64 R, T] 42)) w') : MsgAt w' w.heap.size k M N R T := msg_keep (msg_new w k M N R T) hb

set_option maxRecDepth 100000 in
set_option maxHeartbeats 1000000 in
theorem node_err (w : World) (b0 B : Nat) (s : ByteArray) (a : Nat) (e q : Int) (V : Value) (ns : List PN) (k M N R : Int) (T : Value) (p d : Nat) (h : ScanAt w b0 B s a e q V ns) (he : e ≠ 0) (hd : d ≤ 16) (hp : p ≤ 1000000) :
    Calls Try.prog 59 #[.pointer (some ⟨B, 0, none⟩), .agg #[.int .i64 k, .int .i64 M, .int .i64 N, .int .i64 R, T], .int .i64 p, .int .i64 d] w fun r w' => r = .returned (.tuple #[]) ∧ Below w.heap.size w w' := by
  obtain ⟨c0, c1, c2, c3, c4⟩ := h.cell
  have heb : (e == 0) = false := beq_eq_false_iff_ne.2 he
  have hB := lt_of_heap h.2.1
  have hA : Below w.heap.size w (w.alloc (.cells #[.int .i64 k, .int .i64 M, .int .i64 N, .int .i64 R, T] 42)) := (Below.refl _ _).alloc (Nat.le_refl _) _
  go_enter Try.func59, Try.ntmps59
  go_wp2_with fail
  refine (next_err _ _ _ _ _ _ _ _ _ (h.below hA) he).mono ?_
  rintro r w1 ⟨rfl, hb1⟩
  have hm := msg_at hb1
  have hb01 := below_step hA hb1
  clear hA
  obtain ⟨d0, d1, d2, d3, d4⟩ := (h.below hb01).cell
  obtain ⟨m0, m1, m2, m3, m4⟩ := hm
  go_wp2_with fail
  refine (kind_any k M N R T p d w1 hd hp).mono ?_
  rintro r w2 ⟨rfl, hb2⟩
  have hb := below_step hb01 hb2
  obtain ⟨f0, f1, f2, f3, f4⟩ := (h.below hb).cell
  go_wp2
  all_goals go_returns
  all_goals exact ⟨rfl, hb⟩

/-- What a reader leaves behind: its own block and its row alone have changed. -/
def Kept (w w' : World) (B : Nat) (V V' : Value) : Prop := Frame2 w w' B V.ownBlock ∧ (V'.ownBlock = V.ownBlock ∨ ∃ g, V'.ownBlock = some g ∧ w.heap.size ≤ g)

set_option maxRecDepth 100000 in
set_option maxHeartbeats 1000000 in
theorem node_end (w : World) (b0 B : Nat) (s : ByteArray) (a : Nat) (q : Int) (V : Value) (ns : List PN) (k M N R : Int) (T : Value) (p d : Nat) (h : ScanAt w b0 B s a 0 q V ns) (ha : s.size ≤ a) (hd : d ≤ 16) (hp : p ≤ 1000000) :
    Calls Try.prog 59 #[.pointer (some ⟨B, 0, none⟩), .agg #[.int .i64 k, .int .i64 M, .int .i64 N, .int .i64 R, T], .int .i64 p, .int .i64 d] w fun r w' => r = .returned (.tuple #[]) ∧ ScanAt w' b0 B s a 5 s.size V ns ∧ Frame2 w w' B none := by
  obtain ⟨c0, c1, c2, c3, c4⟩ := h.cell
  have hB := lt_of_heap h.2.1
  have hA : Below w.heap.size w (w.alloc (.cells #[.int .i64 k, .int .i64 M, .int .i64 N, .int .i64 R, T] 42)) := (Below.refl _ _).alloc (Nat.le_refl _) _
  go_enter Try.func59, Try.ntmps59
  go_wp2_with fail
  refine (next_end _ _ _ _ _ _ _ _ (h.below hA) ha).mono ?_
  rintro r w1 ⟨rfl, h1, hF1⟩
  obtain ⟨m0, m1, m2, m3, m4⟩ := msg_frame (msg_new w k M N R T) hF1 (by omega) (by simp)
  have hF := (Frame2.of_below B none hA).trans hF1
  clear hA hF1
  obtain ⟨d0, d1, d2, d3, d4⟩ := h1.cell
  go_wp2_with fail
  refine (kind_any k M N R T p d w1 hd hp).mono ?_
  rintro r w2 ⟨rfl, hb2⟩
  have h2 := h1.below hb2
  obtain ⟨f0, f1, f2, f3, f4⟩ := h2.cell
  go_wp2
  all_goals go_returns
  all_goals exact ⟨rfl, h2, hF.then hb2⟩

set_option maxRecDepth 100000 in
set_option maxHeartbeats 1000000 in
theorem node_shape (w : World) (b0 B : Nat) (s : ByteArray) (a : Nat) (q : Int) (V : Value) (ns : List PN) (k M N R : Int) (T : Value) (p d : Nat) (h : ScanAt w b0 B s a 0 q V ns) (ha : a < s.size) (hk : (s[a].toNat : Int) ≠ kindOf k M N p d) (hs : s.size ≤ 4000) (hd : d ≤ 16) (hp : p ≤ 1000000) :
    Calls Try.prog 59 #[.pointer (some ⟨B, 0, none⟩), .agg #[.int .i64 k, .int .i64 M, .int .i64 N, .int .i64 R, T], .int .i64 p, .int .i64 d] w fun r w' => r = .returned (.tuple #[]) ∧ ScanAt w' b0 B s (a + 1 : Nat) 7 a V ns ∧ Frame2 w w' B none := by
  obtain ⟨c0, c1, c2, c3, c4⟩ := h.cell
  have hB := lt_of_heap h.2.1
  have hA : Below w.heap.size w (w.alloc (.cells #[.int .i64 k, .int .i64 M, .int .i64 N, .int .i64 R, T] 42)) := (Below.refl _ _).alloc (Nat.le_refl _) _
  have hkb : ((s[a].toNat : Int) == kindOf k M N p d) = false := beq_eq_false_iff_ne.2 hk
  go_enter Try.func59, Try.ntmps59
  go_wp2_with fail
  refine (next_ok _ _ _ _ _ _ _ _ (h.below hA) ha hs).mono ?_
  rintro r w1 ⟨rfl, h1, hF1⟩
  obtain ⟨m0, m1, m2, m3, m4⟩ := msg_frame (msg_new w k M N R T) hF1 (by omega) (by simp)
  have hF := (Frame2.of_below B none hA).trans hF1
  clear hA hF1
  obtain ⟨d0, d1, d2, d3, d4⟩ := h1.cell
  go_wp2_with fail
  refine (kind_any k M N R T p d w1 hd hp).mono ?_
  rintro r w2 ⟨rfl, hb2⟩
  have h2 := h1.below hb2
  obtain ⟨f0, f1, f2, f3, f4⟩ := h2.cell
  go_wp2_with (go_at_call 57; refine (no_first _ _ _ _ _ _ _ _ 7 a h2).mono ?_; rintro e w3 ⟨rfl, h3, hF3⟩; obtain ⟨g0, g1, g2, g3, g4⟩ := h3.cell)
  all_goals go_returns
  all_goals exact ⟨rfl, h3, (hF.then hb2).trans hF3⟩
end Go.Proofs.Ytpdjdaipijjeeaa
