/-
  The walks of the document's reader: the bytes and numbers of a message.
-/
import Derived.Test.YtlndinigbppafaaGreatSumW
import Derived.Test.YtlndinigbppafaaGreatDec
import Derived.Test.YtlndinigbppafaaGreatRefA
import Derived.Handy
import Derived.OneCell
import Derived.Deep.RegionLaw
namespace Go.Proofs.YtlndinigbppafaaGreat
open Go.RowKit

/-- A reader: its own block, and its row of nodes. -/
def ScanAt (w : World) (b0 B : Nat) (s : ByteArray) (a e q : Int) (V : Value) (ns : List PN) : Prop :=
  b0 ≤ B ∧ w.heap[B]? = some (.cells #[.string s, .int .i64 a, .int .i64 e, .int .i64 q, V] 170 (0, 0)) ∧ w.ownsRow b0 116 3 V ns.length (cellsN ns)

theorem ScanAt.cell {w : World} {b0 B : Nat} {s : ByteArray} {a e q : Int} {V : Value} {ns : List PN} (h : ScanAt w b0 B s a e q V ns) :
    w.cell? ⟨B, 0, none⟩ = some (.string s) ∧ w.cell? ⟨B, 1, none⟩ = some (.int .i64 a) ∧ w.cell? ⟨B, 2, none⟩ = some (.int .i64 e) ∧ w.cell? ⟨B, 3, none⟩ = some (.int .i64 q) ∧ w.cell? ⟨B, 4, none⟩ = some V := by
  refine ⟨?_, ?_, ?_, ?_, ?_⟩ <;> (rw [cell_of_row _ _ _ _ _ _ h.2.1]; rfl)
theorem ScanAt.frozen {w : World} {b0 B : Nat} {s : ByteArray} {a e q : Int} {V : Value} {ns : List PN} (h : ScanAt w b0 B s a e q V ns) (j : Nat) : w.frozen? ⟨B, j, none⟩ = false := by
  unfold World.frozen?; rw [h.2.1]; simp
theorem ScanAt.row_ne {w : World} {b0 B : Nat} {s : ByteArray} {a e q : Int} {V : Value} {ns : List PN} (h : ScanAt w b0 B s a e q V ns) : V.ownBlock ≠ some B := by
  intro x
  rcases h.2.2.2 with ⟨rfl, _⟩ | ⟨g, cap, cur, rfl, _, hgg, _⟩
  · simp [Value.ownBlock] at x
  · simp [Value.ownBlock] at x
    subst x
    have := h.2.1
    rw [hgg] at this
    simp at this
theorem ScanAt.below {w w' : World} {b0 B : Nat} {s : ByteArray} {a e q : Int} {V : Value} {ns : List PN} (h : ScanAt w b0 B s a e q V ns) (hb : Below w.heap.size w w') : ScanAt w' b0 B s a e q V ns := by
  obtain ⟨h0, h1, h2⟩ := h
  exact ⟨h0, by rw [hb.block B (lt_of_heap h1)]; exact h1, owns_below h2 hb⟩
/-- A store into one of its numbers. -/
theorem ScanAt.set1 {w : World} {b0 B : Nat} {s : ByteArray} {a e q : Int} {V : Value} {ns : List PN} (h : ScanAt w b0 B s a e q V ns) (x : Int) : ScanAt (w.setCell ⟨B, 1, none⟩ (.int .i64 x)) b0 B s x e q V ns :=
  ⟨h.1, by simp [World.setCell, Array.getElem?_modify, h.2.1], ownsRow_setCell_other h.2.2 h.row_ne _⟩
theorem ScanAt.set2 {w : World} {b0 B : Nat} {s : ByteArray} {a e q : Int} {V : Value} {ns : List PN} (h : ScanAt w b0 B s a e q V ns) (x : Int) : ScanAt (w.setCell ⟨B, 2, none⟩ (.int .i64 x)) b0 B s a x q V ns :=
  ⟨h.1, by simp [World.setCell, Array.getElem?_modify, h.2.1], ownsRow_setCell_other h.2.2 h.row_ne _⟩
theorem ScanAt.set3 {w : World} {b0 B : Nat} {s : ByteArray} {a e q : Int} {V : Value} {ns : List PN} (h : ScanAt w b0 B s a e q V ns) (x : Int) : ScanAt (w.setCell ⟨B, 3, none⟩ (.int .i64 x)) b0 B s a e x V ns :=
  ⟨h.1, by simp [World.setCell, Array.getElem?_modify, h.2.1], ownsRow_setCell_other h.2.2 h.row_ne _⟩

theorem Frame2.refl (w : World) (B : Nat) (row : Option Nat) : Frame2 w w B row := ⟨rfl, rfl, rfl, Nat.le_refl _, fun _ _ _ _ => rfl⟩
theorem Frame2.set (w w' : World) (B j : Nat) (row : Option Nat) (u : Value) (h : Frame2 w w' B row) : Frame2 w (w'.setCell ⟨B, j, none⟩ u) B row :=
  ⟨h.os, h.tape, h.output, by simpa [World.setCell] using h.size, fun k hk hB hr => by rw [Below.heap_setCell _ _ _ _ hB]; exact h.block k hk hB hr⟩

theorem Frame2.then {w w' w'' : World} {B : Nat} {row : Option Nat} (h : Frame2 w w' B row) (hb : Below w'.heap.size w' w'') : Frame2 w w'' B row :=
  ⟨hb.os.trans h.os, hb.tape.trans h.tape, hb.output.trans h.output, Nat.le_trans h.size hb.size, fun k hk hB hr => (hb.block k (Nat.lt_of_lt_of_le hk h.size)).trans (h.block k hk hB hr)⟩
theorem Frame2.trans {w w' w'' : World} {B : Nat} {row row' : Option Nat} (h : Frame2 w w' B row) (h' : Frame2 w' w'' B row') (hr : row' = none ∨ row' = row ∨ ∃ g, row' = some g ∧ w.heap.size ≤ g := by exact Or.inl rfl) : Frame2 w w'' B row :=
  ⟨h'.os.trans h.os, h'.tape.trans h.tape, h'.output.trans h.output, Nat.le_trans h.size h'.size, fun k hk hB hk2 => (h'.block k (Nat.lt_of_lt_of_le hk h.size) hB (by
    rcases hr with rfl | rfl | ⟨g, rfl, hg⟩
    · simp
    · exact hk2
    · intro e; cases e; omega)).trans (h.block k hk hB hk2)⟩
theorem Frame2.of_below {w w' : World} (B : Nat) (row : Option Nat) (hb : Below w.heap.size w w') : Frame2 w w' B row := (Frame2.refl w B row).then hb
theorem below_qn (w : World) (n : Nat) : Below w.heap.size w (w.drewN n) := below_drewN (Below.refl _ _) n

set_option maxRecDepth 100000 in
set_option maxHeartbeats 400000 in
theorem no_first (w : World) (b0 B : Nat) (s : ByteArray) (a q : Int) (V : Value) (ns : List PN) (x y : Int) (h : ScanAt w b0 B s a 0 q V ns) :
    Calls Tryz.prog 102 #[.pointer (some ⟨B, 0, none⟩), .int .i64 x, .int .i64 y] w fun r w' => r = .returned (.tuple #[]) ∧ ScanAt w' b0 B s a x y V ns ∧ Frame2 w w' B none := by
  obtain ⟨c0, c1, c2, c3, c4⟩ := h.cell
  have z2 := h.frozen 2
  have z3 := h.frozen 3
  have hB := lt_of_heap h.2.1
  have HS := (h.set2 x).set3 y
  have HF := (Frame2.refl w B none).set _ _ B 2 none (.int .i64 x) |>.set _ _ B 3 none (.int .i64 y)
  go_enter Tryz.func102, Tryz.ntmps102
  go_wp2
  go_returns
  exact ⟨rfl, HS, HF⟩

set_option maxRecDepth 100000 in
set_option maxHeartbeats 400000 in
theorem no_more (w : World) (b0 B : Nat) (s : ByteArray) (a e q : Int) (V : Value) (ns : List PN) (x y : Int) (h : ScanAt w b0 B s a e q V ns) (he : e ≠ 0) :
    Calls Tryz.prog 102 #[.pointer (some ⟨B, 0, none⟩), .int .i64 x, .int .i64 y] w fun r w' => r = .returned (.tuple #[]) ∧ w' = w := by
  obtain ⟨c0, c1, c2, c3, c4⟩ := h.cell
  have heb : (e == 0) = false := beq_eq_false_iff_ne.2 he
  go_enter Tryz.func102, Tryz.ntmps102
  go_wp2
  go_returns
  exact ⟨rfl, rfl⟩

theorem get_int (s : ByteArray) (a : Nat) (h : a < s.size) : s.data.toList[a]? = some s[a] := by
  rw [Array.getElem?_toList, Array.getElem?_eq_getElem (show a < s.data.size from h)]; rfl

set_option maxRecDepth 100000 in
set_option maxHeartbeats 400000 in
theorem next_ok (w : World) (b0 B : Nat) (s : ByteArray) (a : Nat) (q : Int) (V : Value) (ns : List PN) (h : ScanAt w b0 B s a 0 q V ns) (ha : a < s.size) (hs : s.size ≤ 4000) :
    Calls Tryz.prog 101 #[.pointer (some ⟨B, 0, none⟩)] w fun r w' => r = .returned (.int .i64 s[a].toNat) ∧ ScanAt w' b0 B s (a + 1 : Nat) 0 q V ns ∧ Frame2 w w' B none := by
  obtain ⟨c0, c1, c2, c3, c4⟩ := h.cell
  have z1 := h.frozen 1
  have hB := lt_of_heap h.2.1
  go_enter Tryz.func101, Tryz.ntmps101
  go_wp2
  go_quiet (fail)
  go_wp2
  go_quiet (fail)
  go_wp2
  go_returns
  exact ⟨ret_int (by have := s[a].toNat_lt; go_arith), ((h.below (below_qn _ _)).set1 _).below (below_qn _ _), ((Frame2.of_below B none (below_qn w _)).set _ _ B 1 none _).then (below_qn _ _)⟩

set_option maxRecDepth 100000 in
set_option maxHeartbeats 400000 in
theorem next_end (w : World) (b0 B : Nat) (s : ByteArray) (a : Nat) (q : Int) (V : Value) (ns : List PN) (h : ScanAt w b0 B s a 0 q V ns) (ha : s.size ≤ a) :
    Calls Tryz.prog 101 #[.pointer (some ⟨B, 0, none⟩)] w fun r w' => r = .returned (.int .i64 0) ∧ ScanAt w' b0 B s a 5 s.size V ns ∧ Frame2 w w' B none := by
  obtain ⟨c0, c1, c2, c3, c4⟩ := h.cell
  go_enter Tryz.func101, Tryz.ntmps101
  go_wp2
  go_quiet (fail)
  go_wp2_with (go_at_call 102; refine (no_first _ _ _ _ _ _ _ _ 5 s.size (h.below (below_qn _ _))).mono ?_; rintro e w' ⟨rfl, h', hF⟩; obtain ⟨d0, d1, d2, d3, d4⟩ := h'.cell)
  go_returns
  exact ⟨rfl, h', (Frame2.of_below B none (below_qn w _)).trans hF⟩

set_option maxRecDepth 100000 in
set_option maxHeartbeats 400000 in
theorem next_err (w : World) (b0 B : Nat) (s : ByteArray) (a : Nat) (e q : Int) (V : Value) (ns : List PN) (h : ScanAt w b0 B s a e q V ns) (he : e ≠ 0) :
    Calls Tryz.prog 101 #[.pointer (some ⟨B, 0, none⟩)] w fun r w' => r = .returned (.int .i64 0) ∧ Below w.heap.size w w' := by
  obtain ⟨c0, c1, c2, c3, c4⟩ := h.cell
  have heb : (e == 0) = false := beq_eq_false_iff_ne.2 he
  by_cases ha : a < s.size
  · go_enter Tryz.func101, Tryz.ntmps101
    go_wp2
    go_quiet (fail)
    go_wp2
    go_returns
    exact ⟨rfl, below_qn _ _⟩
  · go_enter Tryz.func101, Tryz.ntmps101
    go_wp2
    go_quiet (fail)
    go_wp2_with (go_at_call 102; refine (no_more _ _ _ _ _ _ _ _ _ 5 s.size (h.below (below_qn _ _)) he).mono ?_; rintro e w' ⟨rfl, rfl⟩)
    go_returns
    exact ⟨rfl, below_qn _ _⟩

/-- A byte is read: what comes, the place, the error and its place behind it. -/
def nxR (s : ByteArray) (a : Nat) (e : Int) : Int := if h : e = 0 ∧ a < s.size then s[a].toNat else 0
def nxA (s : ByteArray) (a : Nat) (e : Int) : Nat := if e = 0 ∧ a < s.size then a + 1 else a
def nxE (s : ByteArray) (a : Nat) (e : Int) : Int := if e = 0 then (if a < s.size then 0 else 5) else e
def nxQ (s : ByteArray) (a : Nat) (e q : Int) : Int := if e = 0 then (if a < s.size then q else s.size) else q
theorem nxR_bd (s : ByteArray) (a : Nat) (e : Int) : 0 ≤ nxR s a e ∧ nxR s a e ≤ 255 := by
  unfold nxR
  split
  · have := (s[a]).toNat_lt; omega
  · omega
theorem nxA_le (s : ByteArray) (a : Nat) (e : Int) (h : a ≤ s.size) : nxA s a e ≤ s.size := by
  unfold nxA; split <;> omega

theorem next_any (w : World) (b0 B : Nat) (s : ByteArray) (a : Nat) (e q : Int) (V : Value) (ns : List PN) (h : ScanAt w b0 B s a e q V ns) (hs : s.size ≤ 4000) :
    Calls Tryz.prog 101 #[.pointer (some ⟨B, 0, none⟩)] w fun r w' => r = .returned (.int .i64 (nxR s a e)) ∧ ScanAt w' b0 B s (nxA s a e) (nxE s a e) (nxQ s a e q) V ns ∧ Frame2 w w' B none := by
  by_cases he : e = 0
  · subst he
    by_cases ha : a < s.size
    · have e1 : nxR s a 0 = s[a].toNat := dif_pos ⟨rfl, ha⟩
      have e2 : nxA s a 0 = a + 1 := if_pos ⟨rfl, ha⟩
      have e3 : nxE s a 0 = 0 := by unfold nxE; rw [if_pos rfl, if_pos ha]
      have e4 : nxQ s a 0 q = q := by unfold nxQ; rw [if_pos rfl, if_pos ha]
      rw [e1, e2, e3, e4]
      exact next_ok w b0 B s a q V ns h ha hs
    · have e1 : nxR s a 0 = 0 := dif_neg (fun h => ha h.2)
      have e2 : nxA s a 0 = a := if_neg (fun h => ha h.2)
      have e3 : nxE s a 0 = 5 := by unfold nxE; rw [if_pos rfl, if_neg ha]
      have e4 : nxQ s a 0 q = s.size := by unfold nxQ; rw [if_pos rfl, if_neg ha]
      rw [e1, e2, e3, e4]
      exact next_end w b0 B s a q V ns h (by omega)
  · have e1 : nxR s a e = 0 := dif_neg (fun h => he h.1)
    have e2 : nxA s a e = a := if_neg (fun h => he h.1)
    have e3 : nxE s a e = e := if_neg he
    have e4 : nxQ s a e q = q := if_neg he
    rw [e1, e2, e3, e4]
    exact (next_err w b0 B s a e q V ns h he).mono fun r w' hr => ⟨hr.1, h.below hr.2, Frame2.of_below B none hr.2⟩

/-- Two bytes' number is read. -/
def nuR (s : ByteArray) (a : Nat) (e : Int) : Int := 256 * nxR s a e + nxR s (nxA s a e) (nxE s a e)
def nuA (s : ByteArray) (a : Nat) (e : Int) : Nat := nxA s (nxA s a e) (nxE s a e)
def nuE (s : ByteArray) (a : Nat) (e : Int) : Int := nxE s (nxA s a e) (nxE s a e)
def nuQ (s : ByteArray) (a : Nat) (e q : Int) : Int := nxQ s (nxA s a e) (nxE s a e) (nxQ s a e q)
theorem nuR_bd (s : ByteArray) (a : Nat) (e : Int) : 0 ≤ nuR s a e ∧ nuR s a e ≤ 65535 := by
  unfold nuR
  have h1 := nxR_bd s a e
  have h2 := nxR_bd s (nxA s a e) (nxE s a e)
  omega
theorem nuA_le (s : ByteArray) (a : Nat) (e : Int) (h : a ≤ s.size) : nuA s a e ≤ s.size := nxA_le s _ _ (nxA_le s _ _ h)

set_option maxRecDepth 100000 in
set_option maxHeartbeats 400000 in
theorem number_any (w : World) (b0 B : Nat) (s : ByteArray) (a : Nat) (e q : Int) (V : Value) (ns : List PN) (h : ScanAt w b0 B s a e q V ns) (hs : s.size ≤ 4000) :
    Calls Tryz.prog 103 #[.pointer (some ⟨B, 0, none⟩)] w fun r w' => r = .returned (.int .i64 (nuR s a e)) ∧ ScanAt w' b0 B s (nuA s a e) (nuE s a e) (nuQ s a e q) V ns ∧ Frame2 w w' B none := by
  have hb1 := nxR_bd s a e
  have hb2 := nxR_bd s (nxA s a e) (nxE s a e)
  unfold nuR nuA nuE nuQ
  go_enter Tryz.func103, Tryz.ntmps103
  go_wp2_with fail
  refine (next_any _ _ _ _ _ _ _ _ _ h hs).mono ?_
  rintro r w1 ⟨rfl, h1, hF1⟩
  go_wp2_with fail
  refine (next_any _ _ _ _ _ _ _ _ _ h1 hs).mono ?_
  rintro r w2 ⟨rfl, h2, hF2⟩
  go_wp2
  go_returns
  exact ⟨ret_int (by go_arith), h2, hF1.trans hF2⟩
end Go.Proofs.YtlndinigbppafaaGreat

/-
  The walk of the document's reader at a node.
-/
namespace Go.Proofs.YtlndinigbppafaaGreat
open Go.RowKit

theorem nx_ok (s : ByteArray) (a : Nat) (q : Int) (h : a < s.size) : nxR s a 0 = s[a].toNat ∧ nxA s a 0 = a + 1 ∧ nxE s a 0 = 0 ∧ nxQ s a 0 q = q :=
  ⟨dif_pos ⟨rfl, h⟩, if_pos ⟨rfl, h⟩, by unfold nxE; rw [if_pos rfl, if_pos h], by unfold nxQ; rw [if_pos rfl, if_pos h]⟩
theorem nx_end (s : ByteArray) (a : Nat) (q : Int) (h : s.size ≤ a) : nxR s a 0 = 0 ∧ nxA s a 0 = a ∧ nxE s a 0 = 5 ∧ nxQ s a 0 q = s.size :=
  ⟨dif_neg (fun h => by omega), if_neg (fun h => by omega), by unfold nxE; rw [if_pos rfl, if_neg (by omega)], by unfold nxQ; rw [if_pos rfl, if_neg (by omega)]⟩
theorem nx_err (s : ByteArray) (a : Nat) (e q : Int) (h : e ≠ 0) : nxR s a e = 0 ∧ nxA s a e = a ∧ nxE s a e = e ∧ nxQ s a e q = q :=
  ⟨dif_neg (fun x => h x.1), if_neg (fun x => h x.1), if_neg h, if_neg h⟩

/-- The message's value, as the callee keeps it. -/
def MsgAt (w : World) (H : Nat) (k M N R : Int) (T : Value) : Prop := w.cell? ⟨H, 0, none⟩ = some (.int .i64 k) ∧ w.cell? ⟨H, 1, none⟩ = some (.int .i64 M) ∧ w.cell? ⟨H, 2, none⟩ = some (.int .i64 N) ∧ w.cell? ⟨H, 3, none⟩ = some (.int .i64 R) ∧ w.cell? ⟨H, 4, none⟩ = some T
theorem msg_new (w : World) (k M N R : Int) (T : Value) : MsgAt (w.alloc (.cells #[.int .i64 k, .int .i64 M, .int .i64 N, .int .i64 R, T] 63)) w.heap.size k M N R T := by
  refine ⟨?_, ?_, ?_, ?_, ?_⟩ <;> simp
theorem msg_keep {w w' : World} {H : Nat} {k M N R : Int} {T : Value} (h : MsgAt w H k M N R T) (hb : Below w.heap.size w w') : MsgAt w' H k M N R T :=
  ⟨cell_keep h.1 hb, cell_keep h.2.1 hb, cell_keep h.2.2.1 hb, cell_keep h.2.2.2.1 hb, cell_keep h.2.2.2.2 hb⟩
theorem msg_frame {w w' : World} {H B : Nat} {row : Option Nat} {k M N R : Int} {T : Value} (h : MsgAt w H k M N R T) (hF : Frame2 w w' B row) (hB : H ≠ B) (hr : some H ≠ row) : MsgAt w' H k M N R T := by
  have e := hF.block H (World.block_lt_of_cell? w _ h.1) hB hr
  have e2 : ∀ j, w'.cell? ⟨H, j, none⟩ = w.cell? ⟨H, j, none⟩ := fun j => World.cell?_of_block e
  unfold MsgAt
  rw [e2, e2, e2, e2, e2]
  exact h
theorem msg_at {w w' : World} {k M N R : Int} {T : Value} (hb : Below (w.alloc (.cells #[.int .i64 k, .int .i64 M, .int .i64 N, .int .i64 R, T] 63)).heap.size (w.alloc (.cells #[.int .i64 k, .int .i64 M, .int .i64 N, .int .i64 R, T] 63)) w') : MsgAt w' w.heap.size k M N R T := msg_keep (msg_new w k M N R T) hb

set_option maxRecDepth 100000 in
set_option maxHeartbeats 1000000 in
theorem node_err (w : World) (b0 B : Nat) (s : ByteArray) (a : Nat) (e q : Int) (V : Value) (ns : List PN) (k M N R : Int) (T : Value) (p d : Nat) (h : ScanAt w b0 B s a e q V ns) (he : e ≠ 0) (hd : d ≤ 16) (hp : p ≤ 1000000) :
    Calls Tryz.prog 104 #[.pointer (some ⟨B, 0, none⟩), .agg #[.int .i64 k, .int .i64 M, .int .i64 N, .int .i64 R, T], .int .i64 p, .int .i64 d] w fun r w' => r = .returned (.tuple #[]) ∧ Below w.heap.size w w' := by
  obtain ⟨c0, c1, c2, c3, c4⟩ := h.cell
  have heb : (e == 0) = false := beq_eq_false_iff_ne.2 he
  have hB := lt_of_heap h.2.1
  have hA : Below w.heap.size w (w.alloc (.cells #[.int .i64 k, .int .i64 M, .int .i64 N, .int .i64 R, T] 63)) := (Below.refl _ _).alloc (Nat.le_refl _) _
  go_enter Tryz.func104, Tryz.ntmps104
  go_wp2_with fail
  refine (next_err _ _ _ _ _ _ _ _ _ (h.below hA) he).mono ?_
  rintro r w1 ⟨rfl, hb1⟩
  have hm := msg_at hb1
  have hb01 := below_step hA hb1
  clear hA
  obtain ⟨d0, d1, d2, d3, d4⟩ := (h.below hb01).cell
  obtain ⟨m0, m1, m2, m3, m4⟩ := hm
  go_wp2_with fail
  refine (kind_any k M N R T p d w1 hd hp).mono ?_
  rintro r w2 ⟨rfl, hb2⟩
  have hb := below_step hb01 hb2
  obtain ⟨f0, f1, f2, f3, f4⟩ := (h.below hb).cell
  go_wp2
  all_goals go_returns
  all_goals exact ⟨rfl, hb⟩

/-- What a reader leaves behind: its own block and its row alone have changed. -/
def Kept (w w' : World) (B : Nat) (V V' : Value) : Prop := Frame2 w w' B V.ownBlock ∧ (V'.ownBlock = V.ownBlock ∨ ∃ g, V'.ownBlock = some g ∧ w.heap.size ≤ g)

set_option maxRecDepth 100000 in
set_option maxHeartbeats 1000000 in
theorem node_end (w : World) (b0 B : Nat) (s : ByteArray) (a : Nat) (q : Int) (V : Value) (ns : List PN) (k M N R : Int) (T : Value) (p d : Nat) (h : ScanAt w b0 B s a 0 q V ns) (ha : s.size ≤ a) (hd : d ≤ 16) (hp : p ≤ 1000000) :
    Calls Tryz.prog 104 #[.pointer (some ⟨B, 0, none⟩), .agg #[.int .i64 k, .int .i64 M, .int .i64 N, .int .i64 R, T], .int .i64 p, .int .i64 d] w fun r w' => r = .returned (.tuple #[]) ∧ ScanAt w' b0 B s a 5 s.size V ns ∧ Frame2 w w' B none := by
  obtain ⟨c0, c1, c2, c3, c4⟩ := h.cell
  have hB := lt_of_heap h.2.1
  have hA : Below w.heap.size w (w.alloc (.cells #[.int .i64 k, .int .i64 M, .int .i64 N, .int .i64 R, T] 63)) := (Below.refl _ _).alloc (Nat.le_refl _) _
  go_enter Tryz.func104, Tryz.ntmps104
  go_wp2_with fail
  refine (next_end _ _ _ _ _ _ _ _ (h.below hA) ha).mono ?_
  rintro r w1 ⟨rfl, h1, hF1⟩
  obtain ⟨m0, m1, m2, m3, m4⟩ := msg_frame (msg_new w k M N R T) hF1 (by omega) (by simp)
  have hF := (Frame2.of_below B none hA).trans hF1
  clear hA hF1
  obtain ⟨d0, d1, d2, d3, d4⟩ := h1.cell
  go_wp2_with fail
  refine (kind_any k M N R T p d w1 hd hp).mono ?_
  rintro r w2 ⟨rfl, hb2⟩
  have h2 := h1.below hb2
  obtain ⟨f0, f1, f2, f3, f4⟩ := h2.cell
  go_wp2
  all_goals go_returns
  all_goals exact ⟨rfl, h2, hF.then hb2⟩

set_option maxRecDepth 100000 in
set_option maxHeartbeats 1000000 in
theorem node_shape (w : World) (b0 B : Nat) (s : ByteArray) (a : Nat) (q : Int) (V : Value) (ns : List PN) (k M N R : Int) (T : Value) (p d : Nat) (h : ScanAt w b0 B s a 0 q V ns) (ha : a < s.size) (hk : (s[a].toNat : Int) ≠ kindOf k M N p d) (hs : s.size ≤ 4000) (hd : d ≤ 16) (hp : p ≤ 1000000) :
    Calls Tryz.prog 104 #[.pointer (some ⟨B, 0, none⟩), .agg #[.int .i64 k, .int .i64 M, .int .i64 N, .int .i64 R, T], .int .i64 p, .int .i64 d] w fun r w' => r = .returned (.tuple #[]) ∧ ScanAt w' b0 B s (a + 1 : Nat) 7 a V ns ∧ Frame2 w w' B none := by
  obtain ⟨c0, c1, c2, c3, c4⟩ := h.cell
  have hB := lt_of_heap h.2.1
  have hA : Below w.heap.size w (w.alloc (.cells #[.int .i64 k, .int .i64 M, .int .i64 N, .int .i64 R, T] 63)) := (Below.refl _ _).alloc (Nat.le_refl _) _
  have hkb : ((s[a].toNat : Int) == kindOf k M N p d) = false := beq_eq_false_iff_ne.2 hk
  go_enter Tryz.func104, Tryz.ntmps104
  go_wp2_with fail
  refine (next_ok _ _ _ _ _ _ _ _ (h.below hA) ha hs).mono ?_
  rintro r w1 ⟨rfl, h1, hF1⟩
  obtain ⟨m0, m1, m2, m3, m4⟩ := msg_frame (msg_new w k M N R T) hF1 (by omega) (by simp)
  have hF := (Frame2.of_below B none hA).trans hF1
  clear hA hF1
  obtain ⟨d0, d1, d2, d3, d4⟩ := h1.cell
  go_wp2_with fail
  refine (kind_any k M N R T p d w1 hd hp).mono ?_
  rintro r w2 ⟨rfl, hb2⟩
  have h2 := h1.below hb2
  obtain ⟨f0, f1, f2, f3, f4⟩ := h2.cell
  go_wp2_with (go_at_call 102; refine (no_first _ _ _ _ _ _ _ _ 7 a h2).mono ?_; rintro e w3 ⟨rfl, h3, hF3⟩; obtain ⟨g0, g1, g2, g3, g4⟩ := h3.cell)
  all_goals go_returns
  all_goals exact ⟨rfl, h3, (hF.then hb2).trans hF3⟩
end Go.Proofs.YtlndinigbppafaaGreat

/-
  The walk of the document's reader at a node whose first byte is right.
-/
namespace Go.Proofs.YtlndinigbppafaaGreat
open Go.RowKit

/-- A node's value in a block of its own. -/
def NAt (w : World) (H : Nat) (x : PN) : Prop := w.heap[H]? = some (.cells #[.int .i64 x.kind, .int .i64 x.dig, .string x.ev] 116 (0, 0))
theorem NAt.cell {w : World} {H : Nat} {x : PN} (h : NAt w H x) : w.cell? ⟨H, 0, none⟩ = some (.int .i64 x.kind) ∧ w.cell? ⟨H, 1, none⟩ = some (.int .i64 x.dig) ∧ w.cell? ⟨H, 2, none⟩ = some (.string x.ev) := by
  refine ⟨?_, ?_, ?_⟩ <;> (rw [cell_of_row _ _ _ _ _ _ h]; rfl)
theorem NAt.frozen {w : World} {H : Nat} {x : PN} (h : NAt w H x) (j : Nat) : w.frozen? ⟨H, j, none⟩ = false := by
  unfold World.frozen?; rw [h]; simp
theorem NAt.frame {w w' : World} {H B : Nat} {row : Option Nat} {x : PN} (h : NAt w H x) (hF : Frame2 w w' B row) (hB : H ≠ B) (hr : some H ≠ row) : NAt w' H x := by
  unfold NAt; rw [hF.block H (lt_of_heap h) hB hr]; exact h
theorem NAt.below {w w' : World} {H : Nat} {x : PN} (h : NAt w H x) (hb : Below w.heap.size w w') : NAt w' H x := by
  unfold NAt; rw [hb.block H (lt_of_heap h)]; exact h
theorem NAt.set1 {w : World} {H : Nat} {x : PN} (h : NAt w H x) (g : Int) : NAt (w.setCell ⟨H, 1, none⟩ (.int .i64 g)) H ⟨x.kind, g, x.ev⟩ := by
  unfold NAt at h ⊢; simp [World.setCell, Array.getElem?_modify, h]
theorem NAt.set2 {w : World} {H : Nat} {x : PN} (h : NAt w H x) (t : ByteArray) : NAt (w.setCell ⟨H, 2, none⟩ (.string t)) H ⟨x.kind, x.dig, t⟩ := by
  unfold NAt at h ⊢; simp [World.setCell, Array.getElem?_modify, h]
theorem ScanAt.setFar {w : World} {b0 B : Nat} {s : ByteArray} {a e q : Int} {V : Value} {ns : List PN} (h : ScanAt w b0 B s a e q V ns) (H j : Nat) (u : Value) (hB : H ≠ B) (hr : V.ownBlock ≠ some H) : ScanAt (w.setCell ⟨H, j, none⟩ u) b0 B s a e q V ns :=
  ⟨h.1, by rw [Below.heap_setCell _ _ _ _ (show B ≠ H from fun e => hB e.symm)]; exact h.2.1, ownsRow_setCell_other h.2.2 hr _⟩
theorem ScanAt.row_lt {w : World} {b0 B : Nat} {s : ByteArray} {a e q : Int} {V : Value} {ns : List PN} (h : ScanAt w b0 B s a e q V ns) : ∀ g, V.ownBlock = some g → g < w.heap.size ∧ b0 ≤ g := by
  intro g hg
  rcases h.2.2.2 with ⟨rfl, _⟩ | ⟨g', cap, cur, rfl, hb, hgg, _⟩
  · simp [Value.ownBlock] at hg
  · simp [Value.ownBlock] at hg
    subst hg
    exact ⟨lt_of_heap hgg, hb⟩

/-- A store into a block that is neither. -/
theorem Frame2.put {w w' : World} {B H j : Nat} {u : Value} (h : Frame2 w w' B none) : Frame2 w (w'.setCell ⟨H, j, none⟩ u) B (some H) :=
  ⟨h.os, h.tape, h.output, by simpa [World.setCell] using h.size, fun k hk hB hr => by rw [Below.heap_setCell _ _ _ _ (show k ≠ H from fun e => hr (by rw [e]))]; exact h.block k hk hB (by simp)⟩
/-- The cells of one of its nodes. -/
theorem ScanAt.at {w : World} {b0 B : Nat} {s : ByteArray} {a e q : Int} {V : Value} {ns : List PN} (h : ScanAt w b0 B s a e q V ns) (g n cap : Nat) (hV : V = .slice (some ⟨g, 0, none⟩) n cap) (i : Nat) (hi : i < ns.length) :
    (∃ u, w.cell? ⟨g, i * 3, none⟩ = some u) ∧ (∃ u, w.cell? ⟨g, i * 3 + 1, none⟩ = some u) ∧ (∃ u, w.cell? ⟨g, i * 3 + 2, none⟩ = some u) ∧ (∀ j, w.frozen? ⟨g, j, none⟩ = false) := by
  subst hV
  rcases h.2.2.2 with ⟨hx, _⟩ | ⟨g', cap', cur, hx, _, hgg, hle, _, hsz, _⟩
  · cases hx
  · simp only [Value.slice.injEq, Option.some.injEq, Addr.mk.injEq] at hx
    obtain ⟨⟨rfl, _, _⟩, _, rfl⟩ := hx
    rw [cell_of_row _ _ _ _ _ _ hgg, cell_of_row _ _ _ _ _ _ hgg, cell_of_row _ _ _ _ _ _ hgg]
    have hc : ∀ j, j < cur.size → ∃ u, cur[j]? = some u := fun j hj => ⟨_, Array.getElem?_eq_getElem hj⟩
    have h3 : i * 3 + 2 < cur.size := by rw [hsz]; omega
    exact ⟨hc _ (by omega), hc _ (by omega), hc _ h3, fun j => by unfold World.frozen?; rw [hgg]; simp⟩

theorem cellsN_cons (x : PN) (ns : List PN) : cellsN (x :: ns) = .int .i64 x.kind :: .int .i64 x.dig :: .string x.ev :: cellsN ns := by
  unfold cellsN; rw [List.map_cons, List.flatten_cons]; rfl
theorem cellsN_set (ns : List PN) (i : Nat) (x : PN) (hi : i < ns.length) : cellsN (ns.set i x) = (((cellsN ns).set (i * 3) (.int .i64 x.kind)).set (i * 3 + 1) (.int .i64 x.dig)).set (i * 3 + 2) (.string x.ev) := by
  induction ns generalizing i with
  | nil => simp at hi
  | cons y ns ih =>
    cases i with
    | zero => rw [List.set_cons_zero, cellsN_cons, cellsN_cons]; rfl
    | succ i =>
      rw [List.set_cons_succ, cellsN_cons, cellsN_cons, ih i (by simpa using hi)]
      rw [show (i + 1) * 3 = i * 3 + 1 + 1 + 1 by omega]
      simp only [List.set_cons_succ]
/-- A node is written over. -/
theorem scan_put {w : World} {b0 B g n cap : Nat} {s : ByteArray} {a e q : Int} {ns : List PN} (h : ScanAt w b0 B s a e q (.slice (some ⟨g, 0, none⟩) n cap) ns) (x : PN) (i : Nat) (hi : i < ns.length) :
    ScanAt (((w.setCell ⟨g, i * 3, none⟩ (.int .i64 x.kind)).setCell ⟨g, i * 3 + 1, none⟩ (.int .i64 x.dig)).setCell ⟨g, i * 3 + 2, none⟩ (.string x.ev)).drew b0 B s a e q (.slice (some ⟨g, 0, none⟩) n cap) (ns.set i x) ∧
    Frame2 w (((w.setCell ⟨g, i * 3, none⟩ (.int .i64 x.kind)).setCell ⟨g, i * 3 + 1, none⟩ (.int .i64 x.dig)).setCell ⟨g, i * 3 + 2, none⟩ (.string x.ev)).drew B (some g) := by
  have hne := h.row_ne
  have hgB : B ≠ g := fun e => hne (by rw [e]; rfl)
  have hot : ∀ k, k ≠ g → (((w.setCell ⟨g, i * 3, none⟩ (.int .i64 x.kind)).setCell ⟨g, i * 3 + 1, none⟩ (.int .i64 x.dig)).setCell ⟨g, i * 3 + 2, none⟩ (.string x.ev)).drew.heap[k]? = w.heap[k]? := fun k hk => by
    show (((w.setCell ⟨g, i * 3, none⟩ (.int .i64 x.kind)).setCell ⟨g, i * 3 + 1, none⟩ (.int .i64 x.dig)).setCell ⟨g, i * 3 + 2, none⟩ (.string x.ev)).heap[k]? = w.heap[k]?
    rw [Below.heap_setCell _ _ _ _ hk, Below.heap_setCell _ _ _ _ hk, Below.heap_setCell _ _ _ _ hk]
  refine ⟨⟨h.1, by rw [hot B hgB]; exact h.2.1, ?_⟩, ⟨rfl, rfl, rfl, by simp [World.setCell], fun k _ _ hr => hot k (fun e => hr (by rw [e]))⟩⟩
  obtain ⟨h1, h2⟩ := h.2.2
  refine ⟨by rw [cellsN_length, List.length_set], ?_⟩
  rcases h2 with ⟨hx, _⟩ | ⟨g', cap', cur, hx, hb, hgg, hle, hmax, hsz, htake⟩
  · cases hx
  · simp only [Value.slice.injEq, Option.some.injEq, Addr.mk.injEq] at hx
    obtain ⟨⟨rfl, _, _⟩, rfl, rfl⟩ := hx
    refine .inr ⟨g, cap, ((cur.setIfInBounds (i * 3) (.int .i64 x.kind)).setIfInBounds (i * 3 + 1) (.int .i64 x.dig)).setIfInBounds (i * 3 + 2) (.string x.ev), ?_, hb, ?_, ?_, hmax, by simpa using hsz, ?_⟩
    · rw [List.length_set]
    · show (((w.setCell ⟨g, i * 3, none⟩ (.int .i64 x.kind)).setCell ⟨g, i * 3 + 1, none⟩ (.int .i64 x.dig)).setCell ⟨g, i * 3 + 2, none⟩ (.string x.ev)).heap[g]? = _
      simp [World.setCell, Array.getElem?_modify, hgg]
    · rw [List.length_set]; exact hle
    · rw [cellsN_set ns i x hi, ← htake, List.length_set]
      simp only [Array.toList_setIfInBounds, List.take_set]

theorem set_last (ns : List PN) (x y : PN) : (ns ++ [x]).set ns.length y = ns ++ [y] := by simp
/-- The frames of a node's walk, one behind the other. -/
theorem Frame2.close {w w3 w5 w7 w8 : World} {B H g n cap : Nat} {V : Value} (hF3 : Frame2 w w3 B none) (hK5 : Kept w3 w5 B V (.slice (some ⟨g, 0, none⟩) n cap)) (hF7 : Frame2 w5 w7 B (some H)) (hF8 : Frame2 w7 w8 B (some g)) (hH : w.heap.size ≤ H) : Kept w w8 B V (.slice (some ⟨g, 0, none⟩) n cap) := by
  obtain ⟨hF5, hat⟩ := hK5
  have hr : V.ownBlock = some g ∨ w3.heap.size ≤ g := by
    rcases hat with e | ⟨g', e, hg'⟩
    · left; rw [← e]; rfl
    · right; simp [Value.ownBlock] at e; omega
  refine ⟨⟨hF8.os.trans (hF7.os.trans (hF5.os.trans hF3.os)), hF8.tape.trans (hF7.tape.trans (hF5.tape.trans hF3.tape)), hF8.output.trans (hF7.output.trans (hF5.output.trans hF3.output)), ?_, fun k hk hkB hkr => ?_⟩, ?_⟩
  · exact Nat.le_trans hF3.size (Nat.le_trans hF5.size (Nat.le_trans hF7.size hF8.size))
  · have s3 := hF3.size
    have s5 := hF5.size
    have s7 := hF7.size
    rw [hF8.block k (by omega) hkB (fun e => ?_), hF7.block k (by omega) hkB (fun e => by cases e; omega), hF5.block k (by omega) hkB hkr, hF3.block k hk hkB (by simp)]
    cases e
    rcases hr with hr | hr
    · exact hkr hr.symm
    · omega
  · rcases hat with e | ⟨g', e, hg'⟩
    · exact .inl e
    · exact .inr ⟨g', e, Nat.le_trans hF3.size hg'⟩

/-- What is left behind an append. -/
theorem scan_appended {w3 w4 : World} {b0 B g cap2 : Nat} {s : ByteArray} {a e q : Int} {V : Value} {ns : List PN} {x : PN} {X : Obj} (h : ScanAt w3 b0 B s a e q V ns)
    (hown : w4.ownsRow b0 116 3 (.slice (some ⟨g, 0, none⟩) (ns.length + 1) cap2) (ns.length + 1) (cellsN ns ++ cellsN [x])) (hgrow : (w3.drew.alloc X).grownBy w4 V.ownBlock) (hat : V.ownBlock = some g ∨ g = (w3.drew.alloc X).heap.size) :
    ScanAt (w4.setCell ⟨B, 4, none⟩ (.slice (some ⟨g, 0, none⟩) (ns.length + 1) cap2)) b0 B s a e q (.slice (some ⟨g, 0, none⟩) (ns.length + 1) cap2) (ns ++ [x]) ∧ Kept w3 (w4.setCell ⟨B, 4, none⟩ (.slice (some ⟨g, 0, none⟩) (ns.length + 1) cap2)) B V (.slice (some ⟨g, 0, none⟩) (ns.length + 1) cap2) := by
  have hne := h.row_ne
  have hBlt := lt_of_heap h.2.1
  have hgB : g ≠ B := by
    rcases hat with hat | hat
    · intro e; rw [hat, e] at hne; exact hne rfl
    · rw [hat]; simp; omega
  have hB2 : w4.heap[B]? = some (.cells #[.string s, .int .i64 a, .int .i64 e, .int .i64 q, V] 170 (0, 0)) := by
    rw [hgrow.block B (by simp; omega) (fun e => hne e.symm), Below.heap_alloc _ _ _ (by simp; omega)]
    exact h.2.1
  have hother : ∀ k, k ≠ B → (w4.setCell ⟨B, 4, none⟩ (.slice (some ⟨g, 0, none⟩) (ns.length + 1) cap2)).heap[k]? = w4.heap[k]? := fun k hk => Below.heap_setCell _ _ _ _ hk
  refine ⟨⟨h.1, ?_, ?_⟩, ⟨?_, ?_, ?_, ?_, fun k hk hkB hkr => ?_⟩, ?_⟩
  · simp [World.setCell, Array.getElem?_modify, hB2]
  · rw [List.length_append, cellsN_append]
    exact ownsRow_setCell_other hown (by simpa [Value.ownBlock] using hgB) _
  · exact hgrow.os
  · exact hgrow.tape
  · exact hgrow.output
  · have := hgrow.size
    simp at this
    simp [World.setCell]
    omega
  · rw [hother k hkB, hgrow.block k (by simp; omega) hkr, Below.heap_alloc _ _ _ (by simpa using hk)]
    rfl
  · rcases hat with h | h
    · left; rw [h]; rfl
    · right; refine ⟨g, rfl, ?_⟩; rw [h]; simp

set_option maxRecDepth 100000 in
set_option maxHeartbeats 1000000 in
theorem node_stub (w : World) (b0 B : Nat) (s : ByteArray) (a : Nat) (q : Int) (V : Value) (ns : List PN) (k M N R : Int) (T : Value) (p d : Nat) (h : ScanAt w b0 B s a 0 q V ns) (ha : a < s.size) (hk : (s[a].toNat : Int) = 0) (hk2 : kindOf k M N p d = 0) (hs : s.size ≤ 4000) (hd : d ≤ 16) (hp : p ≤ 1000000) (hn : ns.length ≤ 100000) (hb0 : b0 ≤ w.heap.size) :
    Calls Tryz.prog 104 #[.pointer (some ⟨B, 0, none⟩), .agg #[.int .i64 k, .int .i64 M, .int .i64 N, .int .i64 R, T], .int .i64 p, .int .i64 d] w fun r w' => r = .returned (.tuple #[]) ∧
      ∃ V', ScanAt w' b0 B s (nuA s (a + 1) 0) (nuE s (a + 1) 0) (nuQ s (a + 1) 0 q) V' (ns ++ [⟨0, nuR s (a + 1) 0, ByteArray.empty⟩]) ∧ Kept w w' B V V' := by
  obtain ⟨i0, hi, hz0, hz1, hz2⟩ := info_parts Tryz.infoNode
  obtain ⟨c0, c1, c2, c3, c4⟩ := h.cell
  have hB := lt_of_heap h.2.1
  have hA : Below w.heap.size w (w.alloc (.cells #[.int .i64 k, .int .i64 M, .int .i64 N, .int .i64 R, T] 63)) := (Below.refl _ _).alloc (Nat.le_refl _) _
  go_enter Tryz.func104, Tryz.ntmps104
  go_wp2_with fail
  refine (next_ok _ _ _ _ _ _ _ _ (h.below hA) ha hs).mono ?_
  rintro r w1 ⟨rfl, h1, hF1⟩
  obtain ⟨m0, m1, m2, m3, m4⟩ := msg_frame (msg_new w k M N R T) hF1 (by omega) (by simp)
  have hF := (Frame2.of_below B none hA).trans hF1
  clear hA hF1
  obtain ⟨d0, d1, d2, d3, d4⟩ := h1.cell
  rw [hk]
  go_wp2_with fail
  refine (kind_any k M N R T p d w1 hd hp).mono ?_
  rintro r w2 ⟨rfl, hb2⟩
  rw [hk2]
  have h2 := h1.below hb2
  obtain ⟨f0, f1, f2, f3, f4⟩ := h2.cell
  obtain ⟨ao, cap, rfl, _⟩ := id (NodesAt.of_owns h2.2.2)
  have hB2 := lt_of_heap h2.2.1
  go_wp2
  have h3 := h2.below ((Below.refl _ _).alloc (Nat.le_refl _) (.cells #[.int .i64 0, .int .i64 0, .string ⟨#[]⟩] 116))
  have hN3 : NAt (w2.alloc (.cells #[.int .i64 0, .int .i64 0, .string ⟨#[]⟩] 116)) w2.heap.size ⟨0, 0, ⟨#[]⟩⟩ := heap_alloc_new _ _
  have hF3 := (hF.then hb2).then ((Below.refl _ _).alloc (Nat.le_refl _) (.cells #[.int .i64 0, .int .i64 0, .string ⟨#[]⟩] 116))
  have hVH : (Value.slice ao ns.length cap).ownBlock ≠ some w2.heap.size := fun x => by have := (h2.row_lt _ x).1; omega
  have hHw : w.heap.size ≤ w2.heap.size := (hF.then hb2).size
  generalize (w2.alloc (.cells #[.int .i64 0, .int .i64 0, .string ⟨#[]⟩] 116)) = w3 at *
  generalize w2.heap.size = H at *
  have hH3 := lt_of_heap hN3
  have c3' := h3.cell
  obtain ⟨g0, g1, g2, g3, g4⟩ := c3'
  obtain ⟨n0, n1, n2⟩ := hN3.cell
  have hne := h3.row_ne
  have hB3 := lt_of_heap h3.2.1
  clear c0 c1 c2 c3 c4 m0 m1 m2 m3 m4 d0 d1 d2 d3 d4 f0 f1 f2 f3 f4 hF hb2 h1 h2
  go_region_law (first
    | (refine step_append_lies _ rfl (.tmp 53) (.tmp 55) 61 rfl b0 116 i0 (.agg #[.int .i64 0, .int .i64 0, .string ByteArray.empty]) 3 32 Tryz.underlying61 hi hz0 hz1 hz2 rfl (by decide) (.slice ao ns.length cap) ns.length (cellsN ns) (by simp [Act.eval]) (h3.below ((Below.refl _ _).drew) |>.2.2.alloc _) ⟨w3.heap.size, 0, none⟩ 1 1 (cellsN [⟨0, 0, ⟨#[]⟩⟩]) (by simp [Act.eval]) rfl (World.news_of_block (heap_alloc_new w3.drew _)) (cellsN_one _) (by decide) (by unfold maxLen; omega) (by omega) (by simp; omega) _ rfl ?_; intro gg cap2 w4 hown4 hgrow4 hat4 hlt4; have c4 : w4.cell? ⟨B, 4, none⟩ = some (.slice ao ns.length cap) := (hgrow4.cell_far ⟨B, 4, none⟩ (by simp; omega) (fun e => hne e.symm)).trans (cell_keep g4 ((Below.refl _ _).drew.alloc (Nat.le_refl _) _)); have z4 : w4.frozen? ⟨B, 4, none⟩ = false := (hgrow4.frozen_far ⟨B, 4, none⟩ (by simp; omega) (fun e => hne e.symm)).trans (frozen_keep g4 (h3.frozen 4) ((Below.refl _ _).drew.alloc (Nat.le_refl _) _))))
  all_goals
    obtain ⟨h5, hK5⟩ := scan_appended (x := ⟨0, 0, ⟨#[]⟩⟩) h3 hown4 hgrow4 hat4
    have hN5 : NAt (w4.setCell ⟨B, 4, none⟩ (.slice (some ⟨gg, 0, none⟩) (ns.length + 1) cap2)) H ⟨0, 0, ⟨#[]⟩⟩ := hN3.frame hK5.1 (by omega) (fun e => hVH e.symm)
    have hVH5 : (Value.slice (some ⟨gg, 0, none⟩) (ns.length + 1) cap2).ownBlock ≠ some H := by
      rcases hK5.2 with e | ⟨g', e, hg'⟩
      · rw [e]; exact hVH
      · rw [e]; intro x; cases x; omega
    have hlt5 : H < (w4.setCell ⟨B, 4, none⟩ (.slice (some ⟨gg, 0, none⟩) (ns.length + 1) cap2)).heap.size := lt_of_heap hN5
    clear hown4 hgrow4 hat4 c4 z4 g0 g1 g2 g3 g4 n0 n1 n2 hne hlt4
    generalize w4.setCell ⟨B, 4, none⟩ (.slice (some ⟨gg, 0, none⟩) (ns.length + 1) cap2) = w5 at *
    have hB5 := lt_of_heap h5.2.1
    obtain ⟨c0, c1, c2, c3, c4⟩ := h5.cell
    obtain ⟨n0, n1, n2⟩ := hN5.cell
  all_goals
    go_wp2_with (go_at_call 103; refine (number_any _ _ _ _ _ _ _ _ _ h5 hs).mono ?_; rintro r w6 ⟨rfl, h6, hF6⟩; have hN6 : NAt w6 H ⟨0, 0, ⟨#[]⟩⟩ := hN5.frame hF6 (by omega) (by simp); have z6 := hN6.frozen 1; obtain ⟨e0, e1, e2⟩ := hN6.cell; have hH6 := lt_of_heap hN6)
  all_goals
    have h7 := h6.setFar H 1 (.int .i64 (nuR s (a + 1) 0)) (by omega) hVH5
    have hN7 := hN6.set1 (nuR s (a + 1) 0)
    have hF7 : Frame2 w5 (w6.setCell ⟨H, 1, none⟩ (.int .i64 (nuR s (a + 1) 0))) B (some H) := hF6.put
    clear h6 hN6 hF6 z6 e0 e1 e2 hH6 c0 c1 c2 c3 c4 n0 n1 n2
    generalize w6.setCell ⟨H, 1, none⟩ (.int .i64 (nuR s (a + 1) 0)) = w7 at *
    obtain ⟨c0, c1, c2, c3, c4⟩ := h7.cell
    obtain ⟨n0, n1, n2⟩ := hN7.cell
    obtain ⟨⟨u0, p0⟩, ⟨u1, p1⟩, ⟨u2, p2⟩, pz⟩ := h7.at gg (ns.length + 1) cap2 rfl ns.length (by simp)
    have z0 := pz (ns.length * 3)
    have z1 := pz (ns.length * 3 + 1)
    have z2 := pz (ns.length * 3 + 2)
  all_goals go_region
  all_goals
    obtain ⟨h8, hF8⟩ := scan_put h7 ⟨0, nuR s (a + 1) 0, ⟨#[]⟩⟩ ns.length (by simp)
    rw [set_last] at h8
  all_goals go_returns
  all_goals exact ⟨rfl, _, h8, hF3.close hK5 hF7 hF8 hHw⟩
end Go.Proofs.YtlndinigbppafaaGreat
