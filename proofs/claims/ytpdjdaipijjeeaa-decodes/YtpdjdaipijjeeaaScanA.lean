/-
  The walks of the document's reader: the bytes and numbers of a message.
-/
import Derived.Test.YtpdjdaipijjeeaaOwn
import Derived.Test.YtpdjdaipijjeeaaDecB
import Derived.Test.YtpdjdaipijjeeaaRefA
import Derived.Handy
import Derived.OneCell
namespace Go.Proofs.Ytpdjdaipijjeeaa
open Go.RowKit

/-- A reader: its own block, and its row of nodes. -/
def ScanAt (w : World) (b0 B : Nat) (s : ByteArray) (a e q : Int) (V : Value) (ns : List PN) : Prop :=
  b0 ≤ B ∧ w.heap[B]? = some (.cells #[.string s, .int .i64 a, .int .i64 e, .int .i64 q, V] 96 (0, 0)) ∧ w.ownsRow b0 100 3 V ns.length (cellsN ns)

theorem ScanAt.cell {w : World} {b0 B : Nat} {s : ByteArray} {a e q : Int} {V : Value} {ns : List PN} (h : ScanAt w b0 B s a e q V ns) :
    w.cell? ⟨B, 0, none⟩ = some (.string s) ∧ w.cell? ⟨B, 1, none⟩ = some (.int .i64 a) ∧ w.cell? ⟨B, 2, none⟩ = some (.int .i64 e) ∧ w.cell? ⟨B, 3, none⟩ = some (.int .i64 q) ∧ w.cell? ⟨B, 4, none⟩ = some V := by
  refine ⟨?_, ?_, ?_, ?_, ?_⟩ <;> (rw [cell_of_row _ _ _ _ _ _ h.2.1]; rfl)
theorem ScanAt.frozen {w : World} {b0 B : Nat} {s : ByteArray} {a e q : Int} {V : Value} {ns : List PN} (h : ScanAt w b0 B s a e q V ns) (j : Nat) : w.frozen? ⟨B, j, none⟩ = false := by
  unfold World.frozen?; rw [h.2.1]; simp
theorem ScanAt.row_ne {w : World} {b0 B : Nat} {s : ByteArray} {a e q : Int} {V : Value} {ns : List PN} (h : ScanAt w b0 B s a e q V ns) : V.ownBlock ≠ some B := by
  intro x
  rcases h.2.2.2 with ⟨rfl, _⟩ | ⟨g, cap, cur, rfl, _, hgg, _⟩
  · simp [Value.ownBlock] at x
  · simp [Value.ownBlock] at x
    subst x
    have := h.2.1
    rw [hgg] at this
    simp at this
theorem ScanAt.below {w w' : World} {b0 B : Nat} {s : ByteArray} {a e q : Int} {V : Value} {ns : List PN} (h : ScanAt w b0 B s a e q V ns) (hb : Below w.heap.size w w') : ScanAt w' b0 B s a e q V ns := by
  obtain ⟨h0, h1, h2⟩ := h
  exact ⟨h0, by rw [hb.block B (lt_of_heap h1)]; exact h1, owns_below h2 hb⟩
/-- A store into one of its numbers. -/
theorem ScanAt.set1 {w : World} {b0 B : Nat} {s : ByteArray} {a e q : Int} {V : Value} {ns : List PN} (h : ScanAt w b0 B s a e q V ns) (x : Int) : ScanAt (w.setCell ⟨B, 1, none⟩ (.int .i64 x)) b0 B s x e q V ns :=
  ⟨h.1, by simp [World.setCell, Array.getElem?_modify, h.2.1], ownsRow_setCell_other h.2.2 h.row_ne _⟩
theorem ScanAt.set2 {w : World} {b0 B : Nat} {s : ByteArray} {a e q : Int} {V : Value} {ns : List PN} (h : ScanAt w b0 B s a e q V ns) (x : Int) : ScanAt (w.setCell ⟨B, 2, none⟩ (.int .i64 x)) b0 B s a x q V ns :=
  ⟨h.1, by simp [World.setCell, Array.getElem?_modify, h.2.1], ownsRow_setCell_other h.2.2 h.row_ne _⟩
theorem ScanAt.set3 {w : World} {b0 B : Nat} {s : ByteArray} {a e q : Int} {V : Value} {ns : List PN} (h : ScanAt w b0 B s a e q V ns) (x : Int) : ScanAt (w.setCell ⟨B, 3, none⟩ (.int .i64 x)) b0 B s a e x V ns :=
  ⟨h.1, by simp [World.setCell, Array.getElem?_modify, h.2.1], ownsRow_setCell_other h.2.2 h.row_ne _⟩

theorem Frame2.refl (w : World) (B : Nat) (row : Option Nat) : Frame2 w w B row := ⟨rfl, rfl, rfl, Nat.le_refl _, fun _ _ _ _ => rfl⟩
theorem Frame2.set (w w' : World) (B j : Nat) (row : Option Nat) (u : Value) (h : Frame2 w w' B row) : Frame2 w (w'.setCell ⟨B, j, none⟩ u) B row :=
  ⟨h.os, h.tape, h.output, by simpa [World.setCell] using h.size, fun k hk hB hr => by rw [Below.heap_setCell _ _ _ _ hB]; exact h.block k hk hB hr⟩

theorem Frame2.then {w w' w'' : World} {B : Nat} {row : Option Nat} (h : Frame2 w w' B row) (hb : Below w'.heap.size w' w'') : Frame2 w w'' B row :=
  ⟨hb.os.trans h.os, hb.tape.trans h.tape, hb.output.trans h.output, Nat.le_trans h.size hb.size, fun k hk hB hr => (hb.block k (Nat.lt_of_lt_of_le hk h.size)).trans (h.block k hk hB hr)⟩
theorem Frame2.trans {w w' w'' : World} {B : Nat} {row row' : Option Nat} (h : Frame2 w w' B row) (h' : Frame2 w' w'' B row') (hr : row' = none ∨ row' = row ∨ ∃ g, row' = some g ∧ w.heap.size ≤ g := by exact Or.inl rfl) : Frame2 w w'' B row :=
  ⟨h'.os.trans h.os, h'.tape.trans h.tape, h'.output.trans h.output, Nat.le_trans h.size h'.size, fun k hk hB hk2 => (h'.block k (Nat.lt_of_lt_of_le hk h.size) hB (by
    rcases hr with rfl | rfl | ⟨g, rfl, hg⟩
    · simp
    · exact hk2
    · intro e; cases e; omega)).trans (h.block k hk hB hk2)⟩
theorem Frame2.of_below {w w' : World} (B : Nat) (row : Option Nat) (hb : Below w.heap.size w w') : Frame2 w w' B row := (Frame2.refl w B row).then hb
theorem below_qn (w : World) (n : Nat) : Below w.heap.size w (w.drewN n) := below_drewN (Below.refl _ _) n

set_option maxRecDepth 100000 in
set_option maxHeartbeats 400000 in
theorem no_first (w : World) (b0 B : Nat) (s : ByteArray) (a q : Int) (V : Value) (ns : List PN) (x y : Int) (h : ScanAt w b0 B s a 0 q V ns) :
    Calls Try.prog 57 #[.pointer (some ⟨B, 0, none⟩), .int .i64 x, .int .i64 y] w fun r w' => r = .returned (.tuple #[]) ∧ ScanAt w' b0 B s a x y V ns ∧ Frame2 w w' B none := by
  obtain ⟨c0, c1, c2, c3, c4⟩ := h.cell
  have z2 := h.frozen 2
  have z3 := h.frozen 3
  have hB := lt_of_heap h.2.1
  have HS := (h.set2 x).set3 y
  have HF := (Frame2.refl w B none).set _ _ B 2 none (.int .i64 x) |>.set _ _ B 3 none (.int .i64 y)
  go_enter Try.func57, Try.ntmps57
  go_wp2
  go_returns
  exact ⟨rfl, HS, HF⟩

set_option maxRecDepth 100000 in
set_option maxHeartbeats 400000 in
theorem no_more (w : World) (b0 B : Nat) (s : ByteArray) (a e q : Int) (V : Value) (ns : List PN) (x y : Int) (h : ScanAt w b0 B s a e q V ns) (he : e ≠ 0) :
    Calls Try.prog 57 #[.pointer (some ⟨B, 0, none⟩), .int .i64 x, .int .i64 y] w fun r w' => r = .returned (.tuple #[]) ∧ w' = w := by
  obtain ⟨c0, c1, c2, c3, c4⟩ := h.cell
  have heb : (e == 0) = false := beq_eq_false_iff_ne.2 he
  go_enter Try.func57, Try.ntmps57
  go_wp2
  go_returns
  exact ⟨rfl, rfl⟩

theorem get_int (s : ByteArray) (a : Nat) (h : a < s.size) : s.data.toList[a]? = some s[a] := by
  rw [Array.getElem?_toList, Array.getElem?_eq_getElem (show a < s.data.size from h)]; rfl

set_option maxRecDepth 100000 in
set_option maxHeartbeats 400000 in
theorem next_ok (w : World) (b0 B : Nat) (s : ByteArray) (a : Nat) (q : Int) (V : Value) (ns : List PN) (h : ScanAt w b0 B s a 0 q V ns) (ha : a < s.size) (hs : s.size ≤ 4000) :
    Calls Try.prog 56 #[.pointer (some ⟨B, 0, none⟩)] w fun r w' => r = .returned (.int .i64 s[a].toNat) ∧ ScanAt w' b0 B s (a + 1 : Nat) 0 q V ns ∧ Frame2 w w' B none := by
  obtain ⟨c0, c1, c2, c3, c4⟩ := h.cell
  have z1 := h.frozen 1
  have hB := lt_of_heap h.2.1
  go_enter Try.func56, Try.ntmps56
  go_wp2
  go_quiet (fail)
  go_wp2
  go_quiet (fail)
  go_wp2
  go_returns
  exact ⟨ret_int (by have := s[a].toNat_lt; go_arith), ((h.below (below_qn _ _)).set1 _).below (below_qn _ _), ((Frame2.of_below B none (below_qn w _)).set _ _ B 1 none _).then (below_qn _ _)⟩

set_option maxRecDepth 100000 in
set_option maxHeartbeats 400000 in
theorem next_end (w : World) (b0 B : Nat) (s : ByteArray) (a : Nat) (q : Int) (V : Value) (ns : List PN) (h : ScanAt w b0 B s a 0 q V ns) (ha : s.size ≤ a) :
    Calls Try.prog 56 #[.pointer (some ⟨B, 0, none⟩)] w fun r w' => r = .returned (.int .i64 0) ∧ ScanAt w' b0 B s a 5 s.size V ns ∧ Frame2 w w' B none := by
  obtain ⟨c0, c1, c2, c3, c4⟩ := h.cell
  go_enter Try.func56, Try.ntmps56
  go_wp2
  go_quiet (fail)
  go_wp2_with (go_at_call 57; refine (no_first _ _ _ _ _ _ _ _ 5 s.size (h.below (below_qn _ _))).mono ?_; rintro e w' ⟨rfl, h', hF⟩; obtain ⟨d0, d1, d2, d3, d4⟩ := h'.cell)
  go_returns
  exact ⟨rfl, h', (Frame2.of_below B none (below_qn w _)).trans hF⟩

set_option maxRecDepth 100000 in
set_option maxHeartbeats 400000 in
theorem next_err (w : World) (b0 B : Nat) (s : ByteArray) (a : Nat) (e q : Int) (V : Value) (ns : List PN) (h : ScanAt w b0 B s a e q V ns) (he : e ≠ 0) :
    Calls Try.prog 56 #[.pointer (some ⟨B, 0, none⟩)] w fun r w' => r = .returned (.int .i64 0) ∧ Below w.heap.size w w' := by
  obtain ⟨c0, c1, c2, c3, c4⟩ := h.cell
  have heb : (e == 0) = false := beq_eq_false_iff_ne.2 he
  by_cases ha : a < s.size
  · go_enter Try.func56, Try.ntmps56
    go_wp2
    go_quiet (fail)
    go_wp2
    go_returns
    exact ⟨rfl, below_qn _ _⟩
  · go_enter Try.func56, Try.ntmps56
    go_wp2
    go_quiet (fail)
    go_wp2_with (go_at_call 57; refine (no_more _ _ _ _ _ _ _ _ _ 5 s.size (h.below (below_qn _ _)) he).mono ?_; rintro e w' ⟨rfl, rfl⟩)
    go_returns
    exact ⟨rfl, below_qn _ _⟩

/-- A byte is read: what comes, the place, the error and its place behind it. -/
def nxR (s : ByteArray) (a : Nat) (e : Int) : Int := if h : e = 0 ∧ a < s.size then s[a].toNat else 0
def nxA (s : ByteArray) (a : Nat) (e : Int) : Nat := if e = 0 ∧ a < s.size then a + 1 else a
def nxE (s : ByteArray) (a : Nat) (e : Int) : Int := if e = 0 then (if a < s.size then 0 else 5) else e
def nxQ (s : ByteArray) (a : Nat) (e q : Int) : Int := if e = 0 then (if a < s.size then q else s.size) else q
theorem nxR_bd (s : ByteArray) (a : Nat) (e : Int) : 0 ≤ nxR s a e ∧ nxR s a e ≤ 255 := by
  unfold nxR
  split
  · have := (s[a]).toNat_lt; omega
  · omega
theorem nxA_le (s : ByteArray) (a : Nat) (e : Int) (h : a ≤ s.size) : nxA s a e ≤ s.size := by
  unfold nxA; split <;> omega

theorem next_any (w : World) (b0 B : Nat) (s : ByteArray) (a : Nat) (e q : Int) (V : Value) (ns : List PN) (h : ScanAt w b0 B s a e q V ns) (hs : s.size ≤ 4000) :
    Calls Try.prog 56 #[.pointer (some ⟨B, 0, none⟩)] w fun r w' => r = .returned (.int .i64 (nxR s a e)) ∧ ScanAt w' b0 B s (nxA s a e) (nxE s a e) (nxQ s a e q) V ns ∧ Frame2 w w' B none := by
  by_cases he : e = 0
  · subst he
    by_cases ha : a < s.size
    · have e1 : nxR s a 0 = s[a].toNat := dif_pos ⟨rfl, ha⟩
      have e2 : nxA s a 0 = a + 1 := if_pos ⟨rfl, ha⟩
      have e3 : nxE s a 0 = 0 := by unfold nxE; rw [if_pos rfl, if_pos ha]
      have e4 : nxQ s a 0 q = q := by unfold nxQ; rw [if_pos rfl, if_pos ha]
      rw [e1, e2, e3, e4]
      exact next_ok w b0 B s a q V ns h ha hs
    · have e1 : nxR s a 0 = 0 := dif_neg (fun h => ha h.2)
      have e2 : nxA s a 0 = a := if_neg (fun h => ha h.2)
      have e3 : nxE s a 0 = 5 := by unfold nxE; rw [if_pos rfl, if_neg ha]
      have e4 : nxQ s a 0 q = s.size := by unfold nxQ; rw [if_pos rfl, if_neg ha]
      rw [e1, e2, e3, e4]
      exact next_end w b0 B s a q V ns h (by omega)
  · have e1 : nxR s a e = 0 := dif_neg (fun h => he h.1)
    have e2 : nxA s a e = a := if_neg (fun h => he h.1)
    have e3 : nxE s a e = e := if_neg he
    have e4 : nxQ s a e q = q := if_neg he
    rw [e1, e2, e3, e4]
    exact (next_err w b0 B s a e q V ns h he).mono fun r w' hr => ⟨hr.1, h.below hr.2, Frame2.of_below B none hr.2⟩

/-- Two bytes' number is read. -/
def nuR (s : ByteArray) (a : Nat) (e : Int) : Int := 256 * nxR s a e + nxR s (nxA s a e) (nxE s a e)
def nuA (s : ByteArray) (a : Nat) (e : Int) : Nat := nxA s (nxA s a e) (nxE s a e)
def nuE (s : ByteArray) (a : Nat) (e : Int) : Int := nxE s (nxA s a e) (nxE s a e)
def nuQ (s : ByteArray) (a : Nat) (e q : Int) : Int := nxQ s (nxA s a e) (nxE s a e) (nxQ s a e q)
theorem nuR_bd (s : ByteArray) (a : Nat) (e : Int) : 0 ≤ nuR s a e ∧ nuR s a e ≤ 65535 := by
  unfold nuR
  have h1 := nxR_bd s a e
  have h2 := nxR_bd s (nxA s a e) (nxE s a e)
  omega
theorem nuA_le (s : ByteArray) (a : Nat) (e : Int) (h : a ≤ s.size) : nuA s a e ≤ s.size := nxA_le s _ _ (nxA_le s _ _ h)

set_option maxRecDepth 100000 in
set_option maxHeartbeats 400000 in
theorem number_any (w : World) (b0 B : Nat) (s : ByteArray) (a : Nat) (e q : Int) (V : Value) (ns : List PN) (h : ScanAt w b0 B s a e q V ns) (hs : s.size ≤ 4000) :
    Calls Try.prog 58 #[.pointer (some ⟨B, 0, none⟩)] w fun r w' => r = .returned (.int .i64 (nuR s a e)) ∧ ScanAt w' b0 B s (nuA s a e) (nuE s a e) (nuQ s a e q) V ns ∧ Frame2 w w' B none := by
  have hb1 := nxR_bd s a e
  have hb2 := nxR_bd s (nxA s a e) (nxE s a e)
  unfold nuR nuA nuE nuQ
  go_enter Try.func58, Try.ntmps58
  go_wp2_with fail
  refine (next_any _ _ _ _ _ _ _ _ _ h hs).mono ?_
  rintro r w1 ⟨rfl, h1, hF1⟩
  go_wp2_with fail
  refine (next_any _ _ _ _ _ _ _ _ _ h1 hs).mono ?_
  rintro r w2 ⟨rfl, h2, hF2⟩
  go_wp2
  go_returns
  exact ⟨ret_int (by go_arith), h2, hF1.trans hF2⟩
end Go.Proofs.Ytpdjdaipijjeeaa
