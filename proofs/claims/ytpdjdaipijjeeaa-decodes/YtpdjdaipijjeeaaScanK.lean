/-
  The walk of the document's Decode: growth.
-/
import Derived.Test.YtpdjdaipijjeeaaScanJ
import Derived.Test.YtpdjdaipijjeeaaDecC
namespace Go.Proofs.Ytpdjdaipijjeeaa
open Go.RowKit

/-- What stands between the steps of Decode: the reader, the box of the result, the message so far. -/
structure DS (w u : World) (s : ByteArray) (a : Nat) (e q : Int) (V : Value) (ns : List PN) (H : Nat) (k M N R : Int) : Prop where
  sc : ScanAt u w.heap.size (w.heap.size + 1) s a e q V ns
  bx : u.heap[w.heap.size]? = some (.cells #[.int .i64 0, .int .i64 0, .int .i64 0, .int .i64 0, .slice none 0 0] 42 (0, 0))
  mg : u.heap[H]? = some (.cells #[.int .i64 k, .int .i64 M, .int .i64 N, .int .i64 R, .slice none 0 0] 42 (0, 0))
  bl : Below w.heap.size w u
  hH : w.heap.size + 1 < H
theorem DS.below {w u u' : World} {s : ByteArray} {a : Nat} {e q : Int} {V : Value} {ns : List PN} {H : Nat} {k M N R : Int} (h : DS w u s a e q V ns H k M N R) (hb : Below u.heap.size u u') : DS w u' s a e q V ns H k M N R :=
  ⟨h.sc.below hb, by rw [hb.block _ (lt_of_heap h.bx)]; exact h.bx, by rw [hb.block _ (lt_of_heap h.mg)]; exact h.mg, h.bl.trans (hb.mono h.bl.size), h.hH⟩
theorem DS.frame {w u u' : World} {s : ByteArray} {a a' : Nat} {e q e' q' : Int} {V V' : Value} {ns ns' : List PN} {H : Nat} {k M N R : Int} (h : DS w u s a e q V ns H k M N R) (hF : Frame2 u u' (w.heap.size + 1) none) (hS : ScanAt u' w.heap.size (w.heap.size + 1) s a' e' q' V' ns') : DS w u' s a' e' q' V' ns' H k M N R :=
  ⟨hS, by rw [hF.block _ (lt_of_heap h.bx) (by omega) (by simp)]; exact h.bx, by rw [hF.block _ (lt_of_heap h.mg) (by have := h.hH; omega) (by simp)]; exact h.mg,
    h.bl.trans (hF.below (by omega) (fun k e => by cases e) h.bl.size), h.hH⟩
theorem DS.setM {w u : World} {s : ByteArray} {a : Nat} {e q : Int} {V : Value} {ns : List PN} {H : Nat} {k M N R : Int} (h : DS w u s a e q V ns H k M N R) (hr : V.ownBlock ≠ some H) (x : Int) : DS w (u.setCell ⟨H, 1, none⟩ (.int .i64 x)) s a e q V ns H k x N R :=
  ⟨⟨h.sc.1, by rw [Below.heap_setCell _ _ _ _ (by have := h.hH; show w.heap.size + 1 ≠ H; omega)]; exact h.sc.2.1, ownsRow_setCell_other h.sc.2.2 hr _⟩, by rw [Below.heap_setCell _ _ _ _ (by have := h.hH; show w.heap.size ≠ H; omega)]; exact h.bx, by simp [World.setCell, Array.getElem?_modify, h.mg], h.bl.setCell (by have := h.hH; show w.heap.size ≤ H; omega) _, h.hH⟩
theorem DS.setN {w u : World} {s : ByteArray} {a : Nat} {e q : Int} {V : Value} {ns : List PN} {H : Nat} {k M N R : Int} (h : DS w u s a e q V ns H k M N R) (hr : V.ownBlock ≠ some H) (x : Int) : DS w (u.setCell ⟨H, 2, none⟩ (.int .i64 x)) s a e q V ns H k M x R :=
  ⟨⟨h.sc.1, by rw [Below.heap_setCell _ _ _ _ (by have := h.hH; show w.heap.size + 1 ≠ H; omega)]; exact h.sc.2.1, ownsRow_setCell_other h.sc.2.2 hr _⟩, by rw [Below.heap_setCell _ _ _ _ (by have := h.hH; show w.heap.size ≠ H; omega)]; exact h.bx, by simp [World.setCell, Array.getElem?_modify, h.mg], h.bl.setCell (by have := h.hH; show w.heap.size ≤ H; omega) _, h.hH⟩
theorem DS.setR {w u : World} {s : ByteArray} {a : Nat} {e q : Int} {V : Value} {ns : List PN} {H : Nat} {k M N R : Int} (h : DS w u s a e q V ns H k M N R) (hr : V.ownBlock ≠ some H) (x : Int) : DS w (u.setCell ⟨H, 3, none⟩ (.int .i64 x)) s a e q V ns H k M N x :=
  ⟨⟨h.sc.1, by rw [Below.heap_setCell _ _ _ _ (by have := h.hH; show w.heap.size + 1 ≠ H; omega)]; exact h.sc.2.1, ownsRow_setCell_other h.sc.2.2 hr _⟩, by rw [Below.heap_setCell _ _ _ _ (by have := h.hH; show w.heap.size ≠ H; omega)]; exact h.bx, by simp [World.setCell, Array.getElem?_modify, h.mg], h.bl.setCell (by have := h.hH; show w.heap.size ≤ H; omega) _, h.hH⟩
theorem DS.cells {w u : World} {s : ByteArray} {a : Nat} {e q : Int} {V : Value} {ns : List PN} {H : Nat} {k M N R : Int} (h : DS w u s a e q V ns H k M N R) :
    (u.cell? ⟨w.heap.size + 1, 1, none⟩ = some (.int .i64 a) ∧ u.cell? ⟨w.heap.size + 1, 2, none⟩ = some (.int .i64 e) ∧ u.cell? ⟨w.heap.size + 1, 3, none⟩ = some (.int .i64 q) ∧ u.cell? ⟨w.heap.size + 1, 4, none⟩ = some V) ∧
    (u.cell? ⟨H, 0, none⟩ = some (.int .i64 k) ∧ u.cell? ⟨H, 1, none⟩ = some (.int .i64 M) ∧ u.cell? ⟨H, 2, none⟩ = some (.int .i64 N) ∧ u.cell? ⟨H, 3, none⟩ = some (.int .i64 R) ∧ u.cell? ⟨H, 4, none⟩ = some (.slice none 0 0)) ∧
    (u.frozen? ⟨H, 1, none⟩ = false ∧ u.frozen? ⟨H, 2, none⟩ = false ∧ u.frozen? ⟨H, 3, none⟩ = false ∧ u.frozen? ⟨H, 4, none⟩ = false) ∧
    (u.cell? ⟨w.heap.size, 0, none⟩ = some (.int .i64 0) ∧ u.cell? ⟨w.heap.size, 1, none⟩ = some (.int .i64 0) ∧ u.cell? ⟨w.heap.size, 2, none⟩ = some (.int .i64 0) ∧ u.cell? ⟨w.heap.size, 3, none⟩ = some (.int .i64 0) ∧ u.cell? ⟨w.heap.size, 4, none⟩ = some (.slice none 0 0)) ∧
    (u.frozen? ⟨w.heap.size, 0, none⟩ = false ∧ u.frozen? ⟨w.heap.size, 1, none⟩ = false ∧ u.frozen? ⟨w.heap.size, 2, none⟩ = false ∧ u.frozen? ⟨w.heap.size, 3, none⟩ = false ∧ u.frozen? ⟨w.heap.size, 4, none⟩ = false) ∧ H < u.heap.size := by
  refine ⟨⟨?_, ?_, ?_, ?_⟩, ⟨?_, ?_, ?_, ?_, ?_⟩, ⟨?_, ?_, ?_, ?_⟩, ⟨?_, ?_, ?_, ?_, ?_⟩, ⟨?_, ?_, ?_, ?_, ?_⟩, lt_of_heap h.mg⟩
  all_goals first
    | (rw [cell_of_row _ _ _ _ _ _ h.mg]; rfl)
    | (rw [cell_of_row _ _ _ _ _ _ h.bx]; rfl)
    | (rw [cell_of_row _ _ _ _ _ _ h.sc.2.1]; rfl)
    | (unfold World.frozen?; rw [h.mg]; simp; done)
    | (unfold World.frozen?; rw [h.bx]; simp; done)

theorem num_ok (s : ByteArray) (a : Nat) (q : Int) (h : a + 2 ≤ s.size) : nuR s a 0 = num2 s[a] s[a + 1] ∧ nuA s a 0 = a + 2 ∧ nuE s a 0 = 0 ∧ nuQ s a 0 q = q := by
  obtain ⟨a1, a2, a3, a4⟩ := nx_ok s a q (by omega)
  obtain ⟨b1, b2, b3, b4⟩ := nx_ok s (a + 1) q (by omega)
  unfold nuR nuA nuE nuQ
  rw [a1, a2, a3, a4, b1, b2, b3, b4]
  exact ⟨rfl, rfl, rfl, rfl⟩
theorem num_short (s : ByteArray) (a : Nat) (q : Int) (h0 : a ≤ s.size) (h : s.size < a + 2) : nuE s a 0 = 5 ∧ nuQ s a 0 q = s.size := by
  by_cases ha : a < s.size
  · obtain ⟨a1, a2, a3, a4⟩ := nx_ok s a q ha
    obtain ⟨b1, b2, b3, b4⟩ := nx_end s (a + 1) q (by omega)
    unfold nuE nuQ
    rw [a2, a3, a4, b3, b4]
    exact ⟨rfl, rfl⟩
  · obtain ⟨a1, a2, a3, a4⟩ := nx_end s a q (by omega)
    obtain ⟨b1, b2, b3, b4⟩ := nx_err s a 5 (s.size : Int) (by omega)
    unfold nuE nuQ
    rw [a2, a3, a4, b3, b4]
    exact ⟨rfl, rfl⟩
theorem num_err (s : ByteArray) (a : Nat) (e q : Int) (h : e ≠ 0) : nuR s a e = 0 ∧ nuA s a e = a ∧ nuE s a e = e ∧ nuQ s a e q = q := by
  obtain ⟨a1, a2, a3, a4⟩ := nx_err s a e q h
  unfold nuR nuA nuE nuQ
  rw [a1, a2, a3, a4, a1, a2, a3, a4]
  exact ⟨rfl, rfl, rfl, rfl⟩

/-- The first error stays. -/
def noE (e x : Int) : Int := if e = 0 then x else e
def noQ (e q y : Int) : Int := if e = 0 then y else q
theorem no_any (w : World) (b0 B : Nat) (s : ByteArray) (a e q : Int) (V : Value) (ns : List PN) (x y : Int) (h : ScanAt w b0 B s a e q V ns) :
    Calls Try.prog 57 #[.pointer (some ⟨B, 0, none⟩), .int .i64 x, .int .i64 y] w fun r w' => r = .returned (.tuple #[]) ∧ ScanAt w' b0 B s a (noE e x) (noQ e q y) V ns ∧ Frame2 w w' B none := by
  by_cases he : e = 0
  · subst he
    exact no_first w b0 B s a q V ns x y h
  · refine (no_more w b0 B s a e q V ns x y h he).mono fun r w' hr => ?_
    rw [hr.2]
    unfold noE noQ
    rw [if_neg he, if_neg he]
    exact ⟨hr.1, h, Frame2.refl _ _ _⟩

/-- What Decode gives. -/
def DecOut (s : ByteArray) (w : World) (r : Ending) (w' : World) : Prop :=
  Below w.heap.size w w' ∧ match decS s.data.toList with
  | .error (e, q) => e ≠ 0 ∧ r = .returned (.tuple #[msgV 0 0 0 0 (.slice none 0 0), .int .i64 e, .int .i64 q])
  | .ok x => ∃ T, r = .returned (.tuple #[msgV x.kind x.m x.n x.root T, .int .i64 0, .int .i64 0]) ∧ NodesAt w' T x.tree
theorem DecOut.bad {s : ByteArray} {w w' : World} {e : Int} {q : Nat} {e' q' : Int} (hd : decS s.data.toList = .error (e, q)) (he : e ≠ 0) (h1 : e' = e) (h2 : q' = q) (hb : Below w.heap.size w w') :
    DecOut s w (.returned (.tuple #[.agg #[.int .i64 0, .int .i64 0, .int .i64 0, .int .i64 0, .slice none 0 0], .int .i64 e', .int .i64 q'])) w' := by
  subst h1 h2
  unfold DecOut
  rw [hd]
  exact ⟨hb, he, rfl⟩
theorem DecOut.good {s : ByteArray} {w w' : World} {k M N R : Int} {t : List PN} {T : Value} (hd : decS s.data.toList = .ok ⟨k, M, N, R, t⟩) (hb : Below w.heap.size w w') (hT : NodesAt w' T t) :
    DecOut s w (.returned (.tuple #[.agg #[.int .i64 k, .int .i64 M, .int .i64 N, .int .i64 R, T], .int .i64 0, .int .i64 0])) w' := by
  unfold DecOut
  rw [hd]
  exact ⟨hb, T, rfl, hT⟩

theorem at_list (s : ByteArray) (i : Nat) (h : i < s.size) : s.data.toList[i]'(by rw [Array.length_toList]; exact h) = s[i] := by
  rw [Array.getElem_toList]; rfl

theorem dec2_case (s : ByteArray) (hs : s.size ≤ 4000) (h1 : 1 ≤ s.size) (hk : (s[0].toNat : Int) = 2) :
    (nuE s (nuA s (nuA s 1 0) (nuE s 1 0)) (nuE s (nuA s 1 0) (nuE s 1 0)) = 5 ∧ nuQ s (nuA s (nuA s 1 0) (nuE s 1 0)) (nuE s (nuA s 1 0) (nuE s 1 0)) (nuQ s (nuA s 1 0) (nuE s 1 0) (nuQ s 1 0 0)) = s.size ∧ decS s.data.toList = .error (5, s.size)) ∨
    (nuE s (nuA s (nuA s 1 0) (nuE s 1 0)) (nuE s (nuA s 1 0) (nuE s 1 0)) = 0 ∧ nuQ s (nuA s (nuA s 1 0) (nuE s 1 0)) (nuE s (nuA s 1 0) (nuE s 1 0)) (nuQ s (nuA s 1 0) (nuE s 1 0) (nuQ s 1 0 0)) = 0 ∧ nuA s (nuA s (nuA s 1 0) (nuE s 1 0)) (nuE s (nuA s 1 0) (nuE s 1 0)) = 7 ∧ nuA s 1 0 = 3 ∧
      decS s.data.toList = dec2G s.data.toList (nuR s 1 0) (nuR s (nuA s 1 0) (nuE s 1 0)) (nuR s (nuA s (nuA s 1 0) (nuE s 1 0)) (nuE s (nuA s 1 0) (nuE s 1 0)))) := by
  have hll := len_toList s
  have hk' : (s.data.toList[0]'(by omega)).toNat = (2 : Int) := by rw [at_list s 0 (by omega)]; exact hk
  by_cases h7 : s.size < 7
  · left
    have hd := decS_2s s.data.toList (by omega) hk' (by omega)
    rw [hll] at hd
    refine ⟨?_, ?_, hd⟩
    · by_cases h3 : s.size < 3
      · obtain ⟨a1, a2⟩ := num_short s 1 0 (by omega) (by omega)
        rw [a1]
        simp only [(num_err s _ 5 0 (by decide)).2.2.1]
      · obtain ⟨_, a1, a2, a3⟩ := num_ok s 1 0 (by omega)
        rw [a1, a2]
        by_cases h5 : s.size < 5
        · obtain ⟨b1, b2⟩ := num_short s 3 0 (by omega) (by omega)
          rw [b1]
          simp only [(num_err s _ 5 0 (by decide)).2.2.1]
        · obtain ⟨_, b1, b2, b3⟩ := num_ok s 3 0 (by omega)
          rw [b1, b2]
          exact (num_short s 5 0 (by omega) (by omega)).1
    · by_cases h3 : s.size < 3
      · obtain ⟨a1, a2⟩ := num_short s 1 0 (by omega) (by omega)
        rw [a1, a2]
        simp only [(num_err s _ 5 0 (by decide)).2.2.1, (num_err s _ 5 _ (by decide)).2.2.2]
      · obtain ⟨_, a1, a2, a3⟩ := num_ok s 1 0 (by omega)
        rw [a1, a2, a3]
        by_cases h5 : s.size < 5
        · obtain ⟨b1, b2⟩ := num_short s 3 0 (by omega) (by omega)
          rw [b1, b2]
          simp only [(num_err s _ 5 _ (by decide)).2.2.2]
        · obtain ⟨_, b1, b2, b3⟩ := num_ok s 3 0 (by omega)
          rw [b1, b2, b3]
          exact (num_short s 5 0 (by omega) (by omega)).2
  · right
    obtain ⟨a0, a1, a2, a3⟩ := num_ok s 1 0 (by omega)
    rw [a0, a1, a2, a3]
    obtain ⟨b0, b1, b2, b3⟩ := num_ok s 3 0 (by omega)
    rw [b0, b1, b2, b3]
    obtain ⟨c0, c1, c2, c3⟩ := num_ok s 5 0 (by omega)
    rw [c0, c1, c2, c3]
    have hd := decS_2 s.data.toList (by omega) (by omega) hk'
    simp only [at_list s 1 (by omega), at_list s 2 (by omega), at_list s 3 (by omega), at_list s 4 (by omega), at_list s 5 (by omega), at_list s 6 (by omega)] at hd
    exact ⟨rfl, rfl, rfl, rfl, hd⟩

theorem ds_begin (w w1 : World) (s : ByteArray) (a : Nat) (e q k : Int) (hS : ScanAt w1 w.heap.size (w.heap.size + 1) s a e q (.slice none 0 0) [])
    (hF : Frame2 ((w.alloc (.cells #[.int .i64 0, .int .i64 0, .int .i64 0, .int .i64 0, .slice none 0 0] 42)).alloc (.cells #[.string s, .int .i64 0, .int .i64 0, .int .i64 0, .slice none 0 0] 96)) w1 (w.heap.size + 1) none) :
    DS w (w1.alloc (.cells #[.int .i64 k, .int .i64 0, .int .i64 0, .int .i64 0, .slice none 0 0] 42)) s a e q (.slice none 0 0) [] w1.heap.size k 0 0 0 := by
  have hz := hF.size
  simp at hz
  have hA : Below w1.heap.size w1 (w1.alloc (.cells #[.int .i64 k, .int .i64 0, .int .i64 0, .int .i64 0, .slice none 0 0] 42)) := (Below.refl _ _).alloc (Nat.le_refl _) _
  have h2 : Below w.heap.size w ((w.alloc (.cells #[.int .i64 0, .int .i64 0, .int .i64 0, .int .i64 0, .slice none 0 0] 42)).alloc (.cells #[.string s, .int .i64 0, .int .i64 0, .int .i64 0, .slice none 0 0] 96)) := ((Below.refl _ _).alloc (Nat.le_refl _) _).alloc (by simp) _
  refine ⟨hS.below hA, ?_, heap_alloc_new _ _, ?_, by omega⟩
  · rw [hA.block _ (by omega), hF.block _ (by simp; omega) (by omega) (by simp), Below.heap_alloc _ _ _ (by simp)]
    exact heap_alloc_new _ _
  · exact (h2.trans (hF.below (by omega) (fun k e => by cases e) h2.size)).trans (hA.mono (by omega))
end Go.Proofs.Ytpdjdaipijjeeaa
