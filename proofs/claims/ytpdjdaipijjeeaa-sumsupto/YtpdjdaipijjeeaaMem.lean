/-
  What slices of bytes, of such slices, and of strings hold in a world: no program in it, but the numbers of the types of their elements.
-/
import Derived.Test.YtpdjdaipijjeeaaSm
import Derived.WalkKit
namespace Go.Proofs.Ytpdjdaipijjeeaa
open Go.RowKit

/-- The slice v holds the bytes l. -/
def BytesAt (w : World) (v : Value) (l : List UInt8) : Prop :=
  ∃ ao cap, v = .slice ao l.length cap ∧ (ao = none → cap = 0) ∧ (0 < l.length → ∃ b o cur fr, ao = some ⟨b, o, none⟩ ∧ w.heap[b]? = some (.cells cur 5 fr) ∧ ∀ j (h : j < l.length), cur[o + j]? = some (.int .u8 l[j].toNat))

/-- The slice v holds slices that hold the texts ls. -/
def RowsAt (w : World) (v : Value) (ls : List (List UInt8)) : Prop :=
  ∃ ao cap, v = .slice ao ls.length cap ∧ (0 < ls.length → ∃ b o cur fr, ao = some ⟨b, o, none⟩ ∧ w.heap[b]? = some (.cells cur 24 fr) ∧ ∀ j (h : j < ls.length), ∃ u, cur[o + j]? = some u ∧ BytesAt w u ls[j])

/-- The slice v holds the strings ps. -/
def StringsAt (w : World) (v : Value) (ps : List ByteArray) : Prop :=
  ∃ ao cap, v = .slice ao ps.length cap ∧ (0 < ps.length → ∃ b o, ao = some ⟨b, o, none⟩ ∧ b < w.heap.size ∧ ∀ j (h : j < ps.length), w.cell? ⟨b, o + j, none⟩ = some (.string ps[j]))

/-- Every block of type t is as it was. -/
def KeepsT (t : TypeId) (w w' : World) : Prop := ∀ (b : Nat) (cur : Array Value) (fr : Nat × Nat), w.heap[b]? = some (Obj.cells cur t fr) → w'.heap[b]? = some (Obj.cells cur t fr)

theorem KeepsT.refl (t : TypeId) (w : World) : KeepsT t w w := fun _ _ _ h => h
theorem KeepsT.trans {t : TypeId} {a b c : World} (h : KeepsT t a b) (k : KeepsT t b c) : KeepsT t a c := fun i u f e => k i u f (h i u f e)
theorem lt_of_heap {w : World} {b : Nat} {o : Obj} (h : w.heap[b]? = some o) : b < w.heap.size := (Array.getElem?_eq_some_iff.1 h).1
theorem KeepsT.of_below {t : TypeId} {w w' : World} {B : Nat} (h : Below B w w') (hB : w.heap.size ≤ B) : KeepsT t w w' := fun b cur fr e => by
  rw [h.block b (Nat.lt_of_lt_of_le (lt_of_heap e) hB)]; exact e
theorem KeepsT.alloc {t : TypeId} {a w : World} (h : KeepsT t a w) (o : Obj) : KeepsT t a (w.alloc o) := fun b cur fr e => by
  have := h b cur fr e
  rw [Below.heap_alloc _ _ _ (lt_of_heap this)]; exact this
theorem KeepsT.drew {t : TypeId} {a w : World} (h : KeepsT t a w) : KeepsT t a w.drew := fun b cur fr e => h b cur fr e
/-- Behind an append on a row of another type. -/
theorem KeepsT.grown {t e : TypeId} {a w w' : World} {base size : Nat} {v : Value} {n : Nat} {xs : List Value} (h : KeepsT t a w) (hown : w.ownsRow base e size v n xs) (hg : w.grownBy w' v.ownBlock) (hne : t ≠ e) : KeepsT t a w' := fun b cur fr hb => by
  have h1 := h b cur fr hb
  rw [hg.block b (lt_of_heap h1) ?_]; exact h1
  intro he
  rcases hown.2 with ⟨rfl, _⟩ | ⟨g, cap, cur', rfl, _, hgg, _⟩
  · simp [Value.ownBlock] at he
  · simp [Value.ownBlock] at he
    subst he
    rw [hgg] at h1
    simp at h1
    exact hne h1.2.1.symm

theorem BytesAt.keep {w w' : World} {v : Value} {l : List UInt8} (h : BytesAt w v l) (hb : KeepsT 5 w w') : BytesAt w' v l := by
  obtain ⟨ao, cap, rfl, hz, h⟩ := h
  refine ⟨ao, cap, rfl, hz, fun hl => ?_⟩
  obtain ⟨b, o, cur, fr, rfl, hlt, hc⟩ := h hl
  exact ⟨b, o, cur, fr, rfl, hb _ _ _ hlt, hc⟩

theorem RowsAt.keep {w w' : World} {v : Value} {ls : List (List UInt8)} (h : RowsAt w v ls) (hb : KeepsT 5 w w') (hb2 : KeepsT 24 w w') : RowsAt w' v ls := by
  obtain ⟨ao, cap, rfl, h⟩ := h
  refine ⟨ao, cap, rfl, fun hl => ?_⟩
  obtain ⟨b, o, cur, fr, rfl, hlt, hc⟩ := h hl
  refine ⟨b, o, cur, fr, rfl, hb2 _ _ _ hlt, fun j hj => ?_⟩
  obtain ⟨u, hu, hB'⟩ := hc j hj
  exact ⟨u, hu, hB'.keep hb⟩

theorem BytesAt.cells {w : World} {v : Value} {l : List UInt8} (h : BytesAt w v l) : ∃ ao cap, v = .slice ao l.length cap ∧ (ao = none → cap = 0) ∧ (0 < l.length → ∃ b o, ao = some ⟨b, o, none⟩ ∧ ∀ j (h : j < l.length), w.cell? ⟨b, o + j, none⟩ = some (.int .u8 l[j].toNat)) := by
  obtain ⟨ao, cap, rfl, hz, h⟩ := h
  refine ⟨ao, cap, rfl, hz, fun hl => ?_⟩
  obtain ⟨b, o, cur, fr, rfl, hlt, hc⟩ := h hl
  exact ⟨b, o, rfl, fun j hj => by rw [cell_of_row _ _ _ _ _ _ hlt]; exact hc j hj⟩

theorem RowsAt.cells {w : World} {v : Value} {ls : List (List UInt8)} (h : RowsAt w v ls) : ∃ ao cap, v = .slice ao ls.length cap ∧ (0 < ls.length → ∃ b o, ao = some ⟨b, o, none⟩ ∧ ∀ j (h : j < ls.length), ∃ u, w.cell? ⟨b, o + j, none⟩ = some u ∧ BytesAt w u ls[j]) := by
  obtain ⟨ao, cap, rfl, h⟩ := h
  refine ⟨ao, cap, rfl, fun hl => ?_⟩
  obtain ⟨b, o, cur, fr, rfl, hlt, hc⟩ := h hl
  exact ⟨b, o, rfl, fun j hj => by rw [cell_of_row _ _ _ _ _ _ hlt]; exact hc j hj⟩

/-- What '[]byte(s)' lays. -/
theorem BytesAt.made (w : World) (s : ByteArray) (cap : Nat) (fr : Nat × Nat) : BytesAt (w.alloc (.cells (bytesRow s cap) 5 fr)) (.slice (some ⟨w.heap.size, 0, none⟩) s.size cap) s.data.toList := by
  refine ⟨some ⟨w.heap.size, 0, none⟩, cap, by rw [Array.length_toList]; rfl, fun h => (by cases h), fun _ => ⟨_, _, _, _, rfl, heap_alloc_new w _, fun j hj => ?_⟩⟩
  have hj' : j < s.data.size := by simpa using hj
  rw [Nat.zero_add, bytesRow_at s cap j hj']
  simp

/-- A row that the call made, of slices that hold the texts. -/
theorem RowsAt.of_owns {w : World} {base : Nat} {v : Value} {n : Nat} {us : List Value} {ls : List (List UInt8)} (h : w.ownsRow base 24 1 v n us) (hn : ls.length = n) (hu : ∀ j (h : j < ls.length), ∃ u, us[j]? = some u ∧ BytesAt w u ls[j]) : RowsAt w v ls := by
  subst hn
  rcases h.2 with ⟨rfl, h0⟩ | ⟨g, cap, cur, rfl, _, hgg, _, _, _, htake⟩
  · exact ⟨none, 0, by rw [h0], fun hl => by omega⟩
  · refine ⟨_, cap, rfl, fun _ => ⟨g, 0, cur, _, rfl, hgg, fun j hj => ?_⟩⟩
    obtain ⟨u, h1, h2⟩ := hu j hj
    refine ⟨u, ?_, h2⟩
    rw [← htake, List.getElem?_take] at h1
    split at h1
    · simpa using h1
    · cases h1

/-- Bytes as cells. -/
def bytes8 (l : List UInt8) : List Value := l.map fun b => Value.int .u8 b.toNat
theorem bytes8_length (l : List UInt8) : (bytes8 l).length = l.length := List.length_map _
theorem bytes8_append (l r : List UInt8) : bytes8 (l ++ r) = bytes8 l ++ bytes8 r := List.map_append
theorem bytes8_one (l : List UInt8) : ∀ u ∈ bytes8 l, u.oneCell' = true := by
  intro u hu
  obtain ⟨b, _, rfl⟩ := List.mem_map.1 hu
  rfl
/-- A row of bytes that the call made. -/
theorem BytesAt.of_owns {w : World} {base : Nat} {v : Value} {n : Nat} {l : List UInt8} (h : w.ownsRow base 5 1 v n (bytes8 l)) : BytesAt w v l := by
  have hn : l.length = n := by have := h.1; rw [bytes8_length] at this; omega
  subst hn
  rcases h.2 with ⟨rfl, h0⟩ | ⟨g, cap, cur, rfl, _, hgg, _, _, _, htake⟩
  · exact ⟨none, 0, by rw [h0], fun _ => rfl, fun hl => by omega⟩
  · refine ⟨_, cap, rfl, fun h => (by cases h), fun _ => ⟨g, 0, cur, _, rfl, hgg, fun j hj => ?_⟩⟩
    have h1 : (bytes8 l)[j]? = some (.int .u8 l[j].toNat) := by simp [bytes8, hj]
    rw [← htake, List.getElem?_take] at h1
    split at h1
    · simpa using h1
    · cases h1

/-- A row of slices, as it lies. -/
theorem RowsAt.lit {w : World} {b cap : Nat} {cur : Array Value} {fr : Nat × Nat} {ls : List (List UInt8)} {n : Nat} (hn : n = ls.length) (h : w.heap[b]? = some (.cells cur 24 fr)) (hu : ∀ j (h : j < ls.length), ∃ u, cur[j]? = some u ∧ BytesAt w u ls[j]) : RowsAt w (.slice (some ⟨b, 0, none⟩) n cap) ls := by
  subst hn
  exact ⟨_, _, rfl, fun _ => ⟨b, 0, cur, fr, rfl, h, fun j hj => by rw [Nat.zero_add]; exact hu j hj⟩⟩

/-- All strings, one behind the other. -/
def cat (ps : List ByteArray) : List UInt8 := (ps.map (·.data.toList)).flatten
theorem cat_snoc (ps : List ByteArray) (k : Nat) (h : k < ps.length) : cat (ps.take (k + 1)) = cat (ps.take k) ++ ps[k].data.toList := by
  unfold cat
  rw [take_snoc ps k h, List.map_append, List.flatten_append]
  simp only [List.map_cons, List.map_nil, List.flatten_cons, List.flatten_nil, List.append_nil]
theorem cat_le (ps : List ByteArray) (k : Nat) : (cat (ps.take k)).length ≤ (cat ps).length := by
  have h : cat ps = cat (ps.take k) ++ cat (ps.drop k) := by
    unfold cat
    rw [← List.flatten_append, ← List.map_append, List.take_append_drop]
  rw [h, List.length_append]; omega
theorem mk_append (l : List UInt8) (s : ByteArray) : (⟨l.toArray⟩ : ByteArray) ++ s = ⟨(l ++ s.data.toList).toArray⟩ := by
  cases s with | mk d => rw [ByteArray.mk_append_mk]
theorem mk_size (l : List UInt8) : (⟨l.toArray⟩ : ByteArray).size = l.length := by simp [ByteArray.size]
end Go.Proofs.Ytpdjdaipijjeeaa
