/-
  The sum of a text, as plain mathematics: no program in it.
-/
import Derived.WalkKit
namespace Go.Proofs.Ytlndinigbppafaa

/-- One byte more. -/
def smStep (v : Int) (b : UInt8) : Int := (v * 257 + b.toNat + 1) % 65521
def smFrom (v : Int) (l : List UInt8) : Int := l.foldl smStep v
/-- The document's sum. -/
def sm (l : List UInt8) : Int := smFrom 1 l

theorem smStep_bd (v : Int) (b : UInt8) : 0 ≤ smStep v b ∧ smStep v b ≤ 65520 := by unfold smStep; omega
theorem smFrom_snoc (v : Int) (l : List UInt8) (b : UInt8) : smFrom v (l ++ [b]) = smStep (smFrom v l) b := by simp [smFrom]
theorem smFrom_append (v : Int) (l r : List UInt8) : smFrom v (l ++ r) = smFrom (smFrom v l) r := by simp [smFrom]
theorem smFrom_bd (v : Int) (l : List UInt8) (h : 0 ≤ v ∧ v ≤ 65520) : 0 ≤ smFrom v l ∧ smFrom v l ≤ 65520 := by
  induction l generalizing v with
  | nil => exact h
  | cons b l ih => exact ih _ (smStep_bd v b)
theorem sm_bd (l : List UInt8) : 0 ≤ sm l ∧ sm l ≤ 65520 := smFrom_bd 1 l (by omega)
theorem sm_snoc (l : List UInt8) (b : UInt8) : sm (l ++ [b]) = smStep (sm l) b := smFrom_snoc 1 l b
theorem sm_append (l r : List UInt8) : sm (l ++ r) = smFrom (sm l) r := smFrom_append 1 l r
theorem sm_nil : sm [] = 1 := rfl

theorem take_snoc {α : Type} (l : List α) (k : Nat) (h : k < l.length) : l.take (k + 1) = l.take k ++ [l[k]] := List.take_succ_eq_append_getElem h
theorem bytes_snoc (s : ByteArray) (k : Nat) (h : k < s.size) : s.data.toList.take (k + 1) = s.data.toList.take k ++ [s[k]] := by
  rw [List.take_succ_eq_append_getElem (by simpa using h)]; rfl
theorem flatten_snoc {α : Type} (ls : List (List α)) (k : Nat) (h : k < ls.length) : (ls.take (k + 1)).flatten = (ls.take k).flatten ++ ls[k] := by
  rw [take_snoc ls k h, List.flatten_append]; simp only [List.flatten_cons, List.flatten_nil, List.append_nil]

theorem ret_int {k : IntKind} {a b : Int} (h : a = b) : Ending.returned (.int k a) = .returned (.int k b) := by rw [h]
end Go.Proofs.Ytlndinigbppafaa

/-
  What slices of bytes, of such slices, and of strings hold in a world: no program in it, but the numbers of the types of their elements.
-/
namespace Go.Proofs.Ytlndinigbppafaa
open Go.RowKit

/-- The slice v holds the bytes l. -/
def BytesAt (w : World) (v : Value) (l : List UInt8) : Prop :=
  ∃ ao cap, v = .slice ao l.length cap ∧ (ao = none → cap = 0) ∧ (0 < l.length → ∃ b o cur fr, ao = some ⟨b, o, none⟩ ∧ w.heap[b]? = some (.cells cur 5 fr) ∧ ∀ j (h : j < l.length), cur[o + j]? = some (.int .u8 l[j].toNat))

/-- The slice v holds slices that hold the texts ls. -/
def RowsAt (w : World) (v : Value) (ls : List (List UInt8)) : Prop :=
  ∃ ao cap, v = .slice ao ls.length cap ∧ (0 < ls.length → ∃ b o cur fr, ao = some ⟨b, o, none⟩ ∧ w.heap[b]? = some (.cells cur 24 fr) ∧ ∀ j (h : j < ls.length), ∃ u, cur[o + j]? = some u ∧ BytesAt w u ls[j])

/-- The slice v holds the strings ps. -/
def StringsAt (w : World) (v : Value) (ps : List ByteArray) : Prop :=
  ∃ ao cap, v = .slice ao ps.length cap ∧ (0 < ps.length → ∃ b o, ao = some ⟨b, o, none⟩ ∧ b < w.heap.size ∧ ∀ j (h : j < ps.length), w.cell? ⟨b, o + j, none⟩ = some (.string ps[j]))

/-- Every block of type t is as it was. -/
def KeepsT (t : TypeId) (w w' : World) : Prop := ∀ (b : Nat) (cur : Array Value) (fr : Nat × Nat), w.heap[b]? = some (Obj.cells cur t fr) → w'.heap[b]? = some (Obj.cells cur t fr)

theorem KeepsT.refl (t : TypeId) (w : World) : KeepsT t w w := fun _ _ _ h => h
theorem KeepsT.trans {t : TypeId} {a b c : World} (h : KeepsT t a b) (k : KeepsT t b c) : KeepsT t a c := fun i u f e => k i u f (h i u f e)
theorem lt_of_heap {w : World} {b : Nat} {o : Obj} (h : w.heap[b]? = some o) : b < w.heap.size := (Array.getElem?_eq_some_iff.1 h).1
theorem KeepsT.of_below {t : TypeId} {w w' : World} {B : Nat} (h : Below B w w') (hB : w.heap.size ≤ B) : KeepsT t w w' := fun b cur fr e => by
  rw [h.block b (Nat.lt_of_lt_of_le (lt_of_heap e) hB)]; exact e
theorem KeepsT.alloc {t : TypeId} {a w : World} (h : KeepsT t a w) (o : Obj) : KeepsT t a (w.alloc o) := fun b cur fr e => by
  have := h b cur fr e
  rw [Below.heap_alloc _ _ _ (lt_of_heap this)]; exact this
theorem KeepsT.drew {t : TypeId} {a w : World} (h : KeepsT t a w) : KeepsT t a w.drew := fun b cur fr e => h b cur fr e
/-- Behind an append on a row of another type. -/
theorem KeepsT.grown {t e : TypeId} {a w w' : World} {base size : Nat} {v : Value} {n : Nat} {xs : List Value} (h : KeepsT t a w) (hown : w.ownsRow base e size v n xs) (hg : w.grownBy w' v.ownBlock) (hne : t ≠ e) : KeepsT t a w' := fun b cur fr hb => by
  have h1 := h b cur fr hb
  rw [hg.block b (lt_of_heap h1) ?_]; exact h1
  intro he
  rcases hown.2 with ⟨rfl, _⟩ | ⟨g, cap, cur', rfl, _, hgg, _⟩
  · simp [Value.ownBlock] at he
  · simp [Value.ownBlock] at he
    subst he
    rw [hgg] at h1
    simp at h1
    exact hne h1.2.1.symm

theorem BytesAt.keep {w w' : World} {v : Value} {l : List UInt8} (h : BytesAt w v l) (hb : KeepsT 5 w w') : BytesAt w' v l := by
  obtain ⟨ao, cap, rfl, hz, h⟩ := h
  refine ⟨ao, cap, rfl, hz, fun hl => ?_⟩
  obtain ⟨b, o, cur, fr, rfl, hlt, hc⟩ := h hl
  exact ⟨b, o, cur, fr, rfl, hb _ _ _ hlt, hc⟩

theorem RowsAt.keep {w w' : World} {v : Value} {ls : List (List UInt8)} (h : RowsAt w v ls) (hb : KeepsT 5 w w') (hb2 : KeepsT 24 w w') : RowsAt w' v ls := by
  obtain ⟨ao, cap, rfl, h⟩ := h
  refine ⟨ao, cap, rfl, fun hl => ?_⟩
  obtain ⟨b, o, cur, fr, rfl, hlt, hc⟩ := h hl
  refine ⟨b, o, cur, fr, rfl, hb2 _ _ _ hlt, fun j hj => ?_⟩
  obtain ⟨u, hu, hB'⟩ := hc j hj
  exact ⟨u, hu, hB'.keep hb⟩

theorem BytesAt.cells {w : World} {v : Value} {l : List UInt8} (h : BytesAt w v l) : ∃ ao cap, v = .slice ao l.length cap ∧ (ao = none → cap = 0) ∧ (0 < l.length → ∃ b o, ao = some ⟨b, o, none⟩ ∧ ∀ j (h : j < l.length), w.cell? ⟨b, o + j, none⟩ = some (.int .u8 l[j].toNat)) := by
  obtain ⟨ao, cap, rfl, hz, h⟩ := h
  refine ⟨ao, cap, rfl, hz, fun hl => ?_⟩
  obtain ⟨b, o, cur, fr, rfl, hlt, hc⟩ := h hl
  exact ⟨b, o, rfl, fun j hj => by rw [cell_of_row _ _ _ _ _ _ hlt]; exact hc j hj⟩

theorem RowsAt.cells {w : World} {v : Value} {ls : List (List UInt8)} (h : RowsAt w v ls) : ∃ ao cap, v = .slice ao ls.length cap ∧ (0 < ls.length → ∃ b o, ao = some ⟨b, o, none⟩ ∧ ∀ j (h : j < ls.length), ∃ u, w.cell? ⟨b, o + j, none⟩ = some u ∧ BytesAt w u ls[j]) := by
  obtain ⟨ao, cap, rfl, h⟩ := h
  refine ⟨ao, cap, rfl, fun hl => ?_⟩
  obtain ⟨b, o, cur, fr, rfl, hlt, hc⟩ := h hl
  exact ⟨b, o, rfl, fun j hj => by rw [cell_of_row _ _ _ _ _ _ hlt]; exact hc j hj⟩

/-- What '[]byte(s)' lays. -/
theorem BytesAt.made (w : World) (s : ByteArray) (cap : Nat) (fr : Nat × Nat) : BytesAt (w.alloc (.cells (bytesRow s cap) 5 fr)) (.slice (some ⟨w.heap.size, 0, none⟩) s.size cap) s.data.toList := by
  refine ⟨some ⟨w.heap.size, 0, none⟩, cap, by rw [Array.length_toList]; rfl, fun h => (by cases h), fun _ => ⟨_, _, _, _, rfl, heap_alloc_new w _, fun j hj => ?_⟩⟩
  have hj' : j < s.data.size := by simpa using hj
  rw [Nat.zero_add, bytesRow_at s cap j hj']
  simp

/-- A row that the call made, of slices that hold the texts. -/
theorem RowsAt.of_owns {w : World} {base : Nat} {v : Value} {n : Nat} {us : List Value} {ls : List (List UInt8)} (h : w.ownsRow base 24 1 v n us) (hn : ls.length = n) (hu : ∀ j (h : j < ls.length), ∃ u, us[j]? = some u ∧ BytesAt w u ls[j]) : RowsAt w v ls := by
  subst hn
  rcases h.2 with ⟨rfl, h0⟩ | ⟨g, cap, cur, rfl, _, hgg, _, _, _, htake⟩
  · exact ⟨none, 0, by rw [h0], fun hl => by omega⟩
  · refine ⟨_, cap, rfl, fun _ => ⟨g, 0, cur, _, rfl, hgg, fun j hj => ?_⟩⟩
    obtain ⟨u, h1, h2⟩ := hu j hj
    refine ⟨u, ?_, h2⟩
    rw [← htake, List.getElem?_take] at h1
    split at h1
    · simpa using h1
    · cases h1

/-- Bytes as cells. -/
def bytes8 (l : List UInt8) : List Value := l.map fun b => Value.int .u8 b.toNat
theorem bytes8_length (l : List UInt8) : (bytes8 l).length = l.length := List.length_map _
theorem bytes8_append (l r : List UInt8) : bytes8 (l ++ r) = bytes8 l ++ bytes8 r := List.map_append
theorem bytes8_one (l : List UInt8) : ∀ u ∈ bytes8 l, u.oneCell' = true := by
  intro u hu
  obtain ⟨b, _, rfl⟩ := List.mem_map.1 hu
  rfl
/-- A row of bytes that the call made. -/
theorem BytesAt.of_owns {w : World} {base : Nat} {v : Value} {n : Nat} {l : List UInt8} (h : w.ownsRow base 5 1 v n (bytes8 l)) : BytesAt w v l := by
  have hn : l.length = n := by have := h.1; rw [bytes8_length] at this; omega
  subst hn
  rcases h.2 with ⟨rfl, h0⟩ | ⟨g, cap, cur, rfl, _, hgg, _, _, _, htake⟩
  · exact ⟨none, 0, by rw [h0], fun _ => rfl, fun hl => by omega⟩
  · refine ⟨_, cap, rfl, fun h => (by cases h), fun _ => ⟨g, 0, cur, _, rfl, hgg, fun j hj => ?_⟩⟩
    have h1 : (bytes8 l)[j]? = some (.int .u8 l[j].toNat) := by simp [bytes8, hj]
    rw [← htake, List.getElem?_take] at h1
    split at h1
    · simpa using h1
    · cases h1

/-- A row of slices, as it lies. -/
theorem RowsAt.lit {w : World} {b cap : Nat} {cur : Array Value} {fr : Nat × Nat} {ls : List (List UInt8)} {n : Nat} (hn : n = ls.length) (h : w.heap[b]? = some (.cells cur 24 fr)) (hu : ∀ j (h : j < ls.length), ∃ u, cur[j]? = some u ∧ BytesAt w u ls[j]) : RowsAt w (.slice (some ⟨b, 0, none⟩) n cap) ls := by
  subst hn
  exact ⟨_, _, rfl, fun _ => ⟨b, 0, cur, fr, rfl, h, fun j hj => by rw [Nat.zero_add]; exact hu j hj⟩⟩

/-- All strings, one behind the other. -/
def cat (ps : List ByteArray) : List UInt8 := (ps.map (·.data.toList)).flatten
theorem cat_snoc (ps : List ByteArray) (k : Nat) (h : k < ps.length) : cat (ps.take (k + 1)) = cat (ps.take k) ++ ps[k].data.toList := by
  unfold cat
  rw [take_snoc ps k h, List.map_append, List.flatten_append]
  simp only [List.map_cons, List.map_nil, List.flatten_cons, List.flatten_nil, List.append_nil]
theorem cat_le (ps : List ByteArray) (k : Nat) : (cat (ps.take k)).length ≤ (cat ps).length := by
  have h : cat ps = cat (ps.take k) ++ cat (ps.drop k) := by
    unfold cat
    rw [← List.flatten_append, ← List.map_append, List.take_append_drop]
  rw [h, List.length_append]; omega
theorem mk_append (l : List UInt8) (s : ByteArray) : (⟨l.toArray⟩ : ByteArray) ++ s = ⟨(l ++ s.data.toList).toArray⟩ := by
  cases s with | mk d => rw [ByteArray.mk_append_mk]
theorem mk_size (l : List UInt8) : (⟨l.toArray⟩ : ByteArray).size = l.length := by simp [ByteArray.size]
end Go.Proofs.Ytlndinigbppafaa

/-
  The depth of a tree, the kind of a node, two bytes of a number: plain mathematics.
-/
namespace Go.Proofs.Ytlndinigbppafaa

/-- 2 to the power d. -/
def pw (d : Nat) : Nat := 2 ^ d
theorem pw_zero : pw 0 = 1 := rfl
theorem pw_succ (d : Nat) : pw (d + 1) = 2 * pw d := by unfold pw; rw [Nat.pow_succ]; omega
theorem pw_le {d e : Nat} (h : d ≤ e) : pw d ≤ pw e := Nat.pow_le_pow_right (by omega) h
theorem pw_lt {d e : Nat} (h : d < e) : pw d < pw e := Nat.pow_lt_pow_right (by omega) h
theorem pw_pos (d : Nat) : 0 < pw d := Nat.pow_pos (by omega)
theorem pw_half (d : Nat) (h : 0 < d) : pw d = 2 * pw (d - 1) := by
  obtain ⟨e, rfl⟩ : ∃ e, d = e + 1 := ⟨d - 1, by omega⟩
  rw [Nat.add_sub_cancel]; exact pw_succ e
theorem pw_9 : pw 9 = 512 := rfl
theorem pw_16 : pw 16 = 65536 := rfl
theorem pw_62 : pw 62 = 4611686018427387904 := by decide

/-- D(n). -/
def dep (n : Nat) : Nat := if n ≤ 1 then 0 else Nat.log2 (n - 1) + 1
theorem dep_spec (n : Nat) : n ≤ pw (dep n) := by
  unfold dep; split
  · simpa [pw] using ‹n ≤ 1›
  · have := @Nat.lt_log2_self (n - 1); unfold pw; omega
theorem dep_least (n e : Nat) (h : e < dep n) : pw e < n := by
  unfold dep at h; split at h
  · omega
  · have h1 : pw (Nat.log2 (n - 1)) ≤ n - 1 := Nat.log2_self_le (by omega)
    have h2 : pw e ≤ pw (Nat.log2 (n - 1)) := pw_le (by omega)
    omega
theorem dep_of (n d : Nat) (h1 : n ≤ pw d) (h2 : ∀ e, e < d → pw e < n) : dep n = d := by
  have a := dep_spec n
  rcases Nat.lt_trichotomy (dep n) d with h | h | h
  · have := h2 _ h; omega
  · exact h
  · have := dep_least n d h; omega
theorem dep_le (n d : Nat) (h : n ≤ pw d) : dep n ≤ d := by
  rcases Nat.lt_or_ge d (dep n) with h1 | h1
  · have := dep_least n d h1; omega
  · exact h1

/-- Which kind of node stands at p of depth d in a proof. -/
def kindOf (k M N : Int) (p d : Nat) : Int :=
  if (if k = 2 then ((p : Int) + pw d ≤ M ∨ M ≤ p) else (M < p ∨ (p : Int) + pw d ≤ M)) then 0 else if d = 0 then 1 else if (p : Int) + pw (d - 1) < N then 2 else 3

/-- Two bytes of a number. -/
def two8 (n : Int) : List UInt8 := [UInt8.ofNat (n / 256 % 256).toNat, UInt8.ofNat (n % 256).toNat]
theorem two8_length (n : Int) : (two8 n).length = 2 := rfl
end Go.Proofs.Ytlndinigbppafaa

/-
  Nodes and messages as plain data, their bytes, and how nodes lie in a world.
-/
namespace Go.Proofs.Ytlndinigbppafaa
open Go.RowKit

/-- A byte's number, as a byte. -/
def b8 (x : Int) : UInt8 := UInt8.ofNat x.toNat
theorem b8_nat (x : Int) (h0 : 0 ≤ x) (h1 : x ≤ 255) : ((b8 x).toNat : Int) = x := by
  unfold b8; rw [UInt8.toNat_ofNat_of_lt' (by show x.toNat < 256; omega)]; omega

/-- A node of a pruned tree. -/
structure PN where
  kind : Int
  dig : Int
  ev : ByteArray

/-- A node's bytes. -/
def encN (x : PN) : List UInt8 :=
  b8 x.kind :: ((if x.kind = 0 then two8 x.dig else []) ++ (if x.kind = 1 then b8 x.ev.size :: x.ev.data.toList else []))
def encNs (ns : List PN) : List UInt8 := (ns.map encN).flatten
/-- The bytes ahead of the tree. -/
def encH (k M N R : Int) : List UInt8 := b8 k :: ((if k = 1 then [] else two8 M) ++ (two8 N ++ (if k = 3 then [] else two8 R)))
def encM (k M N R : Int) (ns : List PN) : List UInt8 := encH k M N R ++ encNs ns

theorem encNs_snoc (ns : List PN) (k : Nat) (h : k < ns.length) : encNs (ns.take (k + 1)) = encNs (ns.take k) ++ encN ns[k] := by
  unfold encNs
  rw [take_snoc ns k h, List.map_append, List.flatten_append]
  simp only [List.map_cons, List.map_nil, List.flatten_cons, List.flatten_nil, List.append_nil]
theorem encNs_append (a b : List PN) : encNs (a ++ b) = encNs a ++ encNs b := by unfold encNs; rw [List.map_append, List.flatten_append]
theorem encN_le (x : PN) (m : Nat) (h : x.ev.size ≤ m) : (encN x).length ≤ 4 + m := by
  have e : x.ev.data.toList.length = x.ev.size := by rw [Array.length_toList]; rfl
  unfold encN
  split <;> split <;> simp [two8_length] <;> omega
theorem encNs_le (ns : List PN) (m : Nat) (h : ∀ x ∈ ns, x.ev.size ≤ m) : (encNs ns).length ≤ ns.length * (4 + m) := by
  induction ns with
  | nil => simp [encNs]
  | cons x ns ih =>
    have h1 := encN_le x m (h x (by simp))
    have h2 := ih (fun y hy => h y (by simp [hy]))
    have e : encNs (x :: ns) = encN x ++ encNs ns := by unfold encNs; rw [List.map_cons, List.flatten_cons]
    rw [e, List.length_append, List.length_cons, Nat.succ_mul]; omega
theorem encH_le (k M N R : Int) : (encH k M N R).length ≤ 7 := by
  unfold encH
  split <;> split <;> simp [two8_length]

/-- The nodes' cells. -/
def cellsN (ns : List PN) : List Value := (ns.map fun x => [Value.int .i64 x.kind, .int .i64 x.dig, .string x.ev]).flatten

/-- The slice v holds the nodes ns. -/
def NodesAt (w : World) (v : Value) (ns : List PN) : Prop :=
  ∃ ao cap, v = .slice ao ns.length cap ∧ (ao = none → cap = 0) ∧ (0 < ns.length → ∃ b o cur fr, ao = some ⟨b, o, none⟩ ∧ w.heap[b]? = some (.cells cur 100 fr) ∧
    ∀ j (h : j < ns.length), cur[o + j * 3]? = some (.int .i64 ns[j].kind) ∧ cur[o + j * 3 + 1]? = some (.int .i64 ns[j].dig) ∧ cur[o + j * 3 + 2]? = some (.string ns[j].ev))

theorem NodesAt.keep {w w' : World} {v : Value} {ns : List PN} (h : NodesAt w v ns) (hb : KeepsT 100 w w') : NodesAt w' v ns := by
  obtain ⟨ao, cap, rfl, hz, h⟩ := h
  refine ⟨ao, cap, rfl, hz, fun hl => ?_⟩
  obtain ⟨b, o, cur, fr, rfl, hlt, hc⟩ := h hl
  exact ⟨b, o, cur, fr, rfl, hb _ _ _ hlt, hc⟩

theorem NodesAt.cells {w : World} {v : Value} {ns : List PN} (h : NodesAt w v ns) : ∃ ao cap, v = .slice ao ns.length cap ∧ (ao = none → cap = 0) ∧ (0 < ns.length → ∃ b o, ao = some ⟨b, o, none⟩ ∧ b < w.heap.size ∧
    ∀ j (h : j < ns.length), w.cell? ⟨b, o + j * 3, none⟩ = some (.int .i64 ns[j].kind) ∧ w.cell? ⟨b, o + j * 3 + 1, none⟩ = some (.int .i64 ns[j].dig) ∧ w.cell? ⟨b, o + j * 3 + 2, none⟩ = some (.string ns[j].ev)) := by
  obtain ⟨ao, cap, rfl, hz, h⟩ := h
  refine ⟨ao, cap, rfl, hz, fun hl => ?_⟩
  obtain ⟨b, o, cur, fr, rfl, hlt, hc⟩ := h hl
  refine ⟨b, o, rfl, lt_of_heap hlt, fun j hj => ?_⟩
  rw [cell_of_row _ _ _ _ _ _ hlt, cell_of_row _ _ _ _ _ _ hlt, cell_of_row _ _ _ _ _ _ hlt]
  exact hc j hj

/-- Nodes that lie in a block of whatever type: what is handed in. -/
def NodesG (w : World) (v : Value) (ns : List PN) : Prop :=
  ∃ ao cap, v = .slice ao ns.length cap ∧ (ao = none → cap = 0) ∧ (0 < ns.length → ∃ b o cur t fr, ao = some ⟨b, o, none⟩ ∧ w.heap[b]? = some (.cells cur t fr) ∧
    ∀ j (h : j < ns.length), cur[o + j * 3]? = some (.int .i64 ns[j].kind) ∧ cur[o + j * 3 + 1]? = some (.int .i64 ns[j].dig) ∧ cur[o + j * 3 + 2]? = some (.string ns[j].ev))

theorem NodesAt.any {w : World} {v : Value} {ns : List PN} (h : NodesAt w v ns) : NodesG w v ns := by
  obtain ⟨ao, cap, rfl, hz, h⟩ := h
  refine ⟨ao, cap, rfl, hz, fun hl => ?_⟩
  obtain ⟨b, o, cur, fr, rfl, hlt, hc⟩ := h hl
  exact ⟨b, o, cur, _, fr, rfl, hlt, hc⟩

theorem NodesG.keep {w w' : World} {v : Value} {ns : List PN} (h : NodesG w v ns) (hb : ∀ {t : TypeId}, KeepsT t w w') : NodesG w' v ns := by
  obtain ⟨ao, cap, rfl, hz, h⟩ := h
  refine ⟨ao, cap, rfl, hz, fun hl => ?_⟩
  obtain ⟨b, o, cur, t, fr, rfl, hlt, hc⟩ := h hl
  exact ⟨b, o, cur, t, fr, rfl, hb _ _ _ hlt, hc⟩

theorem NodesG.cells {w : World} {v : Value} {ns : List PN} (h : NodesG w v ns) : ∃ ao cap, v = .slice ao ns.length cap ∧ (ao = none → cap = 0) ∧ (0 < ns.length → ∃ b o, ao = some ⟨b, o, none⟩ ∧ b < w.heap.size ∧
    ∀ j (h : j < ns.length), w.cell? ⟨b, o + j * 3, none⟩ = some (.int .i64 ns[j].kind) ∧ w.cell? ⟨b, o + j * 3 + 1, none⟩ = some (.int .i64 ns[j].dig) ∧ w.cell? ⟨b, o + j * 3 + 2, none⟩ = some (.string ns[j].ev)) := by
  obtain ⟨ao, cap, rfl, hz, h⟩ := h
  refine ⟨ao, cap, rfl, hz, fun hl => ?_⟩
  obtain ⟨b, o, cur, t, fr, rfl, hlt, hc⟩ := h hl
  refine ⟨b, o, rfl, lt_of_heap hlt, fun j hj => ?_⟩
  rw [cell_of_row _ _ _ _ _ _ hlt, cell_of_row _ _ _ _ _ _ hlt, cell_of_row _ _ _ _ _ _ hlt]
  exact hc j hj

/-- The values that a message of two-byte numbers may have. -/
structure SmallM (k M N R : Int) (ns : List PN) : Prop where
  k : 0 ≤ k ∧ k ≤ 255
  m : 0 ≤ M ∧ M ≤ 65535
  n : 0 ≤ N ∧ N ≤ 65535
  r : 0 ≤ R ∧ R ≤ 65535
  len : ns.length ≤ 1000000
  each : ∀ x ∈ ns, (0 ≤ x.kind ∧ x.kind ≤ 255) ∧ (0 ≤ x.dig ∧ x.dig ≤ 65535) ∧ x.ev.size ≤ 255

theorem encHN_le {k M N R : Int} (ns : List PN) (j : Nat) (hS : SmallM k M N R ns) : (encH k M N R ++ encNs (ns.take j)).length ≤ 1000000000 := by
  rw [List.length_append]
  have h0 := hS.len
  have h1 := encH_le k M N R
  have h2 := encNs_le (ns.take j) 255 (fun x hx => (hS.each x (List.mem_of_mem_take hx)).2.2)
  rw [List.length_take] at h2
  have h3 : min j ns.length * (4 + 255) ≤ 1000000 * 259 := Nat.mul_le_mul (by omega) (by omega)
  omega
end Go.Proofs.Ytlndinigbppafaa
