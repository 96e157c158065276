/-
  Nodes and messages as plain data, their bytes, and how nodes lie in a world.
-/
import Derived.Test.YtpdjdaipijjeeaaDep
namespace Go.Proofs.Ytpdjdaipijjeeaa
open Go.RowKit

/-- A byte's number, as a byte. -/
def b8 (x : Int) : UInt8 := UInt8.ofNat x.toNat
theorem b8_nat (x : Int) (h0 : 0 ≤ x) (h1 : x ≤ 255) : ((b8 x).toNat : Int) = x := by
  unfold b8; rw [UInt8.toNat_ofNat_of_lt' (by show x.toNat < 256; omega)]; omega

/-- A node of a pruned tree. -/
structure PN where
  kind : Int
  dig : Int
  ev : ByteArray

/-- A node's bytes. -/
def encN (x : PN) : List UInt8 :=
  b8 x.kind :: ((if x.kind = 0 then two8 x.dig else []) ++ (if x.kind = 1 then b8 x.ev.size :: x.ev.data.toList else []))
def encNs (ns : List PN) : List UInt8 := (ns.map encN).flatten
/-- The bytes ahead of the tree. -/
def encH (k M N R : Int) : List UInt8 := b8 k :: ((if k = 1 then [] else two8 M) ++ (two8 N ++ (if k = 3 then [] else two8 R)))
def encM (k M N R : Int) (ns : List PN) : List UInt8 := encH k M N R ++ encNs ns

theorem encNs_snoc (ns : List PN) (k : Nat) (h : k < ns.length) : encNs (ns.take (k + 1)) = encNs (ns.take k) ++ encN ns[k] := by
  unfold encNs
  rw [take_snoc ns k h, List.map_append, List.flatten_append]
  simp only [List.map_cons, List.map_nil, List.flatten_cons, List.flatten_nil, List.append_nil]
theorem encNs_append (a b : List PN) : encNs (a ++ b) = encNs a ++ encNs b := by unfold encNs; rw [List.map_append, List.flatten_append]
theorem encN_le (x : PN) (m : Nat) (h : x.ev.size ≤ m) : (encN x).length ≤ 4 + m := by
  have e : x.ev.data.toList.length = x.ev.size := by rw [Array.length_toList]; rfl
  unfold encN
  split <;> split <;> simp [two8_length] <;> omega
theorem encNs_le (ns : List PN) (m : Nat) (h : ∀ x ∈ ns, x.ev.size ≤ m) : (encNs ns).length ≤ ns.length * (4 + m) := by
  induction ns with
  | nil => simp [encNs]
  | cons x ns ih =>
    have h1 := encN_le x m (h x (by simp))
    have h2 := ih (fun y hy => h y (by simp [hy]))
    have e : encNs (x :: ns) = encN x ++ encNs ns := by unfold encNs; rw [List.map_cons, List.flatten_cons]
    rw [e, List.length_append, List.length_cons, Nat.succ_mul]; omega
theorem encH_le (k M N R : Int) : (encH k M N R).length ≤ 7 := by
  unfold encH
  split <;> split <;> simp [two8_length]

/-- The nodes' cells. -/
def cellsN (ns : List PN) : List Value := (ns.map fun x => [Value.int .i64 x.kind, .int .i64 x.dig, .string x.ev]).flatten

/-- The slice v holds the nodes ns. -/
def NodesAt (w : World) (v : Value) (ns : List PN) : Prop :=
  ∃ ao cap, v = .slice ao ns.length cap ∧ (ao = none → cap = 0) ∧ (0 < ns.length → ∃ b o cur fr, ao = some ⟨b, o, none⟩ ∧ w.heap[b]? = some (.cells cur 100 fr) ∧
    ∀ j (h : j < ns.length), cur[o + j * 3]? = some (.int .i64 ns[j].kind) ∧ cur[o + j * 3 + 1]? = some (.int .i64 ns[j].dig) ∧ cur[o + j * 3 + 2]? = some (.string ns[j].ev))

theorem NodesAt.keep {w w' : World} {v : Value} {ns : List PN} (h : NodesAt w v ns) (hb : KeepsT 100 w w') : NodesAt w' v ns := by
  obtain ⟨ao, cap, rfl, hz, h⟩ := h
  refine ⟨ao, cap, rfl, hz, fun hl => ?_⟩
  obtain ⟨b, o, cur, fr, rfl, hlt, hc⟩ := h hl
  exact ⟨b, o, cur, fr, rfl, hb _ _ _ hlt, hc⟩

theorem NodesAt.cells {w : World} {v : Value} {ns : List PN} (h : NodesAt w v ns) : ∃ ao cap, v = .slice ao ns.length cap ∧ (ao = none → cap = 0) ∧ (0 < ns.length → ∃ b o, ao = some ⟨b, o, none⟩ ∧ b < w.heap.size ∧
    ∀ j (h : j < ns.length), w.cell? ⟨b, o + j * 3, none⟩ = some (.int .i64 ns[j].kind) ∧ w.cell? ⟨b, o + j * 3 + 1, none⟩ = some (.int .i64 ns[j].dig) ∧ w.cell? ⟨b, o + j * 3 + 2, none⟩ = some (.string ns[j].ev)) := by
  obtain ⟨ao, cap, rfl, hz, h⟩ := h
  refine ⟨ao, cap, rfl, hz, fun hl => ?_⟩
  obtain ⟨b, o, cur, fr, rfl, hlt, hc⟩ := h hl
  refine ⟨b, o, rfl, lt_of_heap hlt, fun j hj => ?_⟩
  rw [cell_of_row _ _ _ _ _ _ hlt, cell_of_row _ _ _ _ _ _ hlt, cell_of_row _ _ _ _ _ _ hlt]
  exact hc j hj

/-- The values that a message of two-byte numbers may have. -/
structure SmallM (k M N R : Int) (ns : List PN) : Prop where
  k : 0 ≤ k ∧ k ≤ 255
  m : 0 ≤ M ∧ M ≤ 65535
  n : 0 ≤ N ∧ N ≤ 65535
  r : 0 ≤ R ∧ R ≤ 65535
  len : ns.length ≤ 1000000
  each : ∀ x ∈ ns, (0 ≤ x.kind ∧ x.kind ≤ 255) ∧ (0 ≤ x.dig ∧ x.dig ≤ 65535) ∧ x.ev.size ≤ 255

theorem encHN_le {k M N R : Int} (ns : List PN) (j : Nat) (hS : SmallM k M N R ns) : (encH k M N R ++ encNs (ns.take j)).length ≤ 1000000000 := by
  rw [List.length_append]
  have h0 := hS.len
  have h1 := encH_le k M N R
  have h2 := encNs_le (ns.take j) 255 (fun x hx => (hS.each x (List.mem_of_mem_take hx)).2.2)
  rw [List.length_take] at h2
  have h3 : min j ns.length * (4 + 255) ≤ 1000000 * 259 := Nat.mul_le_mul (by omega) (by omega)
  omega
end Go.Proofs.Ytpdjdaipijjeeaa
