/-
  A message that is handed in: four numbers and a list of nodes, in a block of whatever type.
-/
import Derived.Test.YtlndinigbppafaaSumW
import Derived.Test.YtlndinigbppafaaSumsW
import Derived.Test.YtlndinigbppafaaRows
import Derived.ProofKit
import Derived.ChangeMaps5
import Derived.Deep.Slices
import Derived.Lib.SmallJoins
namespace Go.Proofs.Ytlndinigbppafaa
open Go.ChangeShapes Go.WideShapes Go.ChangeAt Go.RowKit Go.Deep

section
variable {H : Type} {enc : TypeId × Value → H} {P : Program} {w : World} {base : Nat} {spare : Nat → Bool} {held : Bool}

theorem array5 {α : Type} {cs : Array α} (h : cs.size = 5) : ∃ c0 c1 c2 c3 c4, cs = #[c0, c1, c2, c3, c4] := by
  obtain ⟨l⟩ := cs
  match l, h with
  | [c0, c1, c2, c3, c4], _ => exact ⟨c0, c1, c2, c3, c4, rfl⟩
theorem list3 {α : Type} {l : List α} (h : l.length = 3) : ∃ c0 c1 c2, l = [c0, c1, c2] := by
  match l, h with
  | [c0, c1, c2], _ => exact ⟨c0, c1, c2, rfl⟩

/-- A struct of five one-cell fields, opened. -/
theorem open_agg5 {r : Reach} {b0 : Nat} {t : TypeId} {f0 f1 f2 f3 f4 : Field} {v : Value} {d : DataW H} {p : List MemPlace} (hs : P.underlying t = some (.struct #[f0, f1, f2, f3, f4])) (hone : oneCellFields P #[f0, f1, f2, f3, f4] = true) (hC : P.cellsOf t = 5)
    (hv : Value.okWide P w r b0 t v) (h : DataW.Trod enc P w base spare held t v d p) :
    ∃ (v0 v1 v2 v3 v4 : Value) (y0 y1 y2 y3 y4 : DataW H × List MemPlace) (n : Nat), v = .agg #[v0, v1, v2, v3, v4] ∧
      DataW.trod enc P w base spare held n f0.type [v0] = some y0 ∧ DataW.trod enc P w base spare held n f1.type [v1] = some y1 ∧ DataW.trod enc P w base spare held n f2.type [v2] = some y2 ∧ DataW.trod enc P w base spare held n f3.type [v3] = some y3 ∧ DataW.trod enc P w base spare held n f4.type [v4] = some y4 := by
  obtain ⟨cs, rfl, hsz⟩ := okWide_struct hs hv
  obtain ⟨c0, c1, c2, c3, c4, rfl⟩ := array5 (hsz.trans hC)
  obtain ⟨fuel, hf⟩ := h
  obtain ⟨xs, n, _, _, _, hlen, hg⟩ := DataW.trod_struct hs hf
  obtain ⟨o0, k0⟩ := hone_of hone 0 f0 rfl
  obtain ⟨o1, k1⟩ := hone_of hone 1 f1 rfl
  obtain ⟨o2, k2⟩ := hone_of hone 2 f2 rfl
  obtain ⟨o3, k3⟩ := hone_of hone 3 f3 rfl
  obtain ⟨o4, k4⟩ := hone_of hone 4 f4 rfl
  match xs, hlen with
  | [y0, y1, y2, y3, y4], _ =>
    exact ⟨c0, c1, c2, c3, c4, y0, y1, y2, y3, y4, n, rfl, by simpa [Value.cells, o0, k0] using hg 0 f0 rfl, by simpa [Value.cells, o1, k1] using hg 1 f1 rfl, by simpa [Value.cells, o2, k2] using hg 2 f2 rfl, by simpa [Value.cells, o3, k3] using hg 3 f3 rfl, by simpa [Value.cells, o4, k4] using hg 4 f4 rfl⟩

/-- A node that is handed in. -/
theorem node_in {t : TypeId} {f0 f1 f2 : Field} {fuel : Nat} {cs : List Value} {a : Addr} {x : DataW H × List MemPlace} (hs : P.underlying t = some (.struct #[f0, f1, f2])) (hone : oneCellFields P #[f0, f1, f2] = true)
    (h0 : P.underlying f0.type = some (.int .i64)) (h1 : P.underlying f1.type = some (.int .i64)) (h2 : P.underlying f2.type = some .string)
    (hc : w.cells? base a 3 = some cs) (h : DataW.trod enc P w base spare held fuel t cs = some x) :
    ∃ n : PN, w.cell? (a.add 0) = some (.int .i64 n.kind) ∧ w.cell? (a.add 1) = some (.int .i64 n.dig) ∧ w.cell? (a.add 2) = some (.string n.ev) := by
  obtain ⟨_, hlen, hcell⟩ := World.cells?_some hc
  obtain ⟨v0, v1, v2, rfl⟩ := list3 hlen
  obtain ⟨xs, k, _, _, _, hl, hf⟩ := DataW.trod_struct hs h
  obtain ⟨o0, k0⟩ := hone_of hone 0 f0 rfl
  obtain ⟨o1, k1⟩ := hone_of hone 1 f1 rfl
  obtain ⟨o2, k2⟩ := hone_of hone 2 f2 rfl
  match xs, hl with
  | [y0, y1, y2], _ =>
    have g0 : DataW.trod enc P w base spare held k f0.type [v0] = some y0 := by simpa [o0, k0] using hf 0 f0 rfl
    have g1 : DataW.trod enc P w base spare held k f1.type [v1] = some y1 := by simpa [o1, k1] using hf 1 f1 rfl
    have g2 : DataW.trod enc P w base spare held k f2.type [v2] = some y2 := by simpa [o2, k2] using hf 2 f2 rfl
    obtain ⟨n0, e0, _⟩ := DataW.trod_int h0 g0
    obtain ⟨n1, e1, _⟩ := DataW.trod_int h1 g1
    obtain ⟨n2, e2, _⟩ := DataW.trod_string h2 g2
    simp only [List.cons.injEq, and_true] at e0 e1 e2
    subst e0 e1 e2
    exact ⟨⟨n0, n1, n2⟩, by simpa using hcell 0 (by simp), by simpa using hcell 1 (by simp), by simpa using hcell 2 (by simp)⟩
end

theorem cell_block {w : World} {b o : Nat} {v : Value} (h : w.cell? ⟨b, o, none⟩ = some v) : ∃ cur t fr, w.heap[b]? = some (.cells cur t fr) ∧ cur[o]? = some v := by
  unfold World.cell? at h
  split at h
  · rename_i c t fr hh
    simp at h
    exact ⟨c, t, fr, hh, h⟩
  · cases h

/-- A list of nodes that is handed in. -/
theorem nodes_in {H : Type} {enc : TypeId × Value → H} {P : Program} {w : World} {base : Nat} {spare : Nat → Bool} {held : Bool} {t e : TypeId} {f0 f1 f2 : Field} {fuel : Nat} {T : Value} {x : DataW H × List MemPlace} (ht : P.underlying t = some (.slice e)) (hs : P.underlying e = some (.struct #[f0, f1, f2])) (hone : oneCellFields P #[f0, f1, f2] = true) (hce : P.cellsOf e = 3)
    (h0 : P.underlying f0.type = some (.int .i64)) (h1 : P.underlying f1.type = some (.int .i64)) (h2 : P.underlying f2.type = some .string)
    (h : DataW.trod enc P w base spare held fuel t [T] = some x) : ∃ ns : List PN, NodesG w T ns := by
  rcases open_slice ht h with ⟨hc, _⟩ | ⟨a, len, cap, m, n, D, Pl, hc, hb, hl, hm, hmm, _, hx⟩
  · simp only [List.cons.injEq, and_true] at hc
    exact ⟨[], none, 0, hc, fun _ => rfl, fun h => by simp at h⟩
  · simp only [List.cons.injEq, and_true] at hc
    have hlm : len ≤ m := by rw [hmm]; split <;> omega
    have each : ∀ i, i < len → ∃ q : PN, w.cell? ((a.add (i * 3)).add 0) = some (.int .i64 q.kind) ∧ w.cell? ((a.add (i * 3)).add 1) = some (.int .i64 q.dig) ∧ w.cell? ((a.add (i * 3)).add 2) = some (.string q.ev) := by
      intro i hi
      obtain ⟨cs', e1, e2⟩ := hx i (by omega)
      rw [hce] at e1
      exact node_in hs hone h0 h1 h2 e1 e2
    obtain ⟨f, hf⟩ := @choose_lt PN ⟨⟨0, 0, ByteArray.empty⟩⟩ _ _ each
    refine ⟨(List.range len).map f, some a, cap, by simpa using hc, fun h => (by cases h), fun hl => ?_⟩
    simp only [List.length_map, List.length_range] at hl
    obtain ⟨b, o, spot⟩ := a
    have hspot : spot = none := by simpa [Addr.add] using World.cell?_spot (hf 0 hl).1
    subst hspot
    simp only [add_add] at hf
    simp only [add_plain] at hf
    obtain ⟨cur, tt, fr, hh, _⟩ := cell_block (hf 0 hl).1
    refine ⟨b, o, cur, tt, fr, rfl, hh, fun j hj => ?_⟩
    simp only [List.length_map, List.length_range] at hj
    have hj3 := hf j hj
    rw [cell_of_row _ _ _ _ _ _ hh, cell_of_row _ _ _ _ _ _ hh, cell_of_row _ _ _ _ _ _ hh] at hj3
    simpa [Nat.add_assoc] using hj3

theorem Try.cellsNode : Try.prog.cellsOf 100 = 3 := by kernel_rfl
theorem Try.cellsMsg : Try.prog.cellsOf 42 = 5 := by kernel_rfl

set_option maxRecDepth 100000 in
/-- A message that is handed in. -/
theorem message_in {H : Type} {enc : TypeId × Value → H} {W : World} {base : Nat} {v : Value} {d : DataW H} {p : List MemPlace}
    (hok : Value.okWide Try.prog W .any base 42 v) (h : DataW.Trod enc Try.prog W 0 (fun _ => true) true 42 v d p) :
    ∃ (k M N R : Int) (T : Value) (ns : List PN), v = .agg #[.int .i64 k, .int .i64 M, .int .i64 N, .int .i64 R, T] ∧ NodesG W T ns := by
  obtain ⟨v0, v1, v2, v3, v4, y0, y1, y2, y3, y4, n, rfl, g0, g1, g2, g3, g4⟩ := open_agg5 Try.underlying42 (by kernel_rfl) Try.cellsMsg hok h
  obtain ⟨k, e0, _⟩ := DataW.trod_int Try.underlying3 g0
  obtain ⟨M, e1, _⟩ := DataW.trod_int Try.underlying3 g1
  obtain ⟨N, e2, _⟩ := DataW.trod_int Try.underlying3 g2
  obtain ⟨R, e3, _⟩ := DataW.trod_int Try.underlying3 g3
  simp only [List.cons.injEq, and_true] at e0 e1 e2 e3
  subst e0 e1 e2 e3
  obtain ⟨ns, hns⟩ := nodes_in Try.underlying40 Try.underlying100 (by kernel_rfl) Try.cellsNode Try.underlying3 Try.underlying3 Try.underlying9 g4
  exact ⟨k, M, N, R, v4, ns, rfl, hns⟩
end Go.Proofs.Ytlndinigbppafaa
