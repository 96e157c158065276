/-
  The operations of proofs: an element's address, the length, the receive, a slice of one, the append in place.
-/
import Derived.Test.YtlndinigbppafaaPsD
namespace Go.Proofs.Ytlndinigbppafaa
open Go.Sim Go.Conc

theorem indexAt_run {r n i : Nat} (hi : i < n) (w : World) :
    (Instr.indexAt 106 (.slice (some ⟨r, 0, none⟩) n n) (.int .i64 i)).run Try.prog w = .ok (.pointer (some ⟨r, i, none⟩)) w ∧ (Instr.indexAt 106 (.slice (some ⟨r, 0, none⟩) n n) (.int .i64 i)).events Try.prog w #[] = #[] := by
  have h1 : (0 : Int) ≤ i := by omega
  have h2 : (i : Int) < n := by omega
  constructor
  · simp [Instr.indexAt, asIntOf, und_run Try.und106, size_run Try.size107, hi, Addr.add]
    exact Eq.symm
  · simp [Instr.indexAt, asIntOf, und_run Try.und106, hi]

theorem len_run {ρ : Operand → Value} {o : Oper} {x : Operand} {b : Option Addr} {l c : Nat} (hop : o.op = .call { callee := .builtin .len, args := #[x], argTypes := #[106] }) (hx : ρ x = .slice b l c) (w : World) :
    (execOp ρ o).run Try.prog w = .ok (.value (.int .i64 l)) w ∧ (execOp ρ o).events Try.prog w #[] = #[] := by
  unfold execOp
  simp only [hop]
  constructor
  · simp [resolve, invoke, builtin, Builtin.len_, hx, und_run Try.und106, goInt]
  · simp [resolve, invoke, builtin, Builtin.len_, hx, und_run Try.und106]

theorem recv_run {ρ : Operand → Value} {o : Oper} {x : Operand} {c : Nat} (hop : o.op = .recv 107 x true) (hx : ρ x = .chan (some c)) (w : World) :
    (execOp ρ o).run Try.prog w = .ok (.comm #[rcase c (.slice none 0 0)] true (.recv true)) w ∧ (execOp ρ o).events Try.prog w #[] = #[] := by
  unfold execOp
  simp only [hop]
  constructor
  · simp [hx, und_run Try.und107, zero_run Try.zero24, rcase]
  · simp [und_run Try.und107]

theorem range1_map {α : Type} (f : Nat → α) : (Array.range 1).map f = #[f 0] := by
  apply Array.ext
  · simp
  · intro i h1 h2
    have : i = 0 := by simp at h1; exact h1
    subst this
    simp

theorem buildSlice_run {V : Value} (hV : Sl V) (w : World) :
    (Instr.buildSlice 23 1 #[(0, V)]).run Try.prog w = .ok (.slice (some ⟨w.heap.size, 0, none⟩) 1 1) (w.alloc (.cells #[V] 24)) ∧ (Instr.buildSlice 23 1 #[(0, V)]).events Try.prog w #[] = #[] := by
  have hf : Instr.fill (fun i => some (i, 1)) (#[.slice none 0 0] : Array Value) [(0, V)] = some #[V] := by
    simp [Instr.fill, hV.2]
  have hz : (Value.slice none 0 0).cells = #[.slice none 0 0] := rfl
  constructor
  · simp [Instr.buildSlice, und_run Try.und23, size_run Try.size24, zero_run Try.zero24, hz, range1_map, hf, newRow]
  · simp [Instr.buildSlice, und_run Try.und23, size_run Try.size24, zero_run Try.zero24, hz, range1_map, hf, newRow]

theorem append_run {ga tb m n : Nat} {c : Array Value} {V : Value} (hV : Sl V) (hm : m < n) (hc : c.size = n) {w : World} (hg : w.heap[ga]? = some (.cells c 24)) (ht : w.heap[tb]? = some (.cells #[V] 24)) :
    (Builtin.append_ #[23, 23] 23 #[.slice (some ⟨ga, 0, none⟩) m n, .slice (some ⟨tb, 0, none⟩) 1 1]).run Try.prog w = .ok (.slice (some ⟨ga, 0, none⟩) (m + 1) n) (w.setCell ⟨ga, m, none⟩ V) ∧
    (Builtin.append_ #[23, 23] 23 #[.slice (some ⟨ga, 0, none⟩) m n, .slice (some ⟨tb, 0, none⟩) 1 1]).events Try.prog w #[] = #[⟨.cell ⟨tb, 0, none⟩, false, false⟩, ⟨.cell ⟨ga, m, none⟩, true, false⟩] := by
  have hct : w.cell? ⟨tb, 0, none⟩ = some V := by simp [World.cell?, ht]
  have hcg : w.cell? ⟨ga, m, none⟩ = some c[m] := by simp [World.cell?, hg, hc, hm]
  have hfr : w.frozen? ⟨ga, m, none⟩ = false := by simp [World.frozen?, hg]
  have hr := run_store Try.prog w ⟨ga, m, none⟩ V .plain hV.1
  rw [hcg] at hr
  simp only [hfr] at hr
  have hr' : (store ⟨ga, m, none⟩ V).run Try.prog w = .ok () (w.setCell ⟨ga, m, none⟩ V) := by simpa using hr
  have he : ∀ es, (store ⟨ga, m, none⟩ V).events Try.prog w es = es.push ⟨.cell ⟨ga, m, none⟩, true, false⟩ := by
    intro es
    rw [events_store (hv := hV.1), hcg]
    simp only [hfr, Bool.false_eq_true, if_false]
    rfl
  have hmn : m + 1 ≤ n := hm
  have hif : (if m = 0 then (⟨ga, 0, none⟩ : Addr) else ⟨ga, m, none⟩) = ⟨ga, m, none⟩ := by
    split
    · rename_i h; rw [h]
    · rfl
  constructor
  · simp [Builtin.append_, und_run Try.und23, size_run Try.size24, Builtin.lenOf, hmn, Builtin.firstCells, loadCells, loadCellsFrom, storeCells, Addr.add, hct]
    rw [hif, hr']
    rfl
  · simp [Builtin.append_, und_run Try.und23, size_run Try.size24, Builtin.lenOf, hmn, Builtin.firstCells, loadCells, loadCellsFrom, storeCells, Addr.add, hct]
    rw [hif, he]
    rfl
end Go.Proofs.Ytlndinigbppafaa
