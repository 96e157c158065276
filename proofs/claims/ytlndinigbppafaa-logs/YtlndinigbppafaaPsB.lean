/-
  The operations of proofs and startMember on memory.
-/
import Derived.Test.YtlndinigbppafaaPsA
import Derived.KernelRfl
import Derived.Laws.MakeOwn
namespace Go.Proofs.Ytlndinigbppafaa
open Go.Sim Go.Conc

theorem Try.bytes24 : (Try.prog.info? 24).map (fun i => i.bytes) = some 24 := by kernel_rfl
theorem Try.bytes107 : (Try.prog.info? 107).map (fun i => i.bytes) = some 8 := by kernel_rfl
theorem Try.zero121 : (Try.prog.info? 121).map (fun i => i.zero) = some (some (.chan none)) := by kernel_rfl
theorem Try.zero107 : (Try.prog.info? 107).map (fun i => i.zero) = some (some (.chan none)) := by kernel_rfl
theorem Try.zero24 : (Try.prog.info? 24).map (fun i => i.zero) = some (some (.slice none 0 0)) := by kernel_rfl
theorem Try.size121 : (Try.prog.info? 121).map (fun i => i.size) = some 1 := by kernel_rfl
theorem Try.size107 : (Try.prog.info? 107).map (fun i => i.size) = some 1 := by kernel_rfl
theorem Try.size24 : (Try.prog.info? 24).map (fun i => i.size) = some 1 := by kernel_rfl
theorem Try.und121 : Try.prog.underlying 121 = some (.chan .both 24) := by kernel_rfl
theorem Try.und107 : Try.prog.underlying 107 = some (.chan .recv 24) := by kernel_rfl
theorem Try.und106 : Try.prog.underlying 106 = some (.slice 107) := by kernel_rfl
theorem Try.und23 : Try.prog.underlying 23 = some (.slice 24) := by kernel_rfl

theorem zero_run {t : TypeId} {z : Value} (h : (Try.prog.info? t).map (fun i => i.zero) = some (some z)) (w : World) : (zeroValue t).run Try.prog w = .ok z w := by
  obtain ⟨i, h1, h2⟩ := Option.map_eq_some_iff.1 h
  simp [zeroValue, typeInfo, h1, h2]
theorem size_run {t : TypeId} {n : Nat} (h : (Try.prog.info? t).map (fun i => i.size) = some n) (w : World) : (sizeOf t).run Try.prog w = .ok n w := by
  obtain ⟨i, h1, h2⟩ := Option.map_eq_some_iff.1 h
  simp [sizeOf, typeInfo, h1, h2]
theorem info_run {t : TypeId} {n : Nat} (h : (Try.prog.info? t).map (fun i => i.bytes) = some n) (w : World) : ∃ i, (typeInfo t).run Try.prog w = .ok i w ∧ i.bytes = n := by
  obtain ⟨i, h1, h2⟩ := Option.map_eq_some_iff.1 h
  exact ⟨i, by simp [typeInfo, h1], h2⟩
theorem und_run {t : TypeId} {d : TypeDesc} (h : Try.prog.underlying t = some d) (w : World) : (underlying t).run Try.prog w = .ok d w := by simp [underlying, h]

theorem box_run (t : TypeId) (v : Value) (w : World) : (Instr.box t v).run Try.prog w = .ok (.pointer (some ⟨w.heap.size, 0, none⟩)) (w.alloc (.cells v.cells t)) ∧ (Instr.box t v).events Try.prog w #[] = #[] := by
  constructor
  · simp [Instr.box, newVar, newRow]
  · simp [Instr.box, newVar, newRow]
theorem alloc_run {t : TypeId} {z : Value} (h : (Try.prog.info? t).map (fun i => i.zero) = some (some z)) (w : World) :
    (Instr.alloc t true (.tuple #[])).run Try.prog w = .ok (.pointer (some ⟨w.heap.size, 0, none⟩)) (w.alloc (.cells z.cells t)) ∧ (Instr.alloc t true (.tuple #[])).events Try.prog w #[] = #[] := by
  constructor
  · simp [Instr.alloc, zero_run h, newVar, newRow]
  · simp [Instr.alloc, zero_run h, newVar, newRow]
theorem makeChan_run (w : World) : (Instr.makeChan 121 (.int .i64 1)).run Try.prog w = .ok (.chan (some w.heap.size)) (w.alloc (.chan 1 #[] false 0 0 false)) ∧ (Instr.makeChan 121 (.int .i64 1)).events Try.prog w #[] = #[] := by
  have hd := Try.und121
  obtain ⟨i, hi, hb⟩ := info_run Try.bytes24 w
  constructor
  · simp [Instr.makeChan, asInt, asIntOf, und_run hd, hi, hb, IntKind.max, IntKind.signed, IntKind.bits]
  · simp [Instr.makeChan, asInt, asIntOf, und_run hd, hi, hb, IntKind.max, IntKind.signed, IntKind.bits]

theorem setCell_at {w : World} {r off : Nat} {c : Array Value} {t : TypeId} {v : Value} (h : w.heap[r]? = some (.cells c t)) : (w.setCell ⟨r, off, none⟩ v).heap[r]? = some (.cells (c.setIfInBounds off v) t) := by
  simp [World.setCell, Array.getElem?_modify, h]
theorem setCell_other {w : World} {r off b : Nat} {v : Value} (h : b ≠ r) : (w.setCell ⟨r, off, none⟩ v).heap[b]? = w.heap[b]? := by
  simp [World.setCell, Array.getElem?_modify, Ne.symm h]
theorem setCell_size {w : World} {A : Addr} {v : Value} : (w.setCell A v).heap.size = w.heap.size := by simp [World.setCell]

theorem storeAt_run {w : World} {r off : Nat} {c : Array Value} {t e : TypeId} {v : Value} (hs : (Try.prog.info? t).map (fun i => i.size) = some 1) (hv : v.oneCell' = true) (hc : v.cells = #[v]) (h : w.heap[r]? = some (.cells c e)) (ho : off < c.size) :
    (Instr.storeAt t (.pointer (some ⟨r, off, none⟩)) v).run Try.prog w = .ok () (w.setCell ⟨r, off, none⟩ v) ∧ (Instr.storeAt t (.pointer (some ⟨r, off, none⟩)) v).events Try.prog w #[] = #[⟨.cell ⟨r, off, none⟩, true, false⟩] := by
  have hce : w.cell? ⟨r, off, none⟩ = some c[off] := by simp [World.cell?, h, ho]
  have hfr : w.frozen? ⟨r, off, none⟩ = false := by simp [World.frozen?, h]
  have hr := run_store Try.prog w ⟨r, off, none⟩ v .plain hv
  rw [hce] at hr
  simp only [hfr] at hr
  have hr' : (store ⟨r, off, none⟩ v).run Try.prog w = .ok () (w.setCell ⟨r, off, none⟩ v) := by simpa using hr
  have he : (store ⟨r, off, none⟩ v).events Try.prog w #[] = #[⟨.cell ⟨r, off, none⟩, true, false⟩] := by
    rw [events_store (hv := hv), hce]
    simp [hfr]
  constructor
  · simp [Instr.storeAt, Instr.sureAddr, storeVar, hc, size_run hs, storeCells, Addr.add, hr']
  · simp [Instr.storeAt, Instr.sureAddr, storeVar, hc, size_run hs, storeCells, Addr.add, he]
theorem loadAt_run {w : World} {r off : Nat} {c : Array Value} {t e : TypeId} {v : Value} (ha : (isAgg t).run Try.prog w = .ok false w) (h : w.heap[r]? = some (.cells c e)) (ho : c[off]? = some v) :
    (Instr.loadAt t (.pointer (some ⟨r, off, none⟩))).run Try.prog w = .ok v w ∧ (Instr.loadAt t (.pointer (some ⟨r, off, none⟩))).events Try.prog w #[] = #[⟨.cell ⟨r, off, none⟩, false, false⟩] := by
  have hce : w.cell? ⟨r, off, none⟩ = some v := by simp [World.cell?, h, ho]
  constructor
  · simp [Instr.loadAt, Instr.sureAddr, loadVar, ha, hce]
  · simp [Instr.loadAt, Instr.sureAddr, loadVar, ha, hce]

theorem made_rep (z : Value) (n : Nat) : madeCells #[z] n = Array.replicate n z := by
  unfold madeCells
  apply Array.ext
  · simp
  · intro j _ _
    simp [Nat.mod_one]

theorem makeSlice_run {t e : TypeId} {z : Value} {sz l n : Nat} (hu : Try.prog.underlying t = some (.slice e)) (hz : (Try.prog.info? e).map (fun i => i.zero) = some (some z)) (hzc : z.cells = #[z]) (hs : (Try.prog.info? e).map (fun i => i.size) = some 1) (hb : (Try.prog.info? e).map (fun i => i.bytes) = some sz)
    (hl : l ≤ n) (hn : sz * n ≤ 281474976710656) (hn2 : n ≤ 9223372036854775807) (w : World) :
    (Instr.makeSlice t (.int .i64 l) (.int .i64 n)).run Try.prog w = .ok (.slice (some ⟨w.heap.size, 0, none⟩) l n) (w.alloc (.cells (Array.replicate n z) e)) ∧ ∀ ev ∈ (Instr.makeSlice t (.int .i64 l) (.int .i64 n)).events Try.prog w #[], ev.loc = .mark .noRoom := by
  obtain ⟨i, h1, h2⟩ := Option.map_eq_some_iff.1 hz
  have h3 : i.size = 1 := by rw [h1] at hs; simpa using hs
  have h4 : i.bytes = sz := by rw [h1] at hb; simpa using hb
  have hby : (i.bytes : Int) * (n : Int) ≤ 281474976710656 := by
    have : ((sz * n : Nat) : Int) ≤ 281474976710656 := by omega
    rw [h4, ← Int.natCast_mul]; exact this
  refine ⟨?_, ?_⟩
  · have := run_make (P := Try.prog) w t e i z hu h1 h2 .i64 .i64 (l : Int) (n : Int) (by omega) (by omega) hby (by omega)
    rw [this, h3, hzc, Int.toNat_natCast, Int.toNat_natCast, Nat.mul_one, made_rep]
  · intro ev hev
    have wl : IntKind.i64.wrap (l : Int) = l := by rw [IntKind.wrap_i64]; omega
    have wc : IntKind.i64.wrap (n : Int) = n := by rw [IntKind.wrap_i64]; omega
    have n1 : ¬ (n : Int) < 0 := by omega
    have n2 : ¬ (281474976710656 < (i.bytes : Int) * (n : Int)) := by omega
    have n3 : ¬ (l : Int) < 0 := by omega
    have n4 : ¬ (n : Int) < l := by omega
    have key : (Instr.makeSlice t (.int .i64 l) (.int .i64 n)).events Try.prog w #[] = (askRoom (n * i.bytes)).events Try.prog w #[] := by
      simp [Instr.makeSlice, run_underlying hu, asInt, asIntOf, typeInfo, h1, sizeOf, zeroValue, h2, wl, wc, n1, n2, n3, n4, newRow]
    rw [key] at hev
    rcases events_askRoom _ _ _ ev hev with q | ⟨m, rfl, hm⟩
    · simp at q
    · rw [hm]
end Go.Proofs.Ytlndinigbppafaa
