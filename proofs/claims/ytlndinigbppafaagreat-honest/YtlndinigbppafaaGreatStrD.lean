/-
  The walk of slices.Insert over texts.
-/
import Derived.Test.YtlndinigbppafaaGreatEntD
import Derived.Test.YtlndinigbppafaaGreatFamC
import Derived.Laws.CopyRow
import Derived.Laws.Externs
import Derived.Lib.Overlaps
import Derived.Lib.AppendZerosOnto
import Derived.Deep.AppendLies
import Derived.BigRegion
namespace Go.Proofs.YtlndinigbppafaaGreat
open Go.RowKit

/-- Texts as cells. -/
def cellsS (l : List ByteArray) : List Value := l.map Value.string
theorem cellsS_length (l : List ByteArray) : (cellsS l).length = l.length := List.length_map _
theorem cellsS_append (a b : List ByteArray) : cellsS (a ++ b) = cellsS a ++ cellsS b := List.map_append
theorem cellsS_cons (x : ByteArray) (l : List ByteArray) : cellsS (x :: l) = .string x :: cellsS l := rfl
theorem cellsS_one (l : List ByteArray) : ∀ u ∈ cellsS l, u.oneCell' = true := by
  intro u hu
  obtain ⟨b, _, rfl⟩ := List.mem_map.1 hu
  rfl

theorem Tryz.infoStrS : (Tryz.prog.info? 9).map (fun i => (i.zero, i.size, i.bytes)) = some (some (.string ByteArray.empty), 1, 16) := by kernel_rfl

theorem size_str (w : World) : (Go.sizeOf 9).run Tryz.prog w = .ok 1 w := by
  obtain ⟨i0, hi, _, hz1, _⟩ := info_parts Tryz.infoStrS
  simp [Go.sizeOf, typeInfo, hi, hz1]

set_option maxRecDepth 100000 in
set_option maxHeartbeats 4000000 in
/-- There is room, and not at the end: in place. -/
theorem insS_shift (l : List ByteArray) (t : ByteArray) (p g cap X : Nat) (cur : Array Value) (w : World) (hp : p < l.length) (hroom : l.length + 1 ≤ cap) (hl : l.length ≤ 100000) (hg : w.heap[g]? = some (.cells cur 9 (0, 0))) (hsz : cur.size = cap) (hcur : cur.toList.take (l.length) = cellsS l)
    (hX : w.heap[X]? = some (.cells #[.string t] 9 (0, 0))) (hgX : X ≠ g) :
    Calls Tryz.prog 193 #[.slice (some ⟨g, 0, none⟩) l.length cap, .int .i64 p, .slice (some ⟨X, 0, none⟩) 1 1] w fun e w' => e = .returned (.slice (some ⟨g, 0, none⟩) (l.length + 1) cap) ∧ Frame2 w w' g none ∧ ∃ cur' : Array Value, w'.heap[g]? = some (.cells cur' 9 (0, 0)) ∧ cur'.size = cap ∧ cur'.toList.take ((l.length + 1)) = cellsS (l.take p ++ t :: l.drop p) := by
  have hov : ∀ u : World, u.heap = w.heap → ∀ off lb cb, (callFunc 203 #[.slice (some ⟨X, 0, none⟩) 1 1, .slice (some ⟨g, off, none⟩) lb cb]).run Tryz.prog u = .ok (.value (.bool false)) u := fun u hu off lb cb => by
    have e1 : u.shape? X = some (9, 1) := by unfold World.shape?; rw [hu, hX]; rfl
    have e2 : u.shape? g = some (9, cur.size) := by unfold World.shape?; rw [hu, hg]
    have e3 : u.frozen? ⟨X, 0, none⟩ = false := by unfold World.frozen?; rw [hu, hX]; rfl
    have e4 : u.frozen? ⟨X, 1, none⟩ = false := by unfold World.frozen?; rw [hu, hX]; rfl
    rw [run_callFunc_extern Tryz.func203 (by kernel_rfl) (by kernel_rfl) (by kernel_rfl) (e := Extern.SlicesOverlaps.overlaps #[22, 22] #[4]) (by kernel_rfl),
      Lib.run_overlaps_apart u 22 4 9 Tryz.underlying22 1 size_str ⟨X, 0, none⟩ ⟨g, off, none⟩ 1 1 lb cb hgX _ _ _ _ e1 e2 (by omega) e3 e4]
    rfl
  have hsz2 : (Tryz.prog.info? 9).map (·.size) = some 1 := by
    obtain ⟨i0, hi, _, hz1, _⟩ := info_parts Tryz.infoStrS
    rw [hi]; simp [hz1]
  have hrow : ∀ j v, (cellsS l)[j]? = some v → w.cell? ⟨g, j, none⟩ = some v := fun j v hj => by
    rw [cell_of_row _ _ _ _ _ _ hg]
    rw [← hcur, List.getElem?_take] at hj
    split at hj
    · simpa using hj
    · cases hj
  have hdl : (cellsS (l.drop p)).length = (l.length - p) := by rw [cellsS_length, List.length_drop]
  have hde : cellsS (l.drop p) = (cellsS l).drop p := by unfold cellsS; rw [List.map_drop]
  obtain ⟨C1, hC1⟩ : ∃ C1 : Array Value, C1 = (cur.toList.take ((p + 1)) ++ cellsS (l.drop p) ++ cur.toList.drop ((p + 1) + (cellsS (l.drop p)).length)).toArray := ⟨_, rfl⟩
  have hC1s : C1.size = cap := by
    have hcl : cur.toList.length = cap := by rw [Array.length_toList]; exact hsz
    rw [hC1, List.size_toArray, List.length_append, List.length_append, List.length_take, List.length_drop, hdl, hcl]; omega
  have hcp1 : ∀ ty, (Builtin.copy_ #[22, 22] ty #[.slice (some ⟨g, (p + 1), none⟩) (l.length - p) (cap - (p + 1)), .slice (some ⟨g, p, none⟩) (l.length + 1 - p) (cap - p)]).run Tryz.prog w.drew = .ok (goInt ((l.length - p : Nat) : Int)) (w.drew.setRow g C1) := fun ty => by
    have hm : Nat.min (l.length + 1 - p) (l.length - p) = l.length - p := Nat.min_eq_right (by omega)
    have := run_copyK (P := Tryz.prog) w.drew 22 22 ty 9 g ((p + 1)) (l.length - p) (cap - (p + 1)) ⟨g, p, none⟩ (l.length + 1 - p) (cap - p) 1 cur 9 (cellsS (l.drop p)) Tryz.underlying22 hsz2 hg (by rw [hdl, hm, Nat.mul_one])
      (fun j v hj => by
        rw [hde, List.getElem?_drop] at hj
        have := hrow _ _ hj
        rw [show (⟨g, p, none⟩ : Addr).add j = ⟨g, p + j, none⟩ by unfold Addr.add; split <;> simp_all]
        exact this) (by rw [hdl, hsz]; omega) (cellsS_one _)
    rw [hm, ← hC1] at this
    exact this
  obtain ⟨C2, hC2⟩ : ∃ C2 : Array Value, C2 = (C1.toList.take (p) ++ [Value.string t] ++ C1.toList.drop (p + 1)).toArray := ⟨_, rfl⟩
  have hC2s : C2.size = cap := by
    have hcl : C1.toList.length = cap := by rw [Array.length_toList]; exact hC1s
    rw [hC2, List.size_toArray, List.length_append, List.length_append, List.length_take, List.length_drop, hcl]; simp; omega
  have hg1 : (w.drew.setRow g C1).heap[g]? = some (.cells C1 9 (0, 0)) := setRow_heap w.drew g cur C1 9 (0, 0) hg
  have hX1 : (w.drew.setRow g C1).heap[X]? = some (.cells #[.string t] 9 (0, 0)) := by rw [setRow_other _ _ _ _ hgX]; exact hX
  have hcp2 : ∀ ty, (Builtin.copy_ #[22, 22] ty #[.slice (some ⟨g, p, none⟩) (l.length + 1 - p) (cap - p), .slice (some ⟨X, 0, none⟩) 1 1]).run Tryz.prog (w.drew.setRow g C1) = .ok (goInt 1) ((w.drew.setRow g C1).setRow g C2) := fun ty => by
    have hm : Nat.min 1 (l.length + 1 - p) = 1 := Nat.min_eq_left (by omega)
    have := run_copyK (P := Tryz.prog) (w.drew.setRow g C1) 22 22 ty 9 g (p) (l.length + 1 - p) (cap - p) ⟨X, 0, none⟩ 1 1 1 C1 9 [.string t] Tryz.underlying22 hsz2 hg1 (by rw [hm]; rfl)
      (fun j v hj => by
        rw [show (⟨X, 0, none⟩ : Addr).add j = ⟨X, j, none⟩ by unfold Addr.add; split <;> simp_all, cell_of_row _ _ _ _ _ _ hX1]
        match j, hj with
        | 0, hj => simpa using hj
        | 1, hj => simp at hj) (by simp; omega) (by intro v hv; simp at hv; rcases hv with rfl | rfl <;> rfl)
    rw [hm] at this
    rw [hC2]
    exact this
  have hfin : C2.toList.take ((l.length + 1)) = cellsS (l.take p ++ t :: l.drop p) := by
    have e0 : cellsS (l.take p) = cur.toList.take (p) := by
      have e3 := congrArg (List.take p) hcur
      rw [List.take_take, Nat.min_eq_left (by omega)] at e3
      rw [e3]; unfold cellsS; rw [List.map_take]
    have hcl : cur.toList.length = cap := by rw [Array.length_toList]; exact hsz
    have e1 : C1.toList.take (p) = cur.toList.take (p) := by
      rw [hC1, List.toList_toArray, List.append_assoc, List.take_append_of_le_length (by rw [List.length_take]; omega), List.take_take, Nat.min_eq_left (by omega)]
    have e2 : C1.toList.drop (p + 1) = cellsS (l.drop p) ++ cur.toList.drop ((p + 1) + (cellsS (l.drop p)).length) := by
      have : (cur.toList.take ((p + 1))).length = p + 1 := by rw [List.length_take]; omega
      rw [hC1, List.toList_toArray, List.append_assoc, List.drop_append, this, Nat.sub_self, List.drop_zero, List.drop_eq_nil_of_le (by omega), List.nil_append]
    rw [hC2, List.toList_toArray, e1, e2, ← e0, cellsS_append, cellsS_cons]
    have e3 : (cellsS (l.take p) ++ [Value.string t] ++ (cellsS (l.drop p) ++ cur.toList.drop ((p + 1) + (cellsS (l.drop p)).length))) = (cellsS (l.take p) ++ (.string t :: cellsS (l.drop p))) ++ cur.toList.drop ((p + 1) + (cellsS (l.drop p)).length) := by simp
    rw [e3]
    have e4 : (l.length + 1) = (cellsS (l.take p) ++ (.string t :: cellsS (l.drop p))).length := by
      rw [List.length_append, cellsS_length, List.length_cons, cellsS_length, List.length_take, List.length_drop]; omega
    rw [e4, List.take_left]
  have hg2 : ((w.drew.setRow g C1).setRow g C2).heap[g]? = some (.cells C2 9 (0, 0)) := setRow_heap _ g C1 C2 9 (0, 0) hg1
  have hF : Frame2 w ((w.drew.setRow g C1).setRow g C2) g none := ⟨rfl, rfl, rfl, by simp [World.setRow], fun k hk hkg _ => by rw [setRow_other _ _ _ _ hkg, setRow_other _ _ _ _ hkg]; rfl⟩
  clear hC1 hC2 hde hdl hrow hg1 hX1 hsz2 hcur
  go_enter Tryz.func193, Tryz.ntmps193
  go_wp2
  go_region
  go_wp2
  go_ret
  exact ⟨rfl, hF, C2, hg2, hC2s, hfin⟩

set_option maxRecDepth 100000 in
set_option maxHeartbeats 4000000 in
/-- At the end. -/
theorem insS_end (l : List ByteArray) (t : ByteArray) (V : Value) (b0 X : Nat) (w : World) (hO : w.ownsRow b0 9 1 V l.length (cellsS l)) (hl : l.length ≤ 100000) (hb0 : b0 ≤ w.heap.size)
    (hX : w.heap[X]? = some (.cells #[.string t] 9 (0, 0))) :
    Calls Tryz.prog 193 #[V, .int .i64 l.length, .slice (some ⟨X, 0, none⟩) 1 1] w fun e w' => ∃ V', e = .returned V' ∧ w'.ownsRow b0 9 1 V' (l.length + 1) (cellsS (l ++ [t])) ∧ w.grownBy w' V.ownBlock ∧ (V'.ownBlock = V.ownBlock ∨ V'.ownBlock = some w.heap.size) := by
  obtain ⟨i0, hi, hz0, hz1, hz2⟩ := info_parts Tryz.infoStrS
  have hx : ∀ (j : Nat) (u : Value), [Value.string t][j]? = some u → w.cell? ((⟨X, 0, none⟩ : Addr).add j) = some u := fun j v hj => by
    rw [show (⟨X, 0, none⟩ : Addr).add j = ⟨X, j, none⟩ by unfold Addr.add; split <;> simp_all, cell_of_row _ _ _ _ _ _ hX]
    match j, hj with
    | 0, hj => simpa using hj
    | 1, hj => simp at hj
  obtain ⟨ao, cap, rfl, hlc⟩ : ∃ ao cap, V = .slice ao l.length cap ∧ l.length ≤ cap := by
    rcases hO.2 with ⟨rfl, h0⟩ | ⟨g', cap, cur, rfl, _, _, h1, _⟩
    · exact ⟨none, 0, by rw [h0], by omega⟩
    · exact ⟨_, cap, rfl, h1⟩
  have hwr : IntKind.i64.wrap (l.length : Int) = l.length := by go_arith
  have hob : (Value.slice ao l.length l.length).ownBlock = (Value.slice ao l.length cap).ownBlock := by cases ao <;> rfl
  go_enter Tryz.func193, Tryz.ntmps193
  go_wp2_with (at_builtin; refine wpList_append_lies _ rfl _ _ 22 rfl b0 9 i0 (.string ByteArray.empty) 1 16 Tryz.underlying22 hi hz0 hz1 hz2 rfl (by decide) (.slice ao l.length cap) l.length (cellsS l) rfl hO ⟨X, 0, none⟩ 1 1 [Value.string t] rfl rfl hx (by intro v hv; simp at hv; rcases hv with rfl | rfl <;> rfl) (by decide) (by unfold maxLen; omega) (by omega) hb0 _ rfl ?_)
  all_goals
    intro g cp w2 hown hgrow hat hlt
    have hown' : w2.ownsRow b0 9 1 (.slice (some ⟨g, 0, none⟩) (l.length + 1) cp) (l.length + 1) (cellsS (l ++ [t])) := by rw [cellsS_append]; exact hown
    have hat' : (Value.slice (some ⟨g, 0, none⟩) (l.length + 1) cp).ownBlock = (Value.slice ao l.length cap).ownBlock ∨ (Value.slice (some ⟨g, 0, none⟩) (l.length + 1) cp).ownBlock = some w.heap.size := by
      rcases hat with h | h
      · left
        first | exact h.symm | (rw [← hob]; exact h.symm)
      · right; rw [h]; rfl
    have hgrow' : w.grownBy w2 (Value.slice ao l.length cap).ownBlock := by first | exact hgrow | (rw [← hob]; exact hgrow)
    clear hown hat hgrow
    go_wp2
    go_ret
    exact ⟨_, rfl, hown', hgrow', hat'⟩

theorem zero_sizeS (z : Array Value) (n : Nat) : (Builtin.zeroCells z n).size = n * z.size := by simp [Builtin.zeroCells]

set_option maxRecDepth 100000 in
set_option maxHeartbeats 4000000 in
/-- There is no room, and not at the end: a new row. -/
theorem insS_grow (l : List ByteArray) (t : ByteArray) (p g cap X b0 : Nat) (cur : Array Value) (w : World) (hp : p < l.length) (hroom : cap < l.length + 1) (hnc : l.length ≤ cap) (hl : l.length ≤ 100000) (hg : w.heap[g]? = some (.cells cur 9 (0, 0))) (hcur : cur.toList.take (l.length) = cellsS l)
    (hX : w.heap[X]? = some (.cells #[.string t] 9 (0, 0))) (hb0 : b0 ≤ w.heap.size) :
    Calls Tryz.prog 193 #[.slice (some ⟨g, 0, none⟩) l.length cap, .int .i64 p, .slice (some ⟨X, 0, none⟩) 1 1] w fun e w' => ∃ V', e = .returned V' ∧ w'.ownsRow b0 9 1 V' (l.length + 1) (cellsS (l.take p ++ t :: l.drop p)) ∧ Below w.heap.size w w' ∧ V'.ownBlock = some w.heap.size := by
  obtain ⟨i0, hi, hz0, hz1, hz2⟩ := info_parts Tryz.infoStrS
  have hsz2 : (Tryz.prog.info? 9).map (·.size) = some 1 := by rw [hi]; simp [hz1]
  have hgl := lt_of_heap hg
  have hXl := lt_of_heap hX
  have hrow : ∀ j v, (cellsS l)[j]? = some v → w.cell? ⟨g, j, none⟩ = some v := fun j v hj => by
    rw [cell_of_row _ _ _ _ _ _ hg]
    rw [← hcur, List.getElem?_take] at hj
    split at hj
    · simpa using hj
    · cases hj
  have e2 : (cellsS (l.take p)).length = p := by rw [cellsS_length, List.length_take]; omega
  have hap := cellsS_append (l.take p) (l.drop p)
  rw [List.take_append_drop] at hap
  have hdl : (cellsS (l.drop p)).length = (l.length - p) := by rw [cellsS_length, List.length_drop]
  have hold : (Builtin.firstCells i0.size p (.slice (some ⟨g, 0, none⟩) p cap)).run Tryz.prog w.drew = .ok (cellsS (l.take p)).toArray w.drew := by
    rw [hz1]
    exact run_firstCells_some w.drew 1 p ⟨g, 0, none⟩ p cap (cellsS (l.take p)) (by rw [e2, Nat.mul_one]) (fun j v hj => by
      rw [show (⟨g, 0, none⟩ : Addr).add j = ⟨g, j, none⟩ by unfold Addr.add; split <;> simp_all]
      refine hrow j v ?_
      have hjl : j < (cellsS (l.take p)).length := (List.getElem?_eq_some_iff.1 hj).1
      rw [hap, List.getElem?_append_left hjl]
      exact hj)
  have hik : p + (l.length + 1 - p) = l.length + 1 := by omega
  obtain ⟨G, hG⟩ : ∃ G, G = grownCap w (l.length + 1) cap 9 := ⟨_, rfl⟩
  have hG1 : l.length + 1 ≤ G := by rw [hG]; exact grownCap_ge _ _ _ _
  have hG2 : G ≤ maxLen := by rw [hG]; exact grownCap_le_maxLen _ _ _ _ (by unfold maxLen; omega)
  obtain ⟨ROW, hROW⟩ : ∃ ROW : Array Value, ROW = (cellsS (l.take p)).toArray ++ Builtin.zeroCells (Value.string ByteArray.empty).cells (l.length + 1 - p) ++ Builtin.zeroCells (Value.string ByteArray.empty).cells (G - (l.length + 1)) := ⟨_, rfl⟩
  have hzz : (Value.string ByteArray.empty).cells.size = 1 := rfl
  have hRs : ROW.size = G := by
    rw [hROW, Array.size_append, Array.size_append, zero_sizeS, zero_sizeS, hzz, List.size_toArray, e2]; omega
  have hrz : ∀ ty, (Builtin.append_ #[22, 3] ty #[.slice (some ⟨g, 0, none⟩) p cap, .int .i64 ((l.length : Int) + 1 - (p : Int))]).run Tryz.prog w =
      .ok (.slice (some ⟨w.heap.size, 0, none⟩) (l.length + 1) G) (w.drew.alloc (.cells ROW 9)) := fun ty => by
    have h := Lib.run_append_grow_zeros (P := Tryz.prog) w 22 3 ty 9 i0 _ .i64 .i64 Tryz.underlying22 Tryz.underlying3 hi hz0 (some ⟨g, 0, none⟩) p cap (cellsS (l.take p)) hold (l.length + 1 - p) (by omega) (by omega) (by omega) (by omega) (by rw [hz2]; omega) (by rw [hz2, hik]; exact growslice_fits hroom (by omega))
    rw [hik, ← hG, ← hROW] at h
    rw [show (l.length : Int) + 1 - (p : Int) = ((l.length + 1 - p : Nat) : Int) by omega]
    exact h
  obtain ⟨C1, hC1⟩ : ∃ C1 : Array Value, C1 = (ROW.toList.take (p) ++ [Value.string t] ++ ROW.toList.drop (p + 1)).toArray := ⟨_, rfl⟩
  have hRl : ROW.toList.length = G := by rw [Array.length_toList]; exact hRs
  have hC1s : C1.size = G := by
    rw [hC1, List.size_toArray, List.length_append, List.length_append, List.length_take, List.length_drop, hRl]; simp; omega
  obtain ⟨W1, hW1⟩ : ∃ W1, W1 = w.drew.alloc (.cells ROW 9) := ⟨_, rfl⟩
  have hN1 : W1.heap[w.heap.size]? = some (.cells ROW 9 (0, 0)) := by rw [hW1]; exact heap_alloc_new w.drew _
  have hW1o : ∀ k, k < w.heap.size → W1.heap[k]? = w.heap[k]? := fun k hk => by rw [hW1]; exact Below.heap_alloc w.drew _ k hk
  have hcp1 : ∀ u : World, u.heap = W1.heap → ∀ ty, (Builtin.copy_ #[22, 22] ty #[.slice (some ⟨w.heap.size, p, none⟩) (l.length + 1 - p) (G - p), .slice (some ⟨X, 0, none⟩) 1 1]).run Tryz.prog u = .ok (goInt 1) (u.setRow w.heap.size C1) := fun u hu ty => by
    have hm : Nat.min 1 (l.length + 1 - p) = 1 := Nat.min_eq_left (by omega)
    have hXu : u.heap[X]? = some (.cells #[.string t] 9 (0, 0)) := by rw [hu, hW1o X hXl]; exact hX
    have := run_copyK (P := Tryz.prog) u 22 22 ty 9 w.heap.size (p) (l.length + 1 - p) (G - p) ⟨X, 0, none⟩ 1 1 1 ROW 9 [.string t] Tryz.underlying22 hsz2 (by rw [hu]; exact hN1) (by rw [hm]; rfl)
      (fun j v hj => by
        rw [show (⟨X, 0, none⟩ : Addr).add j = ⟨X, j, none⟩ by unfold Addr.add; split <;> simp_all, cell_of_row _ _ _ _ _ _ hXu]
        match j, hj with
        | 0, hj => simpa using hj
        | 1, hj => simp at hj) (by simp; omega) (by intro v hv; simp at hv; rcases hv with rfl | rfl <;> rfl)
    rw [hm] at this
    rw [hC1]
    exact this
  obtain ⟨C2, hC2⟩ : ∃ C2 : Array Value, C2 = (C1.toList.take ((p + 1)) ++ cellsS (l.drop p) ++ C1.toList.drop ((p + 1) + (cellsS (l.drop p)).length)).toArray := ⟨_, rfl⟩
  have hC1l : C1.toList.length = G := by rw [Array.length_toList]; exact hC1s
  have hC2s : C2.size = G := by
    rw [hC2, List.size_toArray, List.length_append, List.length_append, List.length_take, List.length_drop, hdl, hC1l]; omega
  have hcp2 : ∀ u : World, u.heap = (W1.setRow w.heap.size C1).heap → ∀ ty, (Builtin.copy_ #[22, 22] ty #[.slice (some ⟨w.heap.size, (p + 1), none⟩) (l.length - p) (G - (p + 1)), .slice (some ⟨g, p, none⟩) (l.length - p) (cap - p)]).run Tryz.prog u = .ok (goInt ((l.length - p : Nat) : Int)) (u.setRow w.heap.size C2) := fun u hu ty => by
    have hm : Nat.min (l.length - p) (l.length - p) = l.length - p := Nat.min_self _
    have hgu : u.heap[g]? = some (.cells cur 9 (0, 0)) := by rw [hu, setRow_other _ _ _ _ (by omega), hW1o g hgl]; exact hg
    have := run_copyK (P := Tryz.prog) u 22 22 ty 9 w.heap.size ((p + 1)) (l.length - p) (G - (p + 1)) ⟨g, p, none⟩ (l.length - p) (cap - p) 1 C1 9 (cellsS (l.drop p)) Tryz.underlying22 hsz2 (by rw [hu]; exact setRow_heap W1 w.heap.size ROW C1 9 (0, 0) hN1) (by rw [hdl, hm, Nat.mul_one])
      (fun j v hj => by
        have hj2 : (cellsS l)[p + j]? = some v := by rw [hap, List.getElem?_append_right (by omega), e2, Nat.add_sub_cancel_left]; exact hj
        rw [show (⟨g, p, none⟩ : Addr).add j = ⟨g, p + j, none⟩ by unfold Addr.add; split <;> simp_all, cell_of_row _ _ _ _ _ _ hgu]
        have := hrow _ _ hj2
        rw [cell_of_row _ _ _ _ _ _ hg] at this
        exact this) (by rw [hdl]; omega) (cellsS_one _)
    rw [hm] at this
    rw [hC2]
    exact this
  have hfin : C2.toList.take ((l.length + 1)) = cellsS (l.take p ++ t :: l.drop p) := by
    have q0 : ROW.toList.take (p) = cellsS (l.take p) := by
      rw [hROW, Array.toList_append, Array.toList_append, List.toList_toArray, List.append_assoc, List.take_append_of_le_length (by omega), List.take_of_length_le (by omega)]
    have q1 : C1.toList.take ((p + 1)) = cellsS (l.take p) ++ [Value.string t] := by
      have : (p + 1) = (cellsS (l.take p) ++ [Value.string t]).length := by rw [List.length_append, e2]; simp
      rw [hC1, List.toList_toArray, q0, List.take_append_of_le_length (by omega), List.take_of_length_le (by omega)]
    rw [hC2, List.toList_toArray, q1, cellsS_append, cellsS_cons]
    have q3 : (cellsS (l.take p) ++ [Value.string t] ++ cellsS (l.drop p) ++ C1.toList.drop ((p + 1) + (cellsS (l.drop p)).length)) = (cellsS (l.take p) ++ (.string t :: cellsS (l.drop p))) ++ C1.toList.drop ((p + 1) + (cellsS (l.drop p)).length) := by simp
    rw [q3]
    have q4 : (l.length + 1) = (cellsS (l.take p) ++ (.string t :: cellsS (l.drop p))).length := by
      rw [List.length_append, List.length_cons, e2, hdl]; omega
    rw [q4, List.take_left]
  rw [← hW1] at hrz
  have hsW : W1.heap.size = w.heap.size + 1 := by rw [hW1]; simp
  have hBW : Below w.heap.size w W1 := by rw [hW1]; exact ((Below.refl _ _).drew).alloc (Nat.le_refl _) _
  have hdone : ∀ u : World, u.heap = ((W1.setRow w.heap.size C1).setRow w.heap.size C2).heap → u.os = W1.os → u.tape = W1.tape → u.output = W1.output → u.ownsRow b0 9 1 (.slice (some ⟨w.heap.size, 0, none⟩) (l.length + 1) G) (l.length + 1) (cellsS (l.take p ++ t :: l.drop p)) ∧ Below w.heap.size w u := fun u hu h1 h2 h3 => by
    have hN2 : u.heap[w.heap.size]? = some (.cells C2 9 (0, 0)) := by
      rw [hu]
      exact setRow_heap _ w.heap.size C1 C2 9 (0, 0) (setRow_heap W1 w.heap.size ROW C1 9 (0, 0) hN1)
    have hC2l : C2.toList.length = G := by rw [Array.length_toList]; exact hC2s
    refine ⟨⟨by rw [← hfin, List.length_take, hC2l]; omega, .inr ⟨w.heap.size, G, C2, rfl, hb0, hN2, hG1, hG2, by rw [hC2s, Nat.mul_one], by rw [Nat.mul_one]; exact hfin⟩⟩, ⟨h1.trans hBW.os, h2.trans hBW.tape, h3.trans hBW.output, ?_, fun k hk => ?_⟩⟩
    · rw [hu]; simp [World.setRow, hsW]
    · rw [hu, setRow_other _ _ _ _ (by omega), setRow_other _ _ _ _ (by omega), hW1o k hk]
  clear hROW hC1 hC2 hfin hold hrow hap hG hW1 hN1 hW1o hRl hC1l hRs hC1s hC2s hdl e2 hi hz0 hz1 hz2 hsz2 hcur
  have hGi : (l.length : Int) + 1 ≤ (G : Int) := by omega
  have hm63 : G ≤ 9223372036854775807 := by unfold maxLen at hG2; omega
  go_enter Tryz.func193, Tryz.ntmps193
  go_wp2_with (at_builtin; refine Lib.wpList_append_run _ rfl _ _ _ _ rfl _ _ rfl rfl _ _ (hrz _) ?_)
  have hcp3 := hcp2 (W1.setRow w.heap.size C1).drew rfl
  go_region
  have hd := hdone ((W1.setRow w.heap.size C1).drew.setRow w.heap.size C2) rfl rfl rfl rfl
  clear hcp1 hcp2 hcp3 hrz hdone
  go_wp2
  go_ret
  exact ⟨_, rfl, hd.1, hd.2, rfl⟩

/-- A text is laid in its place. -/
theorem insS_any (l : List ByteArray) (t : ByteArray) (V : Value) (p b0 X : Nat) (w : World) (hp : p ≤ l.length) (hO : w.ownsRow b0 9 1 V l.length (cellsS l)) (hl : l.length ≤ 100000) (hb0 : b0 ≤ w.heap.size)
    (hX : w.heap[X]? = some (.cells #[.string t] 9 (0, 0))) (hXV : V.ownBlock ≠ some X) :
    Calls Tryz.prog 193 #[V, .int .i64 p, .slice (some ⟨X, 0, none⟩) 1 1] w fun e w' => ∃ V', e = .returned V' ∧ w'.ownsRow b0 9 1 V' (l.length + 1) (cellsS (l.take p ++ t :: l.drop p)) ∧ w.grownBy w' V.ownBlock ∧ (V'.ownBlock = V.ownBlock ∨ V'.ownBlock = some w.heap.size) := by
  rcases Nat.eq_or_lt_of_le hp with rfl | hlt
  · rw [List.take_length, List.drop_length]
    exact insS_end l t V b0 X w hO hl hb0 hX
  · rcases hO.2 with ⟨_, h0⟩ | ⟨g, cap, cur, rfl, hbg, hgg, hle, hmax, hsz, htake⟩
    · omega
    rw [Nat.mul_one] at hsz htake
    · rcases Nat.lt_or_ge cap (l.length + 1) with hc | hc
      · refine (insS_grow l t p g cap X b0 cur w hlt hc hle hl hgg htake hX hb0).mono ?_
        rintro e w' ⟨V', rfl, h1, h2, h3⟩
        exact ⟨V', rfl, h1, ⟨h2.os, h2.tape, h2.output, h2.size, fun k hk _ => h2.block k hk⟩, .inr h3⟩
      · refine (insS_shift l t p g cap X cur w hlt hc hl hgg hsz htake hX (fun e => hXV (by rw [e]; rfl))).mono ?_
        rintro e w' ⟨rfl, hF, cur', h1, h2, h3⟩
        refine ⟨_, rfl, ⟨?_, .inr ⟨g, cap, cur', rfl, hbg, h1, hc, hmax, by rw [h2, Nat.mul_one], by rw [Nat.mul_one]; exact h3⟩⟩, ⟨hF.os, hF.tape, hF.output, hF.size, fun k hk hkg => hF.block k hk (fun e => hkg (by rw [e]; rfl)) (by simp)⟩, .inl rfl⟩
        rw [cellsS_length]; simp; omega
end Go.Proofs.YtlndinigbppafaaGreat
