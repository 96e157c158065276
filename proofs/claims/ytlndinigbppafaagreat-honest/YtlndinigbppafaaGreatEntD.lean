/-
  The walk of slices.Insert over events.
-/
import Derived.Test.YtlndinigbppafaaGreatEntC
import Derived.Laws.CopyRow
import Derived.Laws.Externs
import Derived.Lib.Overlaps
import Derived.Lib.AppendZerosOnto
import Derived.Deep.AppendLies
import Derived.BigRegion
namespace Go.Proofs.YtlndinigbppafaaGreat
open Go.RowKit

theorem Tryz.infoEnt : (Tryz.prog.info? 82).map (fun i => (i.zero, i.size, i.bytes)) = some (some (.agg #[.int .i64 0, .string ByteArray.empty]), 2, 24) := by kernel_rfl

/-- 'copy' of elements of several cells into a row that is known whole. -/
theorem run_copyK {P : Program} (w : World) (dT sT ty elem : TypeId) (g o dLen dCap : Nat) (a : Addr) (sLen sCap k : Nat) (cur : Array Value) (t : TypeId) (cs : List Value)
    (hu : P.underlying dT = some (.slice elem)) (hs : (P.info? elem).map (·.size) = some k) (hg : w.heap[g]? = some (.cells cur t (0, 0))) (hn : cs.length = Nat.min sLen dLen * k)
    (hsrc : ∀ j v, cs[j]? = some v → w.cell? (a.add j) = some v) (hfit : o + cs.length ≤ cur.size) (h1 : ∀ v ∈ cs, v.oneCell' = true) :
    (Builtin.copy_ #[dT, sT] ty #[.slice (some ⟨g, o, none⟩) dLen dCap, .slice (some a) sLen sCap]).run P w =
      .ok (goInt (Nat.min sLen dLen)) (w.setRow g (cur.toList.take o ++ cs ++ cur.toList.drop (o + cs.length)).toArray) := by
  have hl := run_loadCells_list (P := P) w a cs hsrc
  have hst := run_storeCells_at P g o t cs 0 cur w hg (by simpa using hfit) h1
  cases hq : P.info? elem with
  | none => simp [hq] at hs
  | some i =>
    have hi : i.size = k := by simpa [hq] using hs
    simp [Builtin.copy_, run_underlying hu, Builtin.lenOf, Builtin.firstCells, sizeOf, typeInfo, hq, hi, ← hn, hl, hst]

theorem size_ent (w : World) : (Go.sizeOf 82).run Tryz.prog w = .ok 2 w := by
  obtain ⟨i0, hi, _, hz1, _⟩ := info_parts Tryz.infoEnt
  simp [Go.sizeOf, typeInfo, hi, hz1]

set_option maxRecDepth 100000 in
set_option maxHeartbeats 4000000 in
/-- There is room, and not at the end: in place. -/
theorem insert_shift (l : List Ent) (t : Ent) (p g cap X : Nat) (cur : Array Value) (w : World) (hp : p < l.length) (hroom : l.length + 1 ≤ cap) (hl : l.length ≤ 100000) (hg : w.heap[g]? = some (.cells cur 82 (0, 0))) (hsz : cur.size = cap * 2) (hcur : cur.toList.take (l.length * 2) = cellsE l)
    (hX : w.heap[X]? = some (.cells #[.int .i64 t.1, .string t.2] 82 (0, 0))) (hgX : X ≠ g) :
    Calls Tryz.prog 161 #[.slice (some ⟨g, 0, none⟩) l.length cap, .int .i64 p, .slice (some ⟨X, 0, none⟩) 1 1] w fun e w' => e = .returned (.slice (some ⟨g, 0, none⟩) (l.length + 1) cap) ∧ Frame2 w w' g none ∧ ∃ cur' : Array Value, w'.heap[g]? = some (.cells cur' 82 (0, 0)) ∧ cur'.size = cap * 2 ∧ cur'.toList.take ((l.length + 1) * 2) = cellsE (l.take p ++ t :: l.drop p) := by
  have hov : ∀ u : World, u.heap = w.heap → ∀ off lb cb, (callFunc 183 #[.slice (some ⟨X, 0, none⟩) 1 1, .slice (some ⟨g, off, none⟩) lb cb]).run Tryz.prog u = .ok (.value (.bool false)) u := fun u hu off lb cb => by
    have e1 : u.shape? X = some (82, 2) := by unfold World.shape?; rw [hu, hX]; rfl
    have e2 : u.shape? g = some (82, cur.size) := by unfold World.shape?; rw [hu, hg]
    have e3 : u.frozen? ⟨X, 0, none⟩ = false := by unfold World.frozen?; rw [hu, hX]; rfl
    have e4 : u.frozen? ⟨X, 2, none⟩ = false := by unfold World.frozen?; rw [hu, hX]; rfl
    rw [run_callFunc_extern Tryz.func183 (by kernel_rfl) (by kernel_rfl) (by kernel_rfl) (e := Extern.SlicesOverlaps.overlaps #[31, 31] #[4]) (by kernel_rfl),
      Lib.run_overlaps_apart u 31 4 82 Tryz.underlying31 2 size_ent ⟨X, 0, none⟩ ⟨g, off, none⟩ 1 1 lb cb hgX _ _ _ _ e1 e2 (by omega) e3 e4]
    rfl
  have hsz2 : (Tryz.prog.info? 82).map (·.size) = some 2 := by
    obtain ⟨i0, hi, _, hz1, _⟩ := info_parts Tryz.infoEnt
    rw [hi]; simp [hz1]
  have hrow : ∀ j v, (cellsE l)[j]? = some v → w.cell? ⟨g, j, none⟩ = some v := fun j v hj => by
    rw [cell_of_row _ _ _ _ _ _ hg]
    rw [← hcur, List.getElem?_take] at hj
    split at hj
    · simpa using hj
    · cases hj
  have hdl : (cellsE (l.drop p)).length = (l.length - p) * 2 := by rw [cellsE_length, List.length_drop]
  have hde : cellsE (l.drop p) = (cellsE l).drop (p * 2) := by
    have e := cellsE_append (l.take p) (l.drop p)
    rw [List.take_append_drop] at e
    have e2 : (cellsE (l.take p)).length = p * 2 := by rw [cellsE_length, List.length_take]; omega
    rw [e, ← e2, List.drop_left]
  obtain ⟨C1, hC1⟩ : ∃ C1 : Array Value, C1 = (cur.toList.take ((p + 1) * 2) ++ cellsE (l.drop p) ++ cur.toList.drop ((p + 1) * 2 + (cellsE (l.drop p)).length)).toArray := ⟨_, rfl⟩
  have hC1s : C1.size = cap * 2 := by
    have hcl : cur.toList.length = cap * 2 := by rw [Array.length_toList]; exact hsz
    rw [hC1, List.size_toArray, List.length_append, List.length_append, List.length_take, List.length_drop, hdl, hcl]; omega
  have hcp1 : ∀ ty, (Builtin.copy_ #[31, 31] ty #[.slice (some ⟨g, (p + 1) * 2, none⟩) (l.length - p) (cap - (p + 1)), .slice (some ⟨g, p * 2, none⟩) (l.length + 1 - p) (cap - p)]).run Tryz.prog w.drew = .ok (goInt ((l.length - p : Nat) : Int)) (w.drew.setRow g C1) := fun ty => by
    have hm : Nat.min (l.length + 1 - p) (l.length - p) = l.length - p := Nat.min_eq_right (by omega)
    have := run_copyK (P := Tryz.prog) w.drew 31 31 ty 82 g ((p + 1) * 2) (l.length - p) (cap - (p + 1)) ⟨g, p * 2, none⟩ (l.length + 1 - p) (cap - p) 2 cur 82 (cellsE (l.drop p)) Tryz.underlying31 hsz2 hg (by rw [hdl, hm])
      (fun j v hj => by
        rw [hde, List.getElem?_drop] at hj
        have := hrow _ _ hj
        rw [show (⟨g, p * 2, none⟩ : Addr).add j = ⟨g, p * 2 + j, none⟩ by unfold Addr.add; split <;> simp_all]
        exact this) (by rw [hdl, hsz]; omega) (cellsE_one _)
    rw [hm, ← hC1] at this
    exact this
  obtain ⟨C2, hC2⟩ : ∃ C2 : Array Value, C2 = (C1.toList.take (p * 2) ++ [Value.int .i64 t.1, .string t.2] ++ C1.toList.drop (p * 2 + 2)).toArray := ⟨_, rfl⟩
  have hC2s : C2.size = cap * 2 := by
    have hcl : C1.toList.length = cap * 2 := by rw [Array.length_toList]; exact hC1s
    rw [hC2, List.size_toArray, List.length_append, List.length_append, List.length_take, List.length_drop, hcl]; simp; omega
  have hg1 : (w.drew.setRow g C1).heap[g]? = some (.cells C1 82 (0, 0)) := setRow_heap w.drew g cur C1 82 (0, 0) hg
  have hX1 : (w.drew.setRow g C1).heap[X]? = some (.cells #[.int .i64 t.1, .string t.2] 82 (0, 0)) := by rw [setRow_other _ _ _ _ hgX]; exact hX
  have hcp2 : ∀ ty, (Builtin.copy_ #[31, 31] ty #[.slice (some ⟨g, p * 2, none⟩) (l.length + 1 - p) (cap - p), .slice (some ⟨X, 0, none⟩) 1 1]).run Tryz.prog (w.drew.setRow g C1) = .ok (goInt 1) ((w.drew.setRow g C1).setRow g C2) := fun ty => by
    have hm : Nat.min 1 (l.length + 1 - p) = 1 := Nat.min_eq_left (by omega)
    have := run_copyK (P := Tryz.prog) (w.drew.setRow g C1) 31 31 ty 82 g (p * 2) (l.length + 1 - p) (cap - p) ⟨X, 0, none⟩ 1 1 2 C1 82 [.int .i64 t.1, .string t.2] Tryz.underlying31 hsz2 hg1 (by rw [hm]; rfl)
      (fun j v hj => by
        rw [show (⟨X, 0, none⟩ : Addr).add j = ⟨X, j, none⟩ by unfold Addr.add; split <;> simp_all, cell_of_row _ _ _ _ _ _ hX1]
        match j, hj with
        | 0, hj => simpa using hj
        | 1, hj => simpa using hj) (by simp; omega) (by intro v hv; simp at hv; rcases hv with rfl | rfl <;> rfl)
    rw [hm] at this
    rw [hC2]
    exact this
  have hfin : C2.toList.take ((l.length + 1) * 2) = cellsE (l.take p ++ t :: l.drop p) := by
    have e0 : cellsE (l.take p) = cur.toList.take (p * 2) := by
      have e := cellsE_append (l.take p) (l.drop p)
      rw [List.take_append_drop] at e
      have e2 : (cellsE (l.take p)).length = p * 2 := by rw [cellsE_length, List.length_take]; omega
      have e3 := congrArg (List.take (p * 2)) hcur
      rw [List.take_take, e, ← e2, List.take_left, Nat.min_eq_left (by rw [e2]; omega), e2] at e3
      exact e3.symm
    have hcl : cur.toList.length = cap * 2 := by rw [Array.length_toList]; exact hsz
    have e1 : C1.toList.take (p * 2) = cur.toList.take (p * 2) := by
      rw [hC1, List.toList_toArray, List.append_assoc, List.take_append_of_le_length (by rw [List.length_take]; omega), List.take_take, Nat.min_eq_left (by omega)]
    have e2 : C1.toList.drop (p * 2 + 2) = cellsE (l.drop p) ++ cur.toList.drop ((p + 1) * 2 + (cellsE (l.drop p)).length) := by
      have : p * 2 + 2 = (cur.toList.take ((p + 1) * 2)).length := by rw [List.length_take]; omega
      rw [hC1, List.toList_toArray, List.append_assoc, this, List.drop_left]
    rw [hC2, List.toList_toArray, e1, e2, ← e0, cellsE_append, cellsE_cons]
    have e3 : (cellsE (l.take p) ++ [Value.int .i64 t.1, .string t.2] ++ (cellsE (l.drop p) ++ cur.toList.drop ((p + 1) * 2 + (cellsE (l.drop p)).length))) = (cellsE (l.take p) ++ (.int .i64 t.1 :: .string t.2 :: cellsE (l.drop p))) ++ cur.toList.drop ((p + 1) * 2 + (cellsE (l.drop p)).length) := by simp
    rw [e3]
    have e4 : (l.length + 1) * 2 = (cellsE (l.take p) ++ (.int .i64 t.1 :: .string t.2 :: cellsE (l.drop p))).length := by
      rw [List.length_append, cellsE_length, List.length_cons, List.length_cons, cellsE_length, List.length_take, List.length_drop]; omega
    rw [e4, List.take_left]
  have hg2 : ((w.drew.setRow g C1).setRow g C2).heap[g]? = some (.cells C2 82 (0, 0)) := setRow_heap _ g C1 C2 82 (0, 0) hg1
  have hF : Frame2 w ((w.drew.setRow g C1).setRow g C2) g none := ⟨rfl, rfl, rfl, by simp [World.setRow], fun k hk hkg _ => by rw [setRow_other _ _ _ _ hkg, setRow_other _ _ _ _ hkg]; rfl⟩
  clear hC1 hC2 hde hdl hrow hg1 hX1 hsz2 hcur
  go_enter Tryz.func161, Tryz.ntmps161
  go_wp2
  go_region
  go_wp2
  go_ret
  exact ⟨rfl, hF, C2, hg2, hC2s, hfin⟩

set_option maxRecDepth 100000 in
set_option maxHeartbeats 4000000 in
/-- At the end. -/
theorem insert_end (l : List Ent) (t : Ent) (V : Value) (b0 X : Nat) (w : World) (hO : w.ownsRow b0 82 2 V l.length (cellsE l)) (hl : l.length ≤ 100000) (hb0 : b0 ≤ w.heap.size)
    (hX : w.heap[X]? = some (.cells #[.int .i64 t.1, .string t.2] 82 (0, 0))) :
    Calls Tryz.prog 161 #[V, .int .i64 l.length, .slice (some ⟨X, 0, none⟩) 1 1] w fun e w' => ∃ V', e = .returned V' ∧ w'.ownsRow b0 82 2 V' (l.length + 1) (cellsE (l ++ [t])) ∧ w.grownBy w' V.ownBlock ∧ (V'.ownBlock = V.ownBlock ∨ V'.ownBlock = some w.heap.size) := by
  obtain ⟨i0, hi, hz0, hz1, hz2⟩ := info_parts Tryz.infoEnt
  have hx : ∀ (j : Nat) (u : Value), [Value.int .i64 t.1, .string t.2][j]? = some u → w.cell? ((⟨X, 0, none⟩ : Addr).add j) = some u := fun j v hj => by
    rw [show (⟨X, 0, none⟩ : Addr).add j = ⟨X, j, none⟩ by unfold Addr.add; split <;> simp_all, cell_of_row _ _ _ _ _ _ hX]
    match j, hj with
    | 0, hj => simpa using hj
    | 1, hj => simpa using hj
  obtain ⟨ao, cap, rfl, hlc⟩ : ∃ ao cap, V = .slice ao l.length cap ∧ l.length ≤ cap := by
    rcases hO.2 with ⟨rfl, h0⟩ | ⟨g', cap, cur, rfl, _, _, h1, _⟩
    · exact ⟨none, 0, by rw [h0], by omega⟩
    · exact ⟨_, cap, rfl, h1⟩
  have hwr : IntKind.i64.wrap (l.length : Int) = l.length := by go_arith
  have hob : (Value.slice ao l.length l.length).ownBlock = (Value.slice ao l.length cap).ownBlock := by cases ao <;> rfl
  go_enter Tryz.func161, Tryz.ntmps161
  go_wp2_with (at_builtin; refine wpList_append_lies _ rfl _ _ 31 rfl b0 82 i0 (.agg #[.int .i64 0, .string ByteArray.empty]) 2 24 Tryz.underlying31 hi hz0 hz1 hz2 rfl (by decide) (.slice ao l.length cap) l.length (cellsE l) rfl hO ⟨X, 0, none⟩ 1 1 [Value.int .i64 t.1, .string t.2] rfl rfl hx (by intro v hv; simp at hv; rcases hv with rfl | rfl <;> rfl) (by decide) (by unfold maxLen; omega) (by omega) hb0 _ rfl ?_)
  all_goals
    intro g cp w2 hown hgrow hat hlt
    have hown' : w2.ownsRow b0 82 2 (.slice (some ⟨g, 0, none⟩) (l.length + 1) cp) (l.length + 1) (cellsE (l ++ [t])) := by rw [cellsE_append]; exact hown
    have hat' : (Value.slice (some ⟨g, 0, none⟩) (l.length + 1) cp).ownBlock = (Value.slice ao l.length cap).ownBlock ∨ (Value.slice (some ⟨g, 0, none⟩) (l.length + 1) cp).ownBlock = some w.heap.size := by
      rcases hat with h | h
      · left
        first | exact h.symm | (rw [← hob]; exact h.symm)
      · right; rw [h]; rfl
    have hgrow' : w.grownBy w2 (Value.slice ao l.length cap).ownBlock := by first | exact hgrow | (rw [← hob]; exact hgrow)
    clear hown hat hgrow
    go_wp2
    go_ret
    exact ⟨_, rfl, hown', hgrow', hat'⟩

theorem zero_size (z : Array Value) (n : Nat) : (Builtin.zeroCells z n).size = n * z.size := by simp [Builtin.zeroCells]

set_option maxRecDepth 100000 in
set_option maxHeartbeats 4000000 in
/-- There is no room, and not at the end: a new row. -/
theorem insert_grow (l : List Ent) (t : Ent) (p g cap X b0 : Nat) (cur : Array Value) (w : World) (hp : p < l.length) (hroom : cap < l.length + 1) (hnc : l.length ≤ cap) (hl : l.length ≤ 100000) (hg : w.heap[g]? = some (.cells cur 82 (0, 0))) (hcur : cur.toList.take (l.length * 2) = cellsE l)
    (hX : w.heap[X]? = some (.cells #[.int .i64 t.1, .string t.2] 82 (0, 0))) (hb0 : b0 ≤ w.heap.size) :
    Calls Tryz.prog 161 #[.slice (some ⟨g, 0, none⟩) l.length cap, .int .i64 p, .slice (some ⟨X, 0, none⟩) 1 1] w fun e w' => ∃ V', e = .returned V' ∧ w'.ownsRow b0 82 2 V' (l.length + 1) (cellsE (l.take p ++ t :: l.drop p)) ∧ Below w.heap.size w w' ∧ V'.ownBlock = some w.heap.size := by
  obtain ⟨i0, hi, hz0, hz1, hz2⟩ := info_parts Tryz.infoEnt
  have hsz2 : (Tryz.prog.info? 82).map (·.size) = some 2 := by rw [hi]; simp [hz1]
  have hgl := lt_of_heap hg
  have hXl := lt_of_heap hX
  have hrow : ∀ j v, (cellsE l)[j]? = some v → w.cell? ⟨g, j, none⟩ = some v := fun j v hj => by
    rw [cell_of_row _ _ _ _ _ _ hg]
    rw [← hcur, List.getElem?_take] at hj
    split at hj
    · simpa using hj
    · cases hj
  have e2 : (cellsE (l.take p)).length = p * 2 := by rw [cellsE_length, List.length_take]; omega
  have hap := cellsE_append (l.take p) (l.drop p)
  rw [List.take_append_drop] at hap
  have hdl : (cellsE (l.drop p)).length = (l.length - p) * 2 := by rw [cellsE_length, List.length_drop]
  have hold : (Builtin.firstCells i0.size p (.slice (some ⟨g, 0, none⟩) p cap)).run Tryz.prog w.drew = .ok (cellsE (l.take p)).toArray w.drew := by
    rw [hz1]
    exact run_firstCells_some w.drew 2 p ⟨g, 0, none⟩ p cap (cellsE (l.take p)) e2 (fun j v hj => by
      rw [show (⟨g, 0, none⟩ : Addr).add j = ⟨g, j, none⟩ by unfold Addr.add; split <;> simp_all]
      refine hrow j v ?_
      have hjl : j < (cellsE (l.take p)).length := (List.getElem?_eq_some_iff.1 hj).1
      rw [hap, List.getElem?_append_left hjl]
      exact hj)
  have hik : p + (l.length + 1 - p) = l.length + 1 := by omega
  obtain ⟨G, hG⟩ : ∃ G, G = grownCap w (l.length + 1) cap 82 := ⟨_, rfl⟩
  have hG1 : l.length + 1 ≤ G := by rw [hG]; exact grownCap_ge _ _ _ _
  have hG2 : G ≤ maxLen := by rw [hG]; exact grownCap_le_maxLen _ _ _ _ (by unfold maxLen; omega)
  obtain ⟨ROW, hROW⟩ : ∃ ROW : Array Value, ROW = (cellsE (l.take p)).toArray ++ Builtin.zeroCells (Value.agg #[.int .i64 0, .string ByteArray.empty]).cells (l.length + 1 - p) ++ Builtin.zeroCells (Value.agg #[.int .i64 0, .string ByteArray.empty]).cells (G - (l.length + 1)) := ⟨_, rfl⟩
  have hzz : (Value.agg #[.int .i64 0, .string ByteArray.empty]).cells.size = 2 := rfl
  have hRs : ROW.size = G * 2 := by
    rw [hROW, Array.size_append, Array.size_append, zero_size, zero_size, hzz, List.size_toArray, e2]; omega
  have hrz : ∀ ty, (Builtin.append_ #[31, 3] ty #[.slice (some ⟨g, 0, none⟩) p cap, .int .i64 ((l.length : Int) + 1 - (p : Int))]).run Tryz.prog w =
      .ok (.slice (some ⟨w.heap.size, 0, none⟩) (l.length + 1) G) (w.drew.alloc (.cells ROW 82)) := fun ty => by
    have h := Lib.run_append_grow_zeros (P := Tryz.prog) w 31 3 ty 82 i0 _ .i64 .i64 Tryz.underlying31 Tryz.underlying3 hi hz0 (some ⟨g, 0, none⟩) p cap (cellsE (l.take p)) hold (l.length + 1 - p) (by omega) (by omega) (by omega) (by omega) (by rw [hz2]; omega) (by rw [hz2, hik]; exact growslice_fits hroom (by omega))
    rw [hik, ← hG, ← hROW] at h
    rw [show (l.length : Int) + 1 - (p : Int) = ((l.length + 1 - p : Nat) : Int) by omega]
    exact h
  obtain ⟨C1, hC1⟩ : ∃ C1 : Array Value, C1 = (ROW.toList.take (p * 2) ++ [Value.int .i64 t.1, .string t.2] ++ ROW.toList.drop (p * 2 + 2)).toArray := ⟨_, rfl⟩
  have hRl : ROW.toList.length = G * 2 := by rw [Array.length_toList]; exact hRs
  have hC1s : C1.size = G * 2 := by
    rw [hC1, List.size_toArray, List.length_append, List.length_append, List.length_take, List.length_drop, hRl]; simp; omega
  obtain ⟨W1, hW1⟩ : ∃ W1, W1 = w.drew.alloc (.cells ROW 82) := ⟨_, rfl⟩
  have hN1 : W1.heap[w.heap.size]? = some (.cells ROW 82 (0, 0)) := by rw [hW1]; exact heap_alloc_new w.drew _
  have hW1o : ∀ k, k < w.heap.size → W1.heap[k]? = w.heap[k]? := fun k hk => by rw [hW1]; exact Below.heap_alloc w.drew _ k hk
  have hcp1 : ∀ u : World, u.heap = W1.heap → ∀ ty, (Builtin.copy_ #[31, 31] ty #[.slice (some ⟨w.heap.size, p * 2, none⟩) (l.length + 1 - p) (G - p), .slice (some ⟨X, 0, none⟩) 1 1]).run Tryz.prog u = .ok (goInt 1) (u.setRow w.heap.size C1) := fun u hu ty => by
    have hm : Nat.min 1 (l.length + 1 - p) = 1 := Nat.min_eq_left (by omega)
    have hXu : u.heap[X]? = some (.cells #[.int .i64 t.1, .string t.2] 82 (0, 0)) := by rw [hu, hW1o X hXl]; exact hX
    have := run_copyK (P := Tryz.prog) u 31 31 ty 82 w.heap.size (p * 2) (l.length + 1 - p) (G - p) ⟨X, 0, none⟩ 1 1 2 ROW 82 [.int .i64 t.1, .string t.2] Tryz.underlying31 hsz2 (by rw [hu]; exact hN1) (by rw [hm]; rfl)
      (fun j v hj => by
        rw [show (⟨X, 0, none⟩ : Addr).add j = ⟨X, j, none⟩ by unfold Addr.add; split <;> simp_all, cell_of_row _ _ _ _ _ _ hXu]
        match j, hj with
        | 0, hj => simpa using hj
        | 1, hj => simpa using hj) (by simp; omega) (by intro v hv; simp at hv; rcases hv with rfl | rfl <;> rfl)
    rw [hm] at this
    rw [hC1]
    exact this
  obtain ⟨C2, hC2⟩ : ∃ C2 : Array Value, C2 = (C1.toList.take ((p + 1) * 2) ++ cellsE (l.drop p) ++ C1.toList.drop ((p + 1) * 2 + (cellsE (l.drop p)).length)).toArray := ⟨_, rfl⟩
  have hC1l : C1.toList.length = G * 2 := by rw [Array.length_toList]; exact hC1s
  have hC2s : C2.size = G * 2 := by
    rw [hC2, List.size_toArray, List.length_append, List.length_append, List.length_take, List.length_drop, hdl, hC1l]; omega
  have hcp2 : ∀ u : World, u.heap = (W1.setRow w.heap.size C1).heap → ∀ ty, (Builtin.copy_ #[31, 31] ty #[.slice (some ⟨w.heap.size, (p + 1) * 2, none⟩) (l.length - p) (G - (p + 1)), .slice (some ⟨g, p * 2, none⟩) (l.length - p) (cap - p)]).run Tryz.prog u = .ok (goInt ((l.length - p : Nat) : Int)) (u.setRow w.heap.size C2) := fun u hu ty => by
    have hm : Nat.min (l.length - p) (l.length - p) = l.length - p := Nat.min_self _
    have hgu : u.heap[g]? = some (.cells cur 82 (0, 0)) := by rw [hu, setRow_other _ _ _ _ (by omega), hW1o g hgl]; exact hg
    have := run_copyK (P := Tryz.prog) u 31 31 ty 82 w.heap.size ((p + 1) * 2) (l.length - p) (G - (p + 1)) ⟨g, p * 2, none⟩ (l.length - p) (cap - p) 2 C1 82 (cellsE (l.drop p)) Tryz.underlying31 hsz2 (by rw [hu]; exact setRow_heap W1 w.heap.size ROW C1 82 (0, 0) hN1) (by rw [hdl, hm])
      (fun j v hj => by
        have hj2 : (cellsE l)[p * 2 + j]? = some v := by rw [hap, ← e2, List.getElem?_append_right (by omega)]; simpa using hj
        rw [show (⟨g, p * 2, none⟩ : Addr).add j = ⟨g, p * 2 + j, none⟩ by unfold Addr.add; split <;> simp_all, cell_of_row _ _ _ _ _ _ hgu]
        have := hrow _ _ hj2
        rw [cell_of_row _ _ _ _ _ _ hg] at this
        exact this) (by rw [hdl]; omega) (cellsE_one _)
    rw [hm] at this
    rw [hC2]
    exact this
  have hfin : C2.toList.take ((l.length + 1) * 2) = cellsE (l.take p ++ t :: l.drop p) := by
    have q0 : ROW.toList.take (p * 2) = cellsE (l.take p) := by
      rw [hROW, Array.toList_append, Array.toList_append, List.toList_toArray, List.append_assoc, ← e2, List.take_left]
    have q1 : C1.toList.take ((p + 1) * 2) = cellsE (l.take p) ++ [Value.int .i64 t.1, .string t.2] := by
      have : (p + 1) * 2 = (cellsE (l.take p) ++ [Value.int .i64 t.1, .string t.2]).length := by rw [List.length_append, e2]; simp; omega
      rw [hC1, List.toList_toArray, q0, this, List.take_left]
    rw [hC2, List.toList_toArray, q1, cellsE_append, cellsE_cons]
    have q3 : (cellsE (l.take p) ++ [Value.int .i64 t.1, .string t.2] ++ cellsE (l.drop p) ++ C1.toList.drop ((p + 1) * 2 + (cellsE (l.drop p)).length)) = (cellsE (l.take p) ++ (.int .i64 t.1 :: .string t.2 :: cellsE (l.drop p))) ++ C1.toList.drop ((p + 1) * 2 + (cellsE (l.drop p)).length) := by simp
    rw [q3]
    have q4 : (l.length + 1) * 2 = (cellsE (l.take p) ++ (.int .i64 t.1 :: .string t.2 :: cellsE (l.drop p))).length := by
      rw [List.length_append, List.length_cons, List.length_cons, e2, hdl]; omega
    rw [q4, List.take_left]
  rw [← hW1] at hrz
  have hsW : W1.heap.size = w.heap.size + 1 := by rw [hW1]; simp
  have hBW : Below w.heap.size w W1 := by rw [hW1]; exact ((Below.refl _ _).drew).alloc (Nat.le_refl _) _
  have hdone : ∀ u : World, u.heap = ((W1.setRow w.heap.size C1).setRow w.heap.size C2).heap → u.os = W1.os → u.tape = W1.tape → u.output = W1.output → u.ownsRow b0 82 2 (.slice (some ⟨w.heap.size, 0, none⟩) (l.length + 1) G) (l.length + 1) (cellsE (l.take p ++ t :: l.drop p)) ∧ Below w.heap.size w u := fun u hu h1 h2 h3 => by
    have hN2 : u.heap[w.heap.size]? = some (.cells C2 82 (0, 0)) := by
      rw [hu]
      exact setRow_heap _ w.heap.size C1 C2 82 (0, 0) (setRow_heap W1 w.heap.size ROW C1 82 (0, 0) hN1)
    have hC2l : C2.toList.length = G * 2 := by rw [Array.length_toList]; exact hC2s
    refine ⟨⟨by rw [← hfin, List.length_take, hC2l]; omega, .inr ⟨w.heap.size, G, C2, rfl, hb0, hN2, hG1, hG2, hC2s, hfin⟩⟩, ⟨h1.trans hBW.os, h2.trans hBW.tape, h3.trans hBW.output, ?_, fun k hk => ?_⟩⟩
    · rw [hu]; simp [World.setRow, hsW]
    · rw [hu, setRow_other _ _ _ _ (by omega), setRow_other _ _ _ _ (by omega), hW1o k hk]
  clear hROW hC1 hC2 hfin hold hrow hap hG hW1 hN1 hW1o hRl hC1l hRs hC1s hC2s hdl e2 hi hz0 hz1 hz2 hsz2 hcur
  have hGi : (l.length : Int) + 1 ≤ (G : Int) := by omega
  have hm63 : G ≤ 9223372036854775807 := by unfold maxLen at hG2; omega
  go_enter Tryz.func161, Tryz.ntmps161
  go_wp2_with (at_builtin; refine Lib.wpList_append_run _ rfl _ _ _ _ rfl _ _ rfl rfl _ _ (hrz _) ?_)
  have hcp3 := hcp2 (W1.setRow w.heap.size C1).drew rfl
  go_region
  have hd := hdone ((W1.setRow w.heap.size C1).drew.setRow w.heap.size C2) rfl rfl rfl rfl
  clear hcp1 hcp2 hcp3 hrz hdone
  go_wp2
  go_ret
  exact ⟨_, rfl, hd.1, hd.2, rfl⟩

/-- An event is laid in its place. -/
theorem insert_any (l : List Ent) (t : Ent) (V : Value) (p b0 X : Nat) (w : World) (hp : p ≤ l.length) (hO : w.ownsRow b0 82 2 V l.length (cellsE l)) (hl : l.length ≤ 100000) (hb0 : b0 ≤ w.heap.size)
    (hX : w.heap[X]? = some (.cells #[.int .i64 t.1, .string t.2] 82 (0, 0))) (hXV : V.ownBlock ≠ some X) :
    Calls Tryz.prog 161 #[V, .int .i64 p, .slice (some ⟨X, 0, none⟩) 1 1] w fun e w' => ∃ V', e = .returned V' ∧ w'.ownsRow b0 82 2 V' (l.length + 1) (cellsE (l.take p ++ t :: l.drop p)) ∧ w.grownBy w' V.ownBlock ∧ (V'.ownBlock = V.ownBlock ∨ V'.ownBlock = some w.heap.size) := by
  rcases Nat.eq_or_lt_of_le hp with rfl | hlt
  · rw [List.take_length, List.drop_length]
    exact insert_end l t V b0 X w hO hl hb0 hX
  · rcases hO.2 with ⟨_, h0⟩ | ⟨g, cap, cur, rfl, hbg, hgg, hle, hmax, hsz, htake⟩
    · omega
    · rcases Nat.lt_or_ge cap (l.length + 1) with hc | hc
      · refine (insert_grow l t p g cap X b0 cur w hlt hc hle hl hgg htake hX hb0).mono ?_
        rintro e w' ⟨V', rfl, h1, h2, h3⟩
        exact ⟨V', rfl, h1, ⟨h2.os, h2.tape, h2.output, h2.size, fun k hk _ => h2.block k hk⟩, .inr h3⟩
      · refine (insert_shift l t p g cap X cur w hlt hc hl hgg hsz htake hX (fun e => hXV (by rw [e]; rfl))).mono ?_
        rintro e w' ⟨rfl, hF, cur', h1, h2, h3⟩
        refine ⟨_, rfl, ⟨?_, .inr ⟨g, cap, cur', rfl, hbg, h1, hc, hmax, h2, h3⟩⟩, ⟨hF.os, hF.tape, hF.output, hF.size, fun k hk hkg => hF.block k hk (fun e => hkg (by rw [e]; rfl)) (by simp)⟩, .inl rfl⟩
        rw [cellsE_length]; simp; omega
end Go.Proofs.YtlndinigbppafaaGreat
