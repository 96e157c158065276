/-
  The walks of the program's twins: texts with one sum.
-/
import Derived.Test.YtlndinigbppafaaGreatFamD
import Derived.Test.YtlndinigbppafaaGreatStrD
import Derived.Test.YtlndinigbppafaaGreatTreeA
import Derived.Deep.Heap
namespace Go.Proofs.YtlndinigbppafaaGreat
open Go.RowKit Go.Deep

set_option maxRecDepth 100000 in
set_option maxHeartbeats 1000000 in
theorem del_any (a b c : ByteArray) (g cap : Nat) (cur : Array Value) (w : World) (hg : w.heap[g]? = some (.cells cur 9 (0, 0))) (hsz : cur.size = cap) (hc3 : 3 ≤ cap) (hmax : cap ≤ maxLen) (hcur : cur.toList.take 3 = cellsS [a, b, c]) :
    Calls Tryz.prog 194 #[.slice (some ⟨g, 0, none⟩) 3 cap, .int .i64 2, .int .i64 3] w fun e w' => e = .returned (.slice (some ⟨g, 0, none⟩) 2 cap) ∧ Frame2 w w' g none ∧ ∃ cur' : Array Value, w'.heap[g]? = some (.cells cur' 9 (0, 0)) ∧ cur'.size = cap ∧ cur'.toList.take 2 = cellsS [a, b] := by
  have hap : ∀ (u : World) ad n ty, (Builtin.append_ #[22, 22] ty #[.slice (some ⟨g, 0, none⟩) 2 cap, .slice ad 0 n]).run Tryz.prog u = .ok (.slice (some ⟨g, 0, none⟩) 2 cap) u := fun u ad n ty => by
    obtain ⟨i0, hi, _, hz1, _⟩ := info_parts Tryz.infoStrS
    simp [Builtin.append_, run_underlying Tryz.underlying22, Builtin.lenOf, Builtin.firstCells, sizeOf, typeInfo, hi, hz1, show 2 ≤ cap by omega]
    cases ad <;> simp [loadCells, loadCellsFrom, storeCells]
  have hcl : ∀ n ty, (Builtin.clear_ #[22] ty #[.slice (some ⟨g, 2, none⟩) 1 n]).run Tryz.prog w.drew = .ok (.tuple #[]) (w.drew.setRow g (cur.toList.take 2 ++ [Value.string ByteArray.empty] ++ cur.toList.drop 3).toArray) := fun n ty => by
    obtain ⟨i0, hi, hz0, hz1, _⟩ := info_parts Tryz.infoStrS
    have hst := run_storeCells_at Tryz.prog g 2 9 [Value.string ByteArray.empty] 0 cur w.drew hg (by simp; omega) (by simp [Value.oneCell'])
    have hz : (Builtin.zeroCells (Value.string ByteArray.empty).cells 1).toList = [Value.string ByteArray.empty] := by simp [Builtin.zeroCells, show (Value.string ByteArray.empty).cells = #[Value.string ByteArray.empty] from rfl]
    simp [Builtin.clear_, run_underlying Tryz.underlying22, zeroValue, typeInfo, hi, hz0, hz, hst]
  have hfin : ((cur.toList.take 2 ++ [Value.string ByteArray.empty] ++ cur.toList.drop 3).toArray.toList.take 2 = cellsS [a, b]) ∧ (cur.toList.take 2 ++ [Value.string ByteArray.empty] ++ cur.toList.drop 3).toArray.size = cap := by
    have hl : cur.toList.length = cap := by rw [Array.length_toList]; exact hsz
    have h2 : cur.toList.take 2 = cellsS [a, b] := by
      have := congrArg (List.take 2) hcur
      rw [List.take_take] at this
      exact this
    constructor
    · rw [List.toList_toArray, List.append_assoc, h2]; rfl
    · simp; omega
  have hg2 := setRow_heap w.drew g cur (cur.toList.take 2 ++ [Value.string ByteArray.empty] ++ cur.toList.drop 3).toArray 9 (0, 0) hg
  have hF : Frame2 w (w.drew.setRow g (cur.toList.take 2 ++ [Value.string ByteArray.empty] ++ cur.toList.drop 3).toArray) g none := ⟨rfl, rfl, rfl, by simp [World.setRow], fun k hk hkg _ => by rw [setRow_other _ _ _ _ hkg]; rfl⟩
  generalize (cur.toList.take 2 ++ [Value.string ByteArray.empty] ++ cur.toList.drop 3).toArray = C at *
  generalize w.drew.setRow g C = W at *
  have hcap2 : (2 : Int) ≤ (cap : Int) := by omega
  have hcap : (3 : Int) ≤ (cap : Int) := by omega
  have hm63 : cap ≤ 9223372036854775807 := by unfold maxLen at hmax; omega
  go_enter Tryz.func194, Tryz.ntmps194
  go_wp2
  go_still_tail 6, (by kernel_rfl)
  go_wp2_with (at_builtin; refine Lib.wpList_append_run _ rfl _ _ _ _ rfl _ _ rfl rfl _ _ (hap _ _ _ _) ?_)
  all_goals go_ret
  all_goals exact ⟨rfl, hF, C, hg2, by have := hfin.2; omega, hfin.1⟩

/-- Only the blocks S are changed. -/
structure Only (S : Nat → Prop) (a w : World) : Prop where
  os : w.os = a.os
  tape : w.tape = a.tape
  output : w.output = a.output
  size : a.heap.size ≤ w.heap.size
  block : ∀ k, k < a.heap.size → ¬ S k → w.heap[k]? = a.heap[k]?
theorem Only.trans {S S' : Nat → Prop} {a b c : World} (h : Only S a b) (g : Only S' b c) (hs : ∀ k, k < a.heap.size → S' k → S k) : Only S a c :=
  ⟨g.os.trans h.os, g.tape.trans h.tape, g.output.trans h.output, Nat.le_trans h.size g.size, fun k hk hn => (g.block k (Nat.lt_of_lt_of_le hk h.size) (fun q => hn (hs k hk q))).trans (h.block k hk hn)⟩
theorem Only.mono {S S' : Nat → Prop} {a b : World} (h : Only S a b) (hs : ∀ k, k < a.heap.size → S k → S' k) : Only S' a b :=
  ⟨h.os, h.tape, h.output, h.size, fun k hk hn => h.block k hk (fun q => hn (hs k hk q))⟩
theorem Only.of_below {S : Nat → Prop} {a w : World} (h : Below a.heap.size a w) : Only S a w := ⟨h.os, h.tape, h.output, h.size, fun k hk _ => h.block k hk⟩
theorem Only.of_grown {a w : World} {row : Option Nat} (h : a.grownBy w row) : Only (fun k => some k = row) a w := ⟨h.os, h.tape, h.output, h.size, fun k hk hn => h.block k hk hn⟩
theorem Only.of_set (a : World) (B i : Nat) (v : Value) : Only (fun k => k = B) a (a.setCell ⟨B, i, none⟩ v) :=
  ⟨rfl, rfl, rfl, by rw [nblk_setCell]; exact Nat.le_refl _, fun k _ hn => blk_setCell_other a _ v k hn⟩
theorem Only.below {S : Nat → Prop} {a w : World} {B : Nat} (h : Only S a w) (hB : B ≤ a.heap.size) (hs : ∀ k, k < B → ¬ S k) : Below B a w := ⟨h.os, h.tape, h.output, h.size, fun k hk => h.block k (by omega) (hs k hk)⟩
theorem Only.keepsT {S : Nat → Prop} {t : TypeId} {a w : World} (h : Only S a w) (hs : ∀ k cur fr, a.heap[k]? = some (.cells cur t fr) → ¬ S k) : KeepsT t a w := fun b cur fr e => by
  rw [h.block b (lt_of_heap e) (hs b cur fr e)]; exact e
theorem set_heap {w : World} {B : Nat} {cur : Array Value} {t : TypeId} {fr : Nat × Nat} (i : Nat) (v : Value) (h : w.heap[B]? = some (.cells cur t fr)) : (w.setCell ⟨B, i, none⟩ v).heap[B]? = some (.cells (cur.setIfInBounds i v) t fr) := by
  unfold World.setCell
  simp only
  rw [Array.getElem?_modify]
  simp [h]
theorem owns_only {S : Nat → Prop} {w w' : World} {base : Nat} {e : TypeId} {size : Nat} {v : Value} {n : Nat} {xs : List Value} (h : w.ownsRow base e size v n xs) (ho : Only S w w') (hs : ∀ b, v.ownBlock = some b → ¬ S b) : w'.ownsRow base e size v n xs := by
  refine ⟨h.1, ?_⟩
  rcases h.2 with h | ⟨g, cap, cur, rfl, h1, h2, h3⟩
  · exact .inl h
  · exact .inr ⟨g, cap, cur, rfl, h1, by rw [ho.block g (lt_of_heap h2) (hs g rfl)]; exact h2, h3⟩
theorem owns_type {w : World} {base size n : Nat} {e t : TypeId} {v : Value} {xs : List Value} {b : Nat} {cur : Array Value} {fr : Nat × Nat} (h : w.ownsRow base e size v n xs) (hb : w.heap[b]? = some (.cells cur t fr)) (hne : e ≠ t) : v.ownBlock ≠ some b := by
  rcases h.2 with ⟨rfl, _⟩ | ⟨g, cap, c, rfl, _, hgg, _⟩
  · simp [Value.ownBlock]
  · simp only [Value.ownBlock]
    intro h
    simp at h
    subst h
    rw [hgg] at hb
    simp at hb
    exact hne hb.2.1
theorem owns_lt {w : World} {base size n : Nat} {e : TypeId} {v : Value} {xs : List Value} {b : Nat} (h : w.ownsRow base e size v n xs) (hb : v.ownBlock = some b) : base ≤ b ∧ b < w.heap.size ∧ ∃ cur, w.heap[b]? = some (.cells cur e (0, 0)) := by
  rcases h.2 with ⟨rfl, _⟩ | ⟨g, cap, c, rfl, h1, hgg, _⟩
  · simp [Value.ownBlock] at hb
  · simp [Value.ownBlock] at hb
    subst hb
    exact ⟨h1, lt_of_heap hgg, _, hgg⟩

/-- A family's slice, as a value. -/
def slV (x : Sl) : Value := .slice x.1 x.2.1 x.2.2
theorem strs_of_owns {w : World} {base : Nat} {v : Value} {n : Nat} {l : List ByteArray} (h : w.ownsRow base 9 1 v n (cellsS l)) : StringsAt w v l := by
  have hn : l.length = n := by have := h.1; rw [cellsS_length] at this; omega
  subst hn
  rcases h.2 with ⟨rfl, h0⟩ | ⟨g, cap, cur, rfl, _, hgg, _, _, _, htake⟩
  · exact ⟨none, 0, by rw [h0], fun hl => by omega⟩
  · refine ⟨_, cap, rfl, fun _ => ⟨g, 0, rfl, lt_of_heap hgg, fun j hj => ?_⟩⟩
    rw [cell_of_row _ _ _ _ _ _ hgg, Nat.zero_add]
    have h1 : (cellsS l)[j]? = some (.string l[j]) := by simp [cellsS, hj]
    rw [← htake, List.getElem?_take, if_pos (by omega)] at h1
    simpa using h1

/-- What family.add leaves. -/
structure Added (G p : Nat) (curF : Array Value) (s : Int) (sl : Sl) (l : List ByteArray) (t : ByteArray) (b0 : Nat) (w w' : World) (sl' : Sl) (T' : List ByteArray) : Prop where
  ok : TOK s T' ∧ 1 ≤ T'.length ∧ (t ∈ T' ∨ T'.length = 2) ∧ (∀ x ∈ l, x ∈ T' ∨ T'.length = 2) ∧ (∀ x ∈ T', x ∈ l ∨ x = t)
  owns : w'.ownsRow b0 9 1 (slV sl') T'.length (cellsS T')
  blk : ∃ curF' : Array Value, w'.heap[G]? = some (.cells curF' 167 (0, 0)) ∧ curF'.size = curF.size ∧ curF'[p * 2 + 1]? = some (slV sl') ∧ ∀ i, i ≠ p * 2 + 1 → curF'[i]? = curF[i]?
  only : Only (fun k => k = G ∨ some k = (slV sl).ownBlock) w w'
  own : (slV sl').ownBlock = (slV sl).ownBlock ∨ ∀ b, (slV sl').ownBlock = some b → w.heap.size ≤ b

set_option maxRecDepth 100000 in
set_option maxHeartbeats 1000000 in
theorem famAdd_any (G p : Nat) (curF : Array Value) (s : Int) (sl : Sl) (l : List ByteArray) (t : ByteArray) (b0 : Nat) (w : World)
    (hG : w.heap[G]? = some (.cells curF 167 (0, 0))) (h1 : curF[p * 2 + 1]? = some (slV sl)) (hO : w.ownsRow b0 9 1 (slV sl) l.length (cellsS l)) (hT : TOK s l) (hst : sm t.data.toList = s) (hts : t.size ≤ 1000000) (hb0 : b0 ≤ w.heap.size) :
    Calls Tryz.prog 179 #[.pointer (some ⟨G, p * 2, none⟩), .string t] w fun e w' => e = .returned (.tuple #[]) ∧ ∃ (sl' : Sl) (T' : List ByteArray), Added G p curF s sl l t b0 w w' sl' T' := by
  obtain ⟨ao, n, cap⟩ := sl
  have hV := strs_of_owns hO
  obtain ⟨ao', cap', esl, _⟩ := id hV
  simp only [slV, Value.slice.injEq] at esl
  obtain ⟨rfl, rfl, rfl⟩ := esl
  have hne : (slV (ao, l.length, cap)).ownBlock ≠ some G := owns_type hO hG (by decide)
  have hpi : p * 2 + 1 < curF.size := (Array.getElem?_eq_some_iff.1 h1).1
  have HT : Hid (TOK s l) := hT
  have HST : Hid (sm t.data.toList = s) := hst
  have hl2 := hT.len
  have hc1 : w.cell? ⟨G, p * 2 + 1, none⟩ = some (.slice ao l.length cap) := by rw [cell_of_row _ _ _ _ _ _ hG]; exact h1
  clear hT hst
  go_enter Tryz.func179, Tryz.ntmps179
  go_wp2_with fail
  refine (bsearchS_any l t _ _ HT.out.ord hV (by omega)).mono ?_
  rintro e w1 ⟨q, k, rfl, hS, hb1⟩
  have HN : Hid _ := newT_ok HT.out HST.out hts hS
  have hG1 := heap_keep hG hb1
  have hO1 := owns_below hO hb1
  have ho1 : Only (fun k => k = G ∨ some k = (slV (ao, l.length, cap)).ownBlock) w w1 := Only.of_below hb1
  have hs1 := hb1.size
  have hql := hS.le
  have hc1' : w1.cell? ⟨G, p * 2 + 1, none⟩ = some (.slice ao l.length cap) := by rw [cell_of_row _ _ _ _ _ _ hG1]; exact h1
  clear hb1 hV hO hG hc1 hS HT HST
  by_cases hk : k = true ∨ 2 ≤ q
  · have HE : Hid (newT l t q k = l) := if_pos hk
    have hdone : ∃ (sl' : Sl) (T' : List ByteArray), Added G p curF s (ao, l.length, cap) l t b0 w w1 sl' T' := ⟨_, _, by have := HN.out; rw [HE.out] at this; exact this, hO1, ⟨curF, hG1, rfl, h1, fun _ _ => rfl⟩, ho1, .inl rfl⟩
    clear HN HE hO1 hG1 ho1
    rcases hk with rfl | hq
    · go_wp2
      go_returns
      exact ⟨rfl, hdone⟩
    · have hq2 : (2 : Int) ≤ (q : Int) := by omega
      cases k with
      | true =>
        go_wp2
        go_returns
        exact ⟨rfl, hdone⟩
      | false =>
        go_wp2
        go_returns
        exact ⟨rfl, hdone⟩
  · have hk0 : k = false := by cases k <;> simp_all
    subst hk0
    have hq : q ≤ 1 := by omega
    have HE : Hid (newT l t q false = (l.take q ++ t :: l.drop q).take 2) := if_neg hk
    clear hk
    have hA : Below w1.heap.size w1 (w1.alloc (.cells #[.string t] 9)) := (Below.refl _ _).alloc (Nat.le_refl _) _
    have hXV : (slV (ao, l.length, cap)).ownBlock ≠ some w1.heap.size := fun e => by have := (owns_lt hO1 e).2.1; omega
    have hO1' := owns_below hO1 hA
    have hG1' := heap_keep hG1 hA
    go_wp2_with fail
    refine (insS_any l t _ q b0 w1.heap.size _ hql hO1' (by omega) (by simp; omega) (heap_alloc_new w1 _) hXV).mono ?_
    rintro e w2 ⟨V', rfl, hO2, hgr, hat⟩
    obtain ⟨g2, cap2, cur2, rfl, hbg, hgg, hle, hmax, hsz, htake⟩ : ∃ g cap cur, V' = .slice (some ⟨g, 0, none⟩) (l.length + 1) cap ∧ b0 ≤ g ∧ w2.heap[g]? = some (.cells cur 9 (0, 0)) ∧ l.length + 1 ≤ cap ∧ cap ≤ maxLen ∧ cur.size = cap * 1 ∧ cur.toList.take ((l.length + 1) * 1) = cellsS (l.take q ++ t :: l.drop q) := by
      rcases hO2.2 with ⟨_, h0⟩ | h
      · omega
      · exact h
    have hG2 : w2.heap[G]? = some (.cells curF 167 (0, 0)) := by rw [hgr.block G (lt_of_heap hG1') (fun e => hne e.symm)]; exact hG1'
    have hgG : g2 ≠ G := fun e => by rw [e, hG2] at hgg; simp at hgg
    have hc2 : w2.cell? ⟨G, p * 2 + 1, none⟩ = some (.slice ao l.length cap) := by rw [cell_of_row _ _ _ _ _ _ hG2]; exact h1
    have hf2 : w2.frozen? ⟨G, p * 2 + 1, none⟩ = false := by unfold World.frozen?; rw [hG2]; rfl
    have ho2 : Only (fun k => k = G ∨ some k = (slV (ao, l.length, cap)).ownBlock) w w2 := (ho1.trans (Only.of_below (S := fun _ => False) hA) (fun _ _ h => h.elim)).trans (Only.of_grown hgr) (fun _ _ h => .inr h)
    have hG3 := set_heap (p * 2 + 1) (.slice (some ⟨g2, 0, none⟩) (l.length + 1) cap2) hG2
    have ho3 := ho2.trans (Only.of_set w2 G (p * 2 + 1) (.slice (some ⟨g2, 0, none⟩) (l.length + 1) cap2)) (fun _ _ h => .inl h)
    have hO3 := owns_only hO2 (Only.of_set w2 G (p * 2 + 1) (.slice (some ⟨g2, 0, none⟩) (l.length + 1) cap2)) (fun b hb e => by simp [Value.ownBlock] at hb; omega)
    have hown : (some g2 = (slV (ao, l.length, cap)).ownBlock) ∨ w.heap.size ≤ g2 := by
      rcases hat with h | h
      · exact .inl h
      · simp [Value.ownBlock] at h; right; omega
    clear hA hXV hO1' hG1' hO1 hG1 ho1 hgr hat hc1' hO2
    generalize hw3 : w2.setCell ⟨G, p * 2 + 1, none⟩ (.slice (some ⟨g2, 0, none⟩) (l.length + 1) cap2) = w3 at hG3 ho3 hO3
    by_cases hl1 : l.length ≤ 1
    · have HE2 : Hid ((l.take q ++ t :: l.drop q).take 2 = l.take q ++ t :: l.drop q) := List.take_of_length_le (by simp; omega)
      have hlen : (l.take q ++ t :: l.drop q).length = l.length + 1 := by simp; omega
      have hdone : ∃ (sl' : Sl) (T' : List ByteArray), Added G p curF s (ao, l.length, cap) l t b0 w w3 sl' T' := by
        refine ⟨(some ⟨g2, 0, none⟩, l.length + 1, cap2), l.take q ++ t :: l.drop q, by have := HN.out; rw [HE.out, HE2.out] at this; exact this, by rw [hlen]; exact hO3, ⟨_, hG3, by simp, by simp [hpi, slV], fun i hi => by rw [Array.getElem?_setIfInBounds_ne (by omega)]⟩, ho3, ?_⟩
        rcases hown with h | h
        · exact .inl h
        · exact .inr fun b hb => by simp [slV, Value.ownBlock] at hb; omega
      rw [← hw3] at hdone
      clear HN HE hO3 hG3 ho3 hw3 hown HE2 htake hsz hgg
      have hn2 : ¬ (2 : Int) < (l.length : Int) + 1 := by omega
      go_wp2
      go_returns
      exact ⟨rfl, hdone⟩
    · have hl3 : l.length = 2 := by omega
      obtain ⟨a, b, c, HL⟩ : ∃ a b c, Hid (l.take q ++ t :: l.drop q = [a, b, c]) := by
        have : (l.take q ++ t :: l.drop q).length = 3 := by simp; omega
        match l.take q ++ t :: l.drop q, this with
        | [a, b, c], _ => exact ⟨a, b, c, rfl⟩
      have HN2 : Hid _ := HN.out
      rw [HE.out, HL.out] at HN2
      rw [HL.out, hl3] at htake
      rw [hl3] at hle
      rw [Nat.mul_one] at hsz
      have hgg3 : w3.heap[g2]? = some (.cells cur2 9 (0, 0)) := by rw [← hw3, blk_setCell_other _ _ _ _ hgG]; exact hgg
      rw [hl3] at hG3 hw3
      have hc3 : w3.cell? ⟨G, p * 2 + 1, none⟩ = some (.slice (some ⟨g2, 0, none⟩) 3 cap2) := by rw [cell_of_row _ _ _ _ _ _ hG3]; simp [hpi]
      have hf3 : w3.frozen? ⟨G, p * 2 + 1, none⟩ = false := by unfold World.frozen?; rw [hG3]; rfl
      clear HN HE HL hO3 hgg
      have hlen : l.length + 1 = 3 := by omega
      have hleni : (l.length : Int) + 1 = 3 := by omega
      rw [hlen]
      clear hlen hleni
      have hw3' : w2.setCell ⟨G, p * 2 + 1, none⟩ (.slice (some ⟨g2, 0, none⟩) 3 cap2) = w3 := hw3
      clear hw3
      go_wp2
      first | rw [hw3'] | skip
      clear hw3'
      have hgg4 : w3.drew.heap[g2]? = some (.cells cur2 9 (0, 0)) := hgg3
      have hG4 : w3.drew.heap[G]? = _ := hG3
      have ho4 := ho3.trans (Only.of_below (S := fun _ => False) (show Below w3.heap.size w3 w3.drew from (Below.refl _ _).drew)) (fun _ _ h => h.elim)
      have hD := fun u (hu : u.heap = w3.heap) => del_any a b c g2 cap2 cur2 u (by rw [hu]; exact hgg3) hsz hle hmax htake
      have HD : Hid _ := hD
      clear hD
      go_region_with (first
        | (go_at_call 194; refine Calls.mono (HD.out _ rfl) ?_; rintro e w5 ⟨rfl, hF, cur5, hg5, hsz5, htake5⟩; have hG5 : w5.heap[G]? = _ := Eq.trans (Frame2.block hF G (lt_of_heap hG4) (fun e => hgG e.symm) (by simp)) hG4; have hc5 : w5.cell? ⟨G, p * 2 + 1, none⟩ = some (.slice (some ⟨g2, 0, none⟩) 3 cap2) := (by rw [cell_of_row _ _ _ _ _ _ hG5]; simp [hpi]); have hf5 : w5.frozen? ⟨G, p * 2 + 1, none⟩ = false := (by unfold World.frozen?; rw [hG5]; rfl)))
      all_goals
        have ho5 := ho4.trans (show Only (fun k => k = g2) w3.drew w5 from ⟨hF.os, hF.tape, hF.output, hF.size, fun k hk hn => hF.block k hk hn (by simp)⟩) (fun k hk e => by
          rcases hown with h | h
          · exact .inr (by rw [e]; exact h)
          · omega)
        have hG6 := set_heap (p * 2 + 1) (.slice (some ⟨g2, 0, none⟩) 2 cap2) hG5
        have ho6 := ho5.trans (Only.of_set w5 G (p * 2 + 1) (.slice (some ⟨g2, 0, none⟩) 2 cap2)) (fun _ _ h => .inl h)
        have hg6 : (w5.setCell ⟨G, p * 2 + 1, none⟩ (.slice (some ⟨g2, 0, none⟩) 2 cap2)).heap[g2]? = some (.cells cur5 9 (0, 0)) := by rw [blk_setCell_other _ _ _ _ hgG]; exact hg5
        have hdone : ∃ (sl' : Sl) (T' : List ByteArray), Added G p curF s (ao, l.length, cap) l t b0 w (w5.setCell ⟨G, p * 2 + 1, none⟩ (.slice (some ⟨g2, 0, none⟩) 2 cap2)) sl' T' := by
          refine ⟨(some ⟨g2, 0, none⟩, 2, cap2), [a, b], HN2.out, ⟨rfl, .inr ⟨g2, cap2, cur5, rfl, hbg, hg6, by simp; omega, hmax, by rw [hsz5, Nat.mul_one], htake5⟩⟩, ⟨_, hG6, by simp, by simp [hpi, slV], fun i hi => by rw [Array.getElem?_setIfInBounds_ne (by omega), Array.getElem?_setIfInBounds_ne (by omega)]⟩, ho6, ?_⟩
          rcases hown with h | h
          · exact .inl h
          · exact .inr fun b hb => by simp [slV, Value.ownBlock] at hb; omega
        clear HN2 ho6 ho5 ho4 hg6 hG6 hg5 hG5 hF hG4 hgg4 hown htake htake5 HD
        go_returns
        exact ⟨rfl, hdone⟩
end Go.Proofs.YtlndinigbppafaaGreat
