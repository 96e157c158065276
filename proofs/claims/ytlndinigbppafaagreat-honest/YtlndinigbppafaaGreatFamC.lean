/-
  Families of texts in memory; the walks of slices.BinarySearchFunc over them and of slices.BinarySearch over texts.
-/
import Derived.Test.YtlndinigbppafaaGreatFam
import Derived.Deep.QuietTactic
import Derived.BigQuiet
namespace Go.Proofs.YtlndinigbppafaaGreat
open Go.RowKit

/-- Families as cells. -/
def cellsF (l : List Fam) : List Value := (l.map fun x => [Value.int .i64 x.1, .slice x.2.1.1 x.2.1.2.1 x.2.1.2.2]).flatten
theorem cellsF_length (l : List Fam) : (cellsF l).length = l.length * 2 := by
  induction l with
  | nil => rfl
  | cons x l ih => unfold cellsF at ih ⊢; rw [List.map_cons, List.flatten_cons, List.length_append, ih, List.length_cons]; simp; omega
theorem cellsF_append (a b : List Fam) : cellsF (a ++ b) = cellsF a ++ cellsF b := by unfold cellsF; rw [List.map_append, List.flatten_append]
theorem cellsF_cons (x : Fam) (l : List Fam) : cellsF (x :: l) = .int .i64 x.1 :: .slice x.2.1.1 x.2.1.2.1 x.2.1.2.2 :: cellsF l := by unfold cellsF; rw [List.map_cons, List.flatten_cons]; rfl
theorem cellsF_one (l : List Fam) : ∀ u ∈ cellsF l, u.oneCell' = true := by
  induction l with
  | nil => intro u hu; cases hu
  | cons x l ih =>
    intro u hu
    rw [cellsF_cons] at hu
    rcases List.mem_cons.1 hu with rfl | hu
    · rfl
    · rcases List.mem_cons.1 hu with rfl | hu
      · rfl
      · exact ih u hu
theorem cellsF_get (l : List Fam) (j : Nat) (hj : j < l.length) : (cellsF l)[j * 2]? = some (.int .i64 l[j].1) ∧ (cellsF l)[j * 2 + 1]? = some (.slice l[j].2.1.1 l[j].2.1.2.1 l[j].2.1.2.2) := by
  induction l generalizing j with
  | nil => simp at hj
  | cons x l ih =>
    rw [cellsF_cons]
    cases j with
    | zero => exact ⟨rfl, rfl⟩
    | succ j =>
      rw [show (j + 1) * 2 = j * 2 + 1 + 1 by omega]
      simp only [List.getElem?_cons_succ, List.getElem_cons_succ]
      exact ih j (by simpa using hj)

/-- The slice v holds the families l. -/
def FamsV (w : World) (v : Value) (l : List Fam) : Prop :=
  ∃ ao cap, v = .slice ao l.length cap ∧ (0 < l.length → ∃ b o, ao = some ⟨b, o, none⟩ ∧ b < w.heap.size ∧ ∀ j (h : j < l.length), w.cell? ⟨b, o + j * 2, none⟩ = some (.int .i64 l[j].1) ∧ w.cell? ⟨b, o + j * 2 + 1, none⟩ = some (.slice l[j].2.1.1 l[j].2.1.2.1 l[j].2.1.2.2))
theorem FamsV.below {w w' : World} {v : Value} {l : List Fam} (h : FamsV w v l) (hb : Below w.heap.size w w') : FamsV w' v l := by
  obtain ⟨ao, cap, rfl, h⟩ := h
  refine ⟨ao, cap, rfl, fun hl => ?_⟩
  obtain ⟨b, o, rfl, hlt, hc⟩ := h hl
  exact ⟨b, o, rfl, Nat.lt_of_lt_of_le hlt hb.size, fun j hj => ⟨(hb.cell (p := ⟨b, o + j * 2, none⟩) hlt).trans (hc j hj).1, (hb.cell (p := ⟨b, o + j * 2 + 1, none⟩) hlt).trans (hc j hj).2⟩⟩
theorem FamsV.of_owns {w : World} {base : Nat} {v : Value} {n : Nat} {l : List Fam} (h : w.ownsRow base 167 2 v n (cellsF l)) : FamsV w v l := by
  have hn : l.length = n := by have := h.1; rw [cellsF_length] at this; omega
  subst hn
  rcases h.2 with ⟨rfl, h0⟩ | ⟨g, cap, cur, rfl, _, hgg, _, _, _, htake⟩
  · exact ⟨none, 0, by rw [h0], fun hl => by omega⟩
  · refine ⟨_, cap, rfl, fun _ => ⟨g, 0, rfl, lt_of_heap hgg, fun j hj => ?_⟩⟩
    obtain ⟨e0, e1⟩ := cellsF_get l j hj
    rw [cell_of_row _ _ _ _ _ _ hgg, cell_of_row _ _ _ _ _ _ hgg]
    rw [← htake, List.getElem?_take] at e0 e1
    split at e0
    · split at e1
      · exact ⟨by simpa using e0, by simpa using e1⟩
      · cases e1
    · cases e0

theorem fams_get {w : World} {ao : Option Addr} {cap : Nat} {l : List Fam} (h : FamsV w (.slice ao l.length cap) l) (j : Nat) (hj : j < l.length) : ∃ b o, ao = some ⟨b, o, none⟩ ∧ b < w.heap.size ∧ w.cell? ⟨b, o + j * 2, none⟩ = some (.int .i64 l[j].1) ∧ w.cell? ⟨b, o + j * 2 + 1, none⟩ = some (.slice l[j].2.1.1 l[j].2.1.2.1 l[j].2.1.2.2) := by
  obtain ⟨ao', cap', e, h⟩ := h
  simp only [Value.slice.injEq] at e
  obtain ⟨rfl, -, rfl⟩ := e
  obtain ⟨b, o, rfl, hlt, hc⟩ := h (by omega)
  exact ⟨b, o, rfl, hlt, hc j hj⟩


/-- Where a sum belongs. -/
structure SrchF (l : List Fam) (s : Int) (p : Nat) (k : Bool) : Prop where
  le : p ≤ l.length
  below : ∀ i (h : i < l.length), i < p → l[i].1 < s
  above : ∀ i (h : i < l.length), p ≤ i → s ≤ l[i].1
  known : k = true ↔ ∃ h : p < l.length, l[p].1 = s

set_option maxRecDepth 100000 in
set_option maxHeartbeats 400000 in
theorem compareSum_any (a s : Int) (V : Value) (w : World) (ha : 0 ≤ a ∧ a ≤ 65520) (hs : 0 ≤ s ∧ s ≤ 65520) :
    Calls Tryz.prog 177 #[.agg #[.int .i64 a, V], .int .i64 s] w fun e w' => e = .returned (.int .i64 (a - s)) ∧ Below w.heap.size w w' := by
  obtain ⟨ha0, ha1⟩ := ha
  obtain ⟨hs0, hs1⟩ := hs
  go_enter Tryz.func177, Tryz.ntmps177
  go_wp2
  go_ret
  exact ⟨rfl, (Below.refl _ _).alloc (Nat.le_refl _) _⟩

set_option maxRecDepth 100000 in
set_option maxHeartbeats 1000000 in
theorem bsearchF_any (l : List Fam) (s : Int) (v : Value) (w : World) (hs : l.Pairwise (fun f g => f.1 < g.1)) (hbd : ∀ f ∈ l, 0 ≤ f.1 ∧ f.1 ≤ 65520) (hs0 : 0 ≤ s ∧ s ≤ 65520) (hv : FamsV w v l) (hl : l.length ≤ 1000000) :
    Calls Tryz.prog 176 #[v, .int .i64 s, .func (.func 177) #[] #[]] w fun e w' => ∃ (p : Nat) (k : Bool), e = .returned (.tuple #[.int .i64 p, .bool k]) ∧ SrchF l s p k ∧ Below w.heap.size w w' := by
  obtain ⟨ao, cap, rfl, _⟩ := id hv
  have HS : Hid (∀ i j (hi : i < l.length) (hj : j < l.length), i < j → l[i].1 < l[j].1) := List.pairwise_iff_getElem.1 hs
  have HB : Hid (∀ f ∈ l, 0 ≤ f.1 ∧ f.1 ≤ 65520) := hbd
  have HV : Hid (FamsV w (.slice ao l.length cap) l) := hv
  clear hs hv hbd
  go_enter Tryz.func176, Tryz.ntmps176
  go_wp2
  go_loopw [9, 10] (fun i j wr => ∃ a b : Nat, a ≤ b ∧ b ≤ l.length ∧ i = .int .i64 a ∧ j = .int .i64 b ∧ Hid (∀ k (hk : k < l.length), k < a → l[k].1 < s) ∧ Hid (∀ k (hk : k < l.length), b ≤ k → s ≤ l[k].1) ∧ Below w.heap.size w wr) (fun i j _ => (intOf j).toNat - (intOf i).toNat)
  case atStart => exact ⟨0, l.length, by omega, by omega, rfl, rfl, fun k _ h => by omega, fun k hk h => by omega, Below.refl _ _⟩
  case round =>
    obtain ⟨a, b, hab, hbl, rfl, rfl, H1, H2, hb⟩ := hrel
    by_cases hlt : a < b
    · have hh1 : a ≤ (a + b) / 2 := by omega
      have hh2 : (a + b) / 2 < b := by omega
      have hhl : (a + b) / 2 < l.length := by omega
      obtain ⟨bb, oo, rfl, hbb, x0, x1⟩ := fams_get (FamsV.below HV.out hb) ((a + b) / 2) hhl
      have hC : ∀ (V : Value) (u : World), Calls Tryz.prog 177 #[.agg #[.int .i64 l[(a + b) / 2].1, V], .int .i64 s] u fun e w' => e = .returned (.int .i64 (l[(a + b) / 2].1 - s)) ∧ Below u.heap.size u w' := fun V u => compareSum_any l[(a + b) / 2].1 s V u (HB.out _ (List.getElem_mem hhl)) hs0
      have HX : Hid (∀ k (hk : k < l.length), k = (a + b) / 2 → l[k].1 = l[(a + b) / 2].1) := fun k hk e => by subst e; rfl
      have HY : Hid (∀ k (hk : k < l.length), k < (a + b) / 2 → l[k].1 < l[(a + b) / 2].1) := fun k hk e => HS.out k _ hk hhl e
      have HZ : Hid (∀ k (hk : k < l.length), (a + b) / 2 < k → l[(a + b) / 2].1 < l[k].1) := fun k hk e => HS.out _ k hhl hk e
      have hhi : ((a : Int) + (b : Int)) / 2 = (((a + b) / 2 : Nat) : Int) := by omega
      have HHI : Hid _ := hhi
      clear hhi
      generalize l[(a + b) / 2] = x at *
      obtain ⟨xs, xv, xt⟩ := x
      simp only at x0 x1 hC HX HY HZ
      go_wp2_with fail
      refine (hC _ _).mono ?_
      rintro e w2 ⟨rfl, hb2⟩
      have hb02 : Below w.heap.size w w2 := by first | exact below_step hb hb2 | exact below_step (hb.drew) hb2
      clear hC hb2 hb
      by_cases hlx : xs < s
      · have hlz : xs - s < 0 := by omega
        go_wp2
        go_roundw
        case rel =>
          refine ⟨(a + b) / 2 + 1, b, by omega, hbl, by go_num, rfl, fun k hk hkh => ?_, H2, hb02⟩
          rcases Nat.lt_or_ge k ((a + b) / 2) with q | q
          · have := HY.out k hk q; omega
          · rw [HX.out k hk (by omega)]; exact hlx
        case measure => simp [intOf]; omega
      · have hge : 0 ≤ xs - s := by omega
        go_wp2
        go_roundw
        case rel =>
          refine ⟨a, (a + b) / 2, hh1, by omega, rfl, by rw [HHI.out], H1, fun k hk hkh => ?_, hb02⟩
          rcases Nat.lt_or_ge ((a + b) / 2) k with q | q
          · have := HZ.out k hk q; omega
          · rw [HX.out k hk (by omega)]; omega
        case measure => simp [intOf]; omega
    · have hab' : a = b := by omega
      subst hab'
      by_cases hin : a < l.length
      · obtain ⟨bb, oo, rfl, hbb, x0, x1⟩ := fams_get (FamsV.below HV.out hb) a hin
        have hC : ∀ (V : Value) (u : World), Calls Tryz.prog 177 #[.agg #[.int .i64 l[a].1, V], .int .i64 s] u fun e w' => e = .returned (.int .i64 (l[a].1 - s)) ∧ Below u.heap.size u w' := fun V u => compareSum_any l[a].1 s V u (HB.out _ (List.getElem_mem hin)) hs0
        have HR : Hid (∀ k : Bool, (k = true ↔ l[a].1 = s) → SrchF l s a k) := fun k hk => ⟨by omega, H1.out, H2.out, hk.trans ⟨fun e => ⟨hin, e⟩, fun ⟨_, e⟩ => e⟩⟩
        generalize l[a] = x at *
        obtain ⟨xs, xv, xt⟩ := x
        simp only at x0 x1 hC HR
        have hai : (a : Int) < (l.length : Int) := by omega
        go_wp2_with (go_at_call 177; refine (hC _ _).mono ?_; rintro e w2 ⟨rfl, hb2⟩)
        go_ret2
        exact ⟨_, _, rfl, HR.out _ (by simp; omega), below_step hb hb2⟩
      · have HR : Hid (SrchF l s a false) := ⟨by omega, H1.out, H2.out, by simp; intro h; omega⟩
        have hge : l.length ≤ a := by omega
        have hd : decide ((a : Int) < (l.length : Int)) = false := decide_eq_false (by omega)
        go_wp2
        go_ret2
        exact ⟨_, _, rfl, HR.out, hb⟩

theorem StringsAt.belowS {w w' : World} {v : Value} {ps : List ByteArray} (h : StringsAt w v ps) (hb : Below w.heap.size w w') : StringsAt w' v ps := by
  obtain ⟨ao, cap, rfl, h⟩ := h
  refine ⟨ao, cap, rfl, fun hl => ?_⟩
  obtain ⟨b, o, rfl, hlt, hc⟩ := h hl
  exact ⟨b, o, rfl, Nat.lt_of_lt_of_le hlt hb.size, fun j hj => (hb.cell (p := ⟨b, o + j, none⟩) hlt).trans (hc j hj)⟩
set_option maxHeartbeats 400000 in
theorem cmpNaN_any (x : ByteArray) (w : World) : Calls Tryz.prog 208 #[.string x] w fun e w' => e = .returned (.bool false) ∧ w' = w := by
  go_enter Tryz.func208, Tryz.ntmps208
  go_wp2
  go_ret
  exact ⟨by simp, rfl⟩
set_option maxHeartbeats 400000 in
theorem slNaN_any (x : ByteArray) (w : World) : Calls Tryz.prog 202 #[.string x] w fun e w' => e = .returned (.bool false) ∧ w' = w := by
  go_enter Tryz.func202, Tryz.ntmps202
  go_wp2
  go_ret
  exact ⟨by simp, rfl⟩
set_option maxHeartbeats 400000 in
theorem cmpLess_any (x y : ByteArray) (w : World) : Calls Tryz.prog 201 #[.string x, .string y] w fun e w' => e = .returned (.bool (decide (ltB x y))) ∧ w' = w := by
  go_enter Tryz.func201, Tryz.ntmps201
  go_wp2_with (go_at_call 208; refine (cmpNaN_any _ _).mono ?_; rintro e w' ⟨rfl, rfl⟩)
  go_ret
  exact ⟨by rw [less_lt]; rfl, rfl⟩

set_option maxRecDepth 100000 in
set_option maxHeartbeats 1000000 in
theorem bsearchS_any (l : List ByteArray) (t : ByteArray) (v : Value) (w : World) (hs : l.Pairwise ltB) (hv : StringsAt w v l) (hl : l.length ≤ 1000000) :
    Calls Tryz.prog 192 #[v, .string t] w fun e w' => ∃ (p : Nat) (k : Bool), e = .returned (.tuple #[.int .i64 p, .bool k]) ∧ Srch l t p k ∧ Below w.heap.size w w' := by
  obtain ⟨ao, cap, rfl, _⟩ := id hv
  have HS : Hid (∀ i j (hi : i < l.length) (hj : j < l.length), i < j → ltB l[i] l[j]) := List.pairwise_iff_getElem.1 hs
  have HV : Hid (StringsAt w (.slice ao l.length cap) l) := hv
  clear hs hv
  go_enter Tryz.func192, Tryz.ntmps192
  go_wp2
  go_loopw [7, 8] (fun i j wr => ∃ a b : Nat, a ≤ b ∧ b ≤ l.length ∧ i = .int .i64 a ∧ j = .int .i64 b ∧ Hid (∀ k (hk : k < l.length), k < a → ltB l[k] t) ∧ Hid (∀ k (hk : k < l.length), b ≤ k → ¬ ltB l[k] t) ∧ Below w.heap.size w wr) (fun i j _ => (intOf j).toNat - (intOf i).toNat)
  case atStart => exact ⟨0, l.length, by omega, by omega, rfl, rfl, fun k _ h => by omega, fun k hk h => by omega, Below.refl _ _⟩
  case round =>
    obtain ⟨a, b, hab, hbl, rfl, rfl, H1, H2, hb⟩ := hrel
    by_cases hlt : a < b
    · have hh1 : a ≤ (a + b) / 2 := by omega
      have hh2 : (a + b) / 2 < b := by omega
      have hhl : (a + b) / 2 < l.length := by omega
      obtain ⟨ao', cap', e0, hh0⟩ := StringsAt.belowS HV.out hb
      simp only [Value.slice.injEq] at e0
      obtain ⟨rfl, -, rfl⟩ := e0
      obtain ⟨bb, oo, rfl, hbb, hcs⟩ := hh0 (by omega)
      have x0 := hcs ((a + b) / 2) hhl
      clear hcs hh0
      have HX : Hid (∀ k (hk : k < l.length), k = (a + b) / 2 → l[k] = l[(a + b) / 2]) := fun k hk e => by subst e; rfl
      have HY : Hid (∀ k (hk : k < l.length), k < (a + b) / 2 → ltB l[k] l[(a + b) / 2]) := fun k hk e => HS.out k _ hk hhl e
      have HZ : Hid (∀ k (hk : k < l.length), (a + b) / 2 < k → ltB l[(a + b) / 2] l[k]) := fun k hk e => HS.out _ k hhl hk e
      have hhi : ((a : Int) + (b : Int)) / 2 = (((a + b) / 2 : Nat) : Int) := by omega
      have HHI : Hid _ := hhi
      clear hhi
      generalize l[(a + b) / 2] = x at *
      go_wp2_with fail
      refine (cmpLess_any _ _ _).mono ?_
      rintro e w2 ⟨rfl, rfl⟩
      by_cases hlx : ltB x t
      · rw [decide_eq_true hlx]
        have HLX : Hid _ := hlx
        clear hlx
        go_wp2
        go_roundw
        case rel =>
          refine ⟨(a + b) / 2 + 1, b, by omega, hbl, by go_num, rfl, fun k hk hkh => ?_, H2, by assumption⟩
          rcases Nat.lt_or_ge k ((a + b) / 2) with q | q
          · exact ltB_trans (HY.out k hk q) HLX.out
          · rw [HX.out k hk (by omega)]; exact HLX.out
        case measure => simp [intOf]; omega
      · rw [decide_eq_false hlx]
        have HLX : Hid _ := hlx
        clear hlx
        go_wp2
        go_roundw
        case rel =>
          refine ⟨a, (a + b) / 2, hh1, by omega, rfl, by rw [HHI.out], H1, fun k hk hkh => ?_, by assumption⟩
          rcases Nat.lt_or_ge ((a + b) / 2) k with q | q
          · exact fun q2 => HLX.out (ltB_trans (HZ.out k hk q) q2)
          · rw [HX.out k hk (by omega)]; exact HLX.out
        case measure => simp [intOf]; omega
    · have hab' : a = b := by omega
      subst hab'
      by_cases hin : a < l.length
      · obtain ⟨ao', cap', e0, hh0⟩ := StringsAt.belowS HV.out hb
        simp only [Value.slice.injEq] at e0
        obtain ⟨rfl, -, rfl⟩ := e0
        obtain ⟨bb, oo, rfl, hbb, hcs⟩ := hh0 (by omega)
        have x0 := hcs a hin
        clear hcs hh0
        have HR : Hid (∀ k : Bool, (k = true ↔ l[a] = t) → Srch l t a k) := fun k hk => ⟨by omega, H1.out, H2.out, hk.trans ⟨fun e => ⟨hin, e⟩, fun ⟨_, e⟩ => e⟩⟩
        generalize l[a] = x at *
        have hai : (a : Int) < (l.length : Int) := by omega
        by_cases hx : x = t
        · have hxe : (x.toList == t.toList) = true := by rw [hx]; simp
          go_wp2_with (go_at_call 202; refine (slNaN_any _ _).mono ?_; rintro e w2 ⟨rfl, rfl⟩)
          go_ret2
          exact ⟨_, _, rfl, HR.out _ (by simp [hx]), by assumption⟩
        · have hxe : (x.toList == t.toList) = false := by
            rw [beq_eq_false_iff_ne]
            intro h
            rw [Lib.toList_data, Lib.toList_data] at h
            exact hx (ba_ext h)
          have HX : Hid _ := hx
          clear hx
          go_wp2_with (go_at_call 202; refine (slNaN_any _ _).mono ?_; rintro e w2 ⟨rfl, rfl⟩)
          all_goals go_ret2
          all_goals exact ⟨_, _, rfl, HR.out _ (by simp; exact HX.out), by assumption⟩
      · have HR : Hid (Srch l t a false) := ⟨by omega, H1.out, H2.out, by simp; intro h; omega⟩
        have hge : l.length ≤ a := by omega
        have hd : decide ((a : Int) < (l.length : Int)) = false := decide_eq_false (by omega)
        go_wp2_with (go_at_call 202; refine (slNaN_any _ _).mono ?_; rintro e w2 ⟨rfl, rfl⟩)
        go_ret2
        exact ⟨_, _, rfl, HR.out, by assumption⟩
end Go.Proofs.YtlndinigbppafaaGreat
