/-
  Events in memory; the walk of slices.BinarySearchFunc over them.
-/
import Derived.Test.YtlndinigbppafaaGreatEntB
import Derived.Deep.QuietTactic
import Derived.BigQuiet
namespace Go.Proofs.YtlndinigbppafaaGreat
open Go.RowKit

/-- Events as cells. -/
def cellsE (l : List Ent) : List Value := (l.map fun x => [Value.int .i64 x.1, .string x.2]).flatten
theorem cellsE_length (l : List Ent) : (cellsE l).length = l.length * 2 := by
  induction l with
  | nil => rfl
  | cons x l ih => unfold cellsE at ih ⊢; rw [List.map_cons, List.flatten_cons, List.length_append, ih, List.length_cons]; simp; omega
theorem cellsE_append (a b : List Ent) : cellsE (a ++ b) = cellsE a ++ cellsE b := by unfold cellsE; rw [List.map_append, List.flatten_append]
theorem cellsE_cons (x : Ent) (l : List Ent) : cellsE (x :: l) = .int .i64 x.1 :: .string x.2 :: cellsE l := by unfold cellsE; rw [List.map_cons, List.flatten_cons]; rfl
theorem cellsE_one (l : List Ent) : ∀ u ∈ cellsE l, u.oneCell' = true := by
  induction l with
  | nil => intro u hu; cases hu
  | cons x l ih =>
    intro u hu
    rw [cellsE_cons] at hu
    rcases List.mem_cons.1 hu with rfl | hu
    · rfl
    · rcases List.mem_cons.1 hu with rfl | hu
      · rfl
      · exact ih u hu
theorem cellsE_get (l : List Ent) (j : Nat) (hj : j < l.length) : (cellsE l)[j * 2]? = some (.int .i64 l[j].1) ∧ (cellsE l)[j * 2 + 1]? = some (.string l[j].2) := by
  induction l generalizing j with
  | nil => simp at hj
  | cons x l ih =>
    rw [cellsE_cons]
    cases j with
    | zero => exact ⟨rfl, rfl⟩
    | succ j =>
      rw [show (j + 1) * 2 = j * 2 + 1 + 1 by omega]
      simp only [List.getElem?_cons_succ, List.getElem_cons_succ]
      exact ih j (by simpa using hj)

/-- The slice v holds the events l. -/
def EntsAt (w : World) (v : Value) (l : List Ent) : Prop :=
  ∃ ao cap, v = .slice ao l.length cap ∧ (0 < l.length → ∃ b o, ao = some ⟨b, o, none⟩ ∧ b < w.heap.size ∧ ∀ j (h : j < l.length), w.cell? ⟨b, o + j * 2, none⟩ = some (.int .i64 l[j].1) ∧ w.cell? ⟨b, o + j * 2 + 1, none⟩ = some (.string l[j].2))
theorem EntsAt.below {w w' : World} {v : Value} {l : List Ent} (h : EntsAt w v l) (hb : Below w.heap.size w w') : EntsAt w' v l := by
  obtain ⟨ao, cap, rfl, h⟩ := h
  refine ⟨ao, cap, rfl, fun hl => ?_⟩
  obtain ⟨b, o, rfl, hlt, hc⟩ := h hl
  exact ⟨b, o, rfl, Nat.lt_of_lt_of_le hlt hb.size, fun j hj => ⟨(hb.cell (p := ⟨b, o + j * 2, none⟩) hlt).trans (hc j hj).1, (hb.cell (p := ⟨b, o + j * 2 + 1, none⟩) hlt).trans (hc j hj).2⟩⟩
theorem EntsAt.of_owns {w : World} {base : Nat} {v : Value} {n : Nat} {l : List Ent} (h : w.ownsRow base 82 2 v n (cellsE l)) : EntsAt w v l := by
  have hn : l.length = n := by have := h.1; rw [cellsE_length] at this; omega
  subst hn
  rcases h.2 with ⟨rfl, h0⟩ | ⟨g, cap, cur, rfl, _, hgg, _, _, _, htake⟩
  · exact ⟨none, 0, by rw [h0], fun hl => by omega⟩
  · refine ⟨_, cap, rfl, fun _ => ⟨g, 0, rfl, lt_of_heap hgg, fun j hj => ?_⟩⟩
    obtain ⟨e0, e1⟩ := cellsE_get l j hj
    rw [cell_of_row _ _ _ _ _ _ hgg, cell_of_row _ _ _ _ _ _ hgg]
    rw [← htake, List.getElem?_take] at e0 e1
    split at e0
    · split at e1
      · exact ⟨by simpa using e0, by simpa using e1⟩
      · cases e1
    · cases e0

theorem ents_get {w : World} {ao : Option Addr} {cap : Nat} {l : List Ent} (h : EntsAt w (.slice ao l.length cap) l) (j : Nat) (hj : j < l.length) : ∃ b o, ao = some ⟨b, o, none⟩ ∧ b < w.heap.size ∧ w.cell? ⟨b, o + j * 2, none⟩ = some (.int .i64 l[j].1) ∧ w.cell? ⟨b, o + j * 2 + 1, none⟩ = some (.string l[j].2) := by
  obtain ⟨ao', cap', e, h⟩ := h
  simp only [Value.slice.injEq] at e
  obtain ⟨rfl, -, rfl⟩ := e
  obtain ⟨b, o, rfl, hlt, hc⟩ := h (by omega)
  exact ⟨b, o, rfl, hlt, hc j hj⟩

set_option maxRecDepth 100000 in
set_option maxHeartbeats 1000000 in
theorem bsearch_any (l : List Ent) (t : Ent) (v : Value) (w : World) (hs : SortE l) (hv : EntsAt w v l) (hl : l.length ≤ 1000000) :
    Calls Tryz.prog 159 #[v, entV t, .func (.func 160) #[] #[]] w fun e w' => e = .returned (.tuple #[.int .i64 (placeE l t), .bool (hasE l t)]) ∧ Below w.heap.size w w' := by
  obtain ⟨ao, cap, rfl, _⟩ := id hv
  obtain ⟨ti, ts⟩ := t
  have HS : Hid (SortE l) := hs
  have HV : Hid (EntsAt w (.slice ao l.length cap) l) := hv
  clear hs hv
  unfold entV
  go_enter Tryz.func159, Tryz.ntmps159
  go_wp2
  go_loopw [9, 10] (fun i j wr => ∃ a b : Nat, a ≤ b ∧ b ≤ l.length ∧ i = .int .i64 a ∧ j = .int .i64 b ∧ Hid (∀ k (hk : k < l.length), k < a → cmpE l[k] (ti, ts) < 0) ∧ Hid (∀ k (hk : k < l.length), b ≤ k → 0 ≤ cmpE l[k] (ti, ts)) ∧ Below (w.heap.size + 1) (w.alloc (.cells #[.int .i64 ti, .string ts] 82)) wr) (fun i j _ => (intOf j).toNat - (intOf i).toNat)
  case atStart => exact ⟨0, l.length, by omega, by omega, rfl, rfl, fun k _ h => by omega, fun k hk h => by omega, Below.refl _ _⟩
  case round =>
    obtain ⟨a, b, hab, hbl, rfl, rfl, H1, H2, hb⟩ := hrel
    have hbw : Below w.heap.size w wr := ((Below.refl _ _).alloc (Nat.le_refl _) _).trans (hb.mono (by omega))
    have hbs : w.heap.size + 1 ≤ wr.heap.size := by have := hb.size; simpa using this
    have t0 : wr.cell? ⟨w.heap.size, 0, none⟩ = some (.int .i64 ti) := (hb.cell (p := ⟨w.heap.size, 0, none⟩) (by simp)).trans (by rw [World.cell?_alloc_mark]; rfl)
    have t1 : wr.cell? ⟨w.heap.size, 1, none⟩ = some (.string ts) := (hb.cell (p := ⟨w.heap.size, 1, none⟩) (by simp)).trans (by rw [World.cell?_alloc_mark]; rfl)
    by_cases hlt : a < b
    · obtain ⟨h, hh⟩ : ∃ h : Nat, h = (a + b) / 2 := ⟨_, rfl⟩
      have hh1 : a ≤ h := by omega
      have hh2 : h < b := by omega
      have hhl : h < l.length := by omega
      obtain ⟨bb, oo, rfl, hbb, x0, x1⟩ := ents_get (EntsAt.below HV.out hbw) h hhl
      have hC : ∀ u : World, Calls Tryz.prog 160 #[.agg #[.int .i64 l[h].1, .string l[h].2], .agg #[.int .i64 ti, .string ts]] u fun e w' => e = .returned (.int .i64 (cmpE l[h] (ti, ts))) ∧ Below u.heap.size u w' := fun u => compareEntries_any l[h] (ti, ts) u
      have HX : Hid (∀ k (hk : k < l.length), k = h → cmpE l[k] (ti, ts) = cmpE l[h] (ti, ts)) := fun k hk e => by subst e; rfl
      have HY : Hid (∀ k (hk : k < l.length), k < h → cmpE l[k] l[h] < 0) := fun k hk e => HS.out k h hk hhl e
      have HZ : Hid (∀ k (hk : k < l.length), h < k → cmpE l[h] l[k] < 0) := fun k hk e => HS.out h k hhl hk e
      generalize l[h] = x at *
      go_wp2
      rw [show ((a : Int) + (b : Int)) / 2 = (h : Int) by omega]
      clear hh
      go_still_tail 6, (by kernel_rfl)
      generalize hwd : (World.mk wr.heap wr.tape (wr.drawn + 1) wr.os wr.output) = wd
      have hbd : Below (w.heap.size + 1) (w.alloc (.cells #[.int .i64 ti, .string ts] 82)) wd := by rw [← hwd]; exact hb.drew
      clear hwd t0 t1 x0 x1
      have hsd := hbd.size
      go_wp2_with fail
      refine (hC wd).mono ?_
      rintro e w2 ⟨rfl, hb2⟩
      have hb02 : Below (w.heap.size + 1) (w.alloc (.cells #[.int .i64 ti, .string ts] 82)) w2 := hbd.trans (hb2.mono (by simpa using hsd))
      clear hC hbd hb2 hb hbw
      by_cases hlx : cmpE x (ti, ts) < 0
      · go_wp2
        go_roundw
        case rel =>
          refine ⟨h + 1, b, by omega, hbl, by go_num, rfl, fun k hk hkh => ?_, H2, hb02⟩
          rcases Nat.lt_or_ge k h with q | q
          · exact cmpE_trans (HY.out k hk q) hlx
          · rw [HX.out k hk (by omega)]; exact hlx
        case measure => simp [intOf]; omega
      · have hge : 0 ≤ cmpE x (ti, ts) := by omega
        go_wp2
        go_roundw
        case rel =>
          refine ⟨a, h, hh1, by omega, rfl, rfl, H1, fun k hk hkh => ?_, hb02⟩
          rcases Nat.lt_or_ge h k with q | q
          · refine Int.not_lt.1 fun q2 => ?_
            have := cmpE_trans (HZ.out k hk q) q2
            omega
          · rw [HX.out k hk (by omega)]; omega
        case measure => simp [intOf]; omega
    · have hab' : a = b := by omega
      subst hab'
      have HP : Hid (a = placeE l (ti, ts)) := place_one HS.out (ti, ts) a hbl H1.out (fun k hk h => Int.not_lt.2 (H2.out k hk h))
      by_cases hin : a < l.length
      · obtain ⟨bb, oo, rfl, hbb, x0, x1⟩ := ents_get (EntsAt.below HV.out hbw) a hin
        have hC : ∀ u : World, Calls Tryz.prog 160 #[.agg #[.int .i64 l[a].1, .string l[a].2], .agg #[.int .i64 ti, .string ts]] u fun e w' => e = .returned (.int .i64 (cmpE l[a] (ti, ts))) ∧ Below u.heap.size u w' := fun u => compareEntries_any l[a] (ti, ts) u
        have HH : Hid (hasE l (ti, ts) = (cmpE l[a] (ti, ts) == 0)) := by show hasE l (ti, ts) = _; unfold hasE; rw [← HP.out, List.getElem?_eq_getElem hin]; rfl
        generalize l[a] = x at *
        have hai : (a : Int) < (l.length : Int) := by omega
        go_wp2
        go_region_held3 (fun u => u.cell? ⟨bb, oo + a * 2, none⟩ = some (.int .i64 x.1) ∧ u.cell? ⟨bb, oo + a * 2 + 1, none⟩ = some (.string x.2) ∧ u.cell? ⟨w.heap.size, 0, none⟩ = some (.int .i64 ti) ∧ u.cell? ⟨w.heap.size, 1, none⟩ = some (.string ts)) (first | exact ⟨x0, x1, t0, t1⟩ | (with_reducible assumption) | exact ⟨cell_keep x0 (Below.trans (Below.refl _ _).drew hb2), cell_keep x1 (Below.trans (Below.refl _ _).drew hb2), cell_keep t0 (Below.trans (Below.refl _ _).drew hb2), cell_keep t1 (Below.trans (Below.refl _ _).drew hb2)⟩ | fail)
          (first
            | (refine Calls.mono (hC _) ?_; rintro e w2 ⟨rfl, hb2⟩; have hq2 : Below w.heap.size w w2 := below_step (hbw.drew) hb2)
            | fail)
        all_goals go_wp2
        all_goals go_ret2
        all_goals exact ⟨by rw [HP.out, HH.out]; rfl, hq2⟩
      · have HH : Hid (hasE l (ti, ts) = false) := by show hasE l (ti, ts) = _; unfold hasE; rw [← HP.out, List.getElem?_eq_none (by omega)]; rfl
        have hge : l.length ≤ a := by omega
        have hd : decide ((a : Int) < (l.length : Int)) = false := decide_eq_false (by omega)
        go_wp2
        go_quiet (fail)
        have hbq := below_drewN hbw nq
        go_wp2
        go_ret2
        exact ⟨by rw [HP.out, HH.out]; rfl, hbq⟩
end Go.Proofs.YtlndinigbppafaaGreat
