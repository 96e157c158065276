/-
  Versions in memory; the walks of slices.Clone over versions and events.
-/
import Derived.Test.YtlndinigbppafaaGreatEntC
import Derived.Deep.AppendLies
import Derived.Laws.AppendOwnNone
import Derived.WalkLawsBesides
namespace Go.Proofs.YtlndinigbppafaaGreat
open Go.RowKit

theorem Tryz.infoEntE : (Tryz.prog.info? 82).map (fun i => (i.zero, i.size, i.bytes)) = some (some (.agg #[.int .i64 0, .string ByteArray.empty]), 2, 24) := by kernel_rfl
theorem Tryz.infoVer : (Tryz.prog.info? 89).map (fun i => (i.zero, i.size, i.bytes)) = some (some (.agg #[.int .i64 0, .int .i64 0]), 2, 16) := by kernel_rfl

theorem eql_nil (t e : TypeId) (a : Option Addr) (l c : Nat) (w : World) (h : Tryz.prog.underlying t = some (.slice e)) : (binOp .eql t (.slice a l c) (.slice none 0 0)).run Tryz.prog w = .ok (.bool a.isNone) w := by
  simp only [binOp]
  simp [run_equal_slice_nil w t e a l c h]

/-- Versions as cells. -/
def cellsV (l : List (Int × Int)) : List Value := (l.map fun x => [Value.int .i64 x.1, .int .i64 x.2]).flatten
theorem cellsV_length (l : List (Int × Int)) : (cellsV l).length = l.length * 2 := by
  induction l with
  | nil => rfl
  | cons x l ih => unfold cellsV at ih ⊢; rw [List.map_cons, List.flatten_cons, List.length_append, ih, List.length_cons]; simp; omega
theorem cellsV_append (a b : List (Int × Int)) : cellsV (a ++ b) = cellsV a ++ cellsV b := by unfold cellsV; rw [List.map_append, List.flatten_append]
theorem cellsV_cons (x : Int × Int) (l : List (Int × Int)) : cellsV (x :: l) = .int .i64 x.1 :: .int .i64 x.2 :: cellsV l := by unfold cellsV; rw [List.map_cons, List.flatten_cons]; rfl
theorem cellsV_one (l : List (Int × Int)) : ∀ u ∈ cellsV l, u.oneCell' = true := by
  induction l with
  | nil => intro u hu; cases hu
  | cons x l ih =>
    intro u hu
    rw [cellsV_cons] at hu
    rcases List.mem_cons.1 hu with rfl | hu
    · rfl
    · rcases List.mem_cons.1 hu with rfl | hu
      · rfl
      · exact ih u hu
theorem cellsV_get (l : List (Int × Int)) (j : Nat) (hj : j < l.length) : (cellsV l)[j * 2]? = some (.int .i64 l[j].1) ∧ (cellsV l)[j * 2 + 1]? = some (.int .i64 l[j].2) := by
  induction l generalizing j with
  | nil => simp at hj
  | cons x l ih =>
    rw [cellsV_cons]
    cases j with
    | zero => exact ⟨rfl, rfl⟩
    | succ j =>
      rw [show (j + 1) * 2 = j * 2 + 1 + 1 by omega]
      simp only [List.getElem?_cons_succ, List.getElem_cons_succ]
      exact ih j (by simpa using hj)
/-- The slice v holds the versions l. -/
def VersAt (w : World) (v : Value) (l : List (Int × Int)) : Prop :=
  ∃ ao cap, v = .slice ao l.length cap ∧ (0 < l.length → ∃ b o, ao = some ⟨b, o, none⟩ ∧ b < w.heap.size ∧ ∀ j (h : j < l.length), w.cell? ⟨b, o + j * 2, none⟩ = some (.int .i64 l[j].1) ∧ w.cell? ⟨b, o + j * 2 + 1, none⟩ = some (.int .i64 l[j].2))
theorem VersAt.below {w w' : World} {v : Value} {l : List (Int × Int)} (h : VersAt w v l) (hb : Below w.heap.size w w') : VersAt w' v l := by
  obtain ⟨ao, cap, rfl, h⟩ := h
  refine ⟨ao, cap, rfl, fun hl => ?_⟩
  obtain ⟨b, o, rfl, hlt, hc⟩ := h hl
  exact ⟨b, o, rfl, Nat.lt_of_lt_of_le hlt hb.size, fun j hj => ⟨(hb.cell (p := ⟨b, o + j * 2, none⟩) hlt).trans (hc j hj).1, (hb.cell (p := ⟨b, o + j * 2 + 1, none⟩) hlt).trans (hc j hj).2⟩⟩
theorem VersAt.of_owns {w : World} {base : Nat} {v : Value} {n : Nat} {l : List (Int × Int)} (h : w.ownsRow base 89 2 v n (cellsV l)) : VersAt w v l := by
  have hn : l.length = n := by have := h.1; rw [cellsV_length] at this; omega
  subst hn
  rcases h.2 with ⟨rfl, h0⟩ | ⟨g, cap, cur, rfl, _, hgg, _, _, _, htake⟩
  · exact ⟨none, 0, by rw [h0], fun hl => by omega⟩
  · refine ⟨_, cap, rfl, fun _ => ⟨g, 0, rfl, lt_of_heap hgg, fun j hj => ?_⟩⟩
    obtain ⟨e0, e1⟩ := cellsV_get l j hj
    rw [cell_of_row _ _ _ _ _ _ hgg, cell_of_row _ _ _ _ _ _ hgg]
    rw [← htake, List.getElem?_take] at e0 e1
    split at e0
    · split at e1
      · exact ⟨by simpa using e0, by simpa using e1⟩
      · cases e1
    · cases e0

set_option maxRecDepth 100000 in
set_option maxHeartbeats 1000000 in
theorem cloneE_any (l : List Ent) (V : Value) (b0 : Nat) (w : World) (hO : w.ownsRow b0 82 2 V l.length (cellsE l)) (hl : l.length ≤ 100000) (hnil : l.length = 0 → V = .slice none 0 0) :
    Calls Tryz.prog 63 #[V] w fun e w' => ∃ V', e = .returned V' ∧ EntsAt w' V' l ∧ Below w.heap.size w w' := by
  obtain ⟨i0, hi, hz0, hz1, hz2⟩ := info_parts Tryz.infoEntE
  rcases hO.2 with ⟨rfl, h0⟩ | ⟨g, cap, cur, rfl, hbg, hgg, hle, hmax, hsz, htake⟩
  · have hln : l = [] := List.eq_nil_of_length_eq_zero (by omega)
    subst hln
    have hq := eql_nil 31 82 none 0 0 w Tryz.underlying31
    go_enter Tryz.func63, Tryz.ntmps63
    go_wp2
    go_ret
    exact ⟨_, rfl, ⟨none, 0, rfl, fun h => by simp at h⟩, Below.refl _ _⟩
  · have hq := eql_nil 31 82 (some ⟨g, 0, none⟩) l.length cap w Tryz.underlying31
    have hN : (w.alloc (.cells #[] 82)).ownsRow w.heap.size 82 2 (.slice (some ⟨w.heap.size, 0, none⟩) 0 0) 0 [] := ⟨rfl, .inr ⟨w.heap.size, 0, #[], rfl, Nat.le_refl _, heap_alloc_new w _, Nat.le_refl _, Nat.zero_le _, rfl, rfl⟩⟩
    have hsrc : ∀ j u, (cellsE l)[j]? = some u → (w.alloc (.cells #[] 82)).cell? ((⟨g, 0, none⟩ : Addr).add j) = some u := fun j v hj => by
      rw [show (⟨g, 0, none⟩ : Addr).add j = ⟨g, j, none⟩ by unfold Addr.add; split <;> simp_all]
      refine cell_keep (W := w) ?_ ((Below.refl _ _).alloc (Nat.le_refl _) _)
      rw [cell_of_row _ _ _ _ _ _ hgg]
      rw [← htake, List.getElem?_take] at hj
      split at hj
      · simpa using hj
      · cases hj
    have hA : Below w.heap.size w (w.alloc (.cells #[] 82)) := (Below.refl _ _).alloc (Nat.le_refl _) _
    by_cases h0 : l.length = 0
    · have := hnil h0
      cases this
    · go_enter Tryz.func63, Tryz.ntmps63
      go_wp2_with (at_builtin; refine wpList_append_lies _ rfl _ _ 31 rfl w.heap.size 82 i0 (.agg #[.int .i64 0, .string ByteArray.empty]) 2 24 Tryz.underlying31 hi hz0 hz1 hz2 rfl (by decide) (.slice (some ⟨w.heap.size, 0, none⟩) 0 0) 0 [] rfl hN ⟨g, 0, none⟩ l.length cap (cellsE l) rfl (cellsE_length l) hsrc (cellsE_one l) (by omega) (by unfold maxLen; omega) (by omega) (by simp) _ rfl ?_)
      intro g2 cp w2 hown hgrow hat hlt
      have hE : EntsAt w2 (.slice (some ⟨g2, 0, none⟩) l.length cp) l := EntsAt.of_owns (n := l.length) (by simpa using hown)
      have hB : Below w.heap.size w w2 := hA.grown hgrow (by simp) (fun k hk => by simp [Value.ownBlock] at hk; omega)
      clear hown hgrow hat hN hsrc
      go_wp2
      go_ret
      exact ⟨_, rfl, hE, hB⟩

set_option maxRecDepth 100000 in
set_option maxHeartbeats 1000000 in
theorem cloneV_any (l : List (Int × Int)) (V : Value) (b0 : Nat) (w : World) (hO : w.ownsRow b0 89 2 V l.length (cellsV l)) (hl : l.length ≤ 100000) (hnil : l.length = 0 → V = .slice none 0 0) :
    Calls Tryz.prog 66 #[V] w fun e w' => ∃ V', e = .returned V' ∧ VersAt w' V' l ∧ Below w.heap.size w w' := by
  obtain ⟨i0, hi, hz0, hz1, hz2⟩ := info_parts Tryz.infoVer
  rcases hO.2 with ⟨rfl, h0⟩ | ⟨g, cap, cur, rfl, hbg, hgg, hle, hmax, hsz, htake⟩
  · have hln : l = [] := List.eq_nil_of_length_eq_zero (by omega)
    subst hln
    have hq := eql_nil 28 89 none 0 0 w Tryz.underlying28
    go_enter Tryz.func66, Tryz.ntmps66
    go_wp2
    go_ret
    exact ⟨_, rfl, ⟨none, 0, rfl, fun h => by simp at h⟩, Below.refl _ _⟩
  · have hq := eql_nil 28 89 (some ⟨g, 0, none⟩) l.length cap w Tryz.underlying28
    have hN : (w.alloc (.cells #[] 89)).ownsRow w.heap.size 89 2 (.slice (some ⟨w.heap.size, 0, none⟩) 0 0) 0 [] := ⟨rfl, .inr ⟨w.heap.size, 0, #[], rfl, Nat.le_refl _, heap_alloc_new w _, Nat.le_refl _, Nat.zero_le _, rfl, rfl⟩⟩
    have hsrc : ∀ j u, (cellsV l)[j]? = some u → (w.alloc (.cells #[] 89)).cell? ((⟨g, 0, none⟩ : Addr).add j) = some u := fun j v hj => by
      rw [show (⟨g, 0, none⟩ : Addr).add j = ⟨g, j, none⟩ by unfold Addr.add; split <;> simp_all]
      refine cell_keep (W := w) ?_ ((Below.refl _ _).alloc (Nat.le_refl _) _)
      rw [cell_of_row _ _ _ _ _ _ hgg]
      rw [← htake, List.getElem?_take] at hj
      split at hj
      · simpa using hj
      · cases hj
    have hA : Below w.heap.size w (w.alloc (.cells #[] 89)) := (Below.refl _ _).alloc (Nat.le_refl _) _
    by_cases h0 : l.length = 0
    · have := hnil h0
      cases this
    · go_enter Tryz.func66, Tryz.ntmps66
      go_wp2_with (at_builtin; refine wpList_append_lies _ rfl _ _ 28 rfl w.heap.size 89 i0 (.agg #[.int .i64 0, .int .i64 0]) 2 16 Tryz.underlying28 hi hz0 hz1 hz2 rfl (by decide) (.slice (some ⟨w.heap.size, 0, none⟩) 0 0) 0 [] rfl hN ⟨g, 0, none⟩ l.length cap (cellsV l) rfl (cellsV_length l) hsrc (cellsV_one l) (by omega) (by unfold maxLen; omega) (by omega) (by simp) _ rfl ?_)
      intro g2 cp w2 hown hgrow hat hlt
      have hE : VersAt w2 (.slice (some ⟨g2, 0, none⟩) l.length cp) l := VersAt.of_owns (n := l.length) (by simpa using hown)
      have hB : Below w.heap.size w w2 := hA.grown hgrow (by simp) (fun k hk => by simp [Value.ownBlock] at hk; omega)
      clear hown hgrow hat hN hsrc
      go_wp2
      go_ret
      exact ⟨_, rfl, hE, hB⟩
end Go.Proofs.YtlndinigbppafaaGreat
