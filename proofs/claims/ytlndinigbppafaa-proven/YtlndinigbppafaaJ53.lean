/-
  Texts of ours, joined: LwD, SdA, SdB, SdC, SpA, SpB, SpC, SpD, PvA, PvB, PvC, ArgIn.
-/
import Derived.Test.YtlndinigbppafaaJ52
import Derived.BigQuiet
import Derived.Test.YtlndinigbppafaaJ46
import Derived.Test.YtlndinigbppafaaRows
import Derived.ProofKit
import Derived.SliceStrings
/-
  The document's tree of a proof: the walk of steleref.Tree, whole.
-/
namespace Go.Proofs.Ytlndinigbppafaa
open Go.RowKit

/-- The rule of a message's kind. -/
def ruleK (k M : Int) : Nat → Nat → Bool := if k = 2 then ruleG M else ruleM M

theorem kind_stub {k M : Int} {n p d : Nat} (h : ruleK k M p d = true) : kindOf k M n p d = 0 := by
  unfold kindOf
  rw [if_pos]
  unfold ruleK at h
  split at h
  · rename_i hk
    rw [if_pos hk]
    unfold ruleG at h
    simp only [Bool.or_eq_true, decide_eq_true_eq] at h
    omega
  · rename_i hk
    rw [if_neg hk]
    unfold ruleM at h
    simp only [Bool.or_eq_true, Bool.not_eq_true', decide_eq_false_iff_not] at h
    omega
theorem kind_more {k M : Int} {n p d : Nat} (h : ¬ ruleK k M p d = true) : kindOf k M n p d = if d = 0 then 1 else if (p : Int) + pw (d - 1) < n then 2 else 3 := by
  unfold kindOf
  rw [if_neg]
  unfold ruleK at h
  split at h
  · rename_i hk
    rw [if_pos hk]
    unfold ruleG at h
    simp only [Bool.or_eq_true, decide_eq_true_eq] at h
    omega
  · rename_i hk
    rw [if_neg hk]
    unfold ruleM at h
    simp only [Bool.or_eq_true, Bool.not_eq_true', decide_eq_false_iff_not] at h
    omega

theorem tree_ref (evs : List ByteArray) (n : Nat) (hn : n ≤ evs.length) (hl : evs.length ≤ 65535) (hs : ∀ s ∈ evs, s.size ≤ 255) (V : Value) (k M R : Int) (T : Value) (d : Nat) (hd : d ≤ 16) :
    ∀ (p : Nat) (P D : Int) (w : World), P = p → D = d → p < n → StringsAt w V evs → Calls Try.prog 51 #[V, .agg #[.int .i64 k, .int .i64 M, .int .i64 n, .int .i64 R, T], .int .i64 P, .int .i64 D] w fun e w' => TreeR w (pruneN (evs.take n) (ruleK k M) d p) e w' := by
  have hln : (evs.take n).length = n := by rw [List.length_take]; omega
  induction d with
  | zero =>
    intro p P D w eP eD hp hV
    have : D = 0 := by omega
    subst this
    unfold pruneN
    by_cases hr : ruleK k M p 0 = true
    · rw [if_pos hr]
      exact tree_stub evs n 0 p P 0 k M R T V w eP rfl hd hp hn hl hs hV (kind_stub hr)
    · rw [if_neg hr]
      have := tree_leaf evs n p P k M R T V w eP hp hn hl hV (by rw [kind_more hr, if_pos rfl])
      have e : evAt (evs.take n) p = evs[p]'(by omega) := by
        unfold evAt
        rw [List.getElem?_take, if_pos hp, List.getElem?_eq_getElem (by omega)]
        rfl
      rw [e]
      exact this
  | succ d ih =>
    intro p P D w eP eD hp hV
    have h16 : pw d ≤ 65536 := pw_le (e := 16) (by omega)
    have L := pruneN_len (evs.take n) (ruleK k M) d
    unfold pruneN
    by_cases hr : ruleK k M p (d + 1) = true
    · rw [if_pos hr]
      exact tree_stub evs n (d + 1) p P D k M R T V w eP (by omega) hd hp hn hl hs hV (kind_stub hr)
    · rw [if_neg hr, hln]
      have hk := kind_more (n := n) hr
      rw [if_neg (by omega), Nat.add_sub_cancel] at hk
      have l1 := L p
      by_cases hR : p + pw d < n
      · rw [if_pos hR]
        rw [if_pos (by omega)] at hk
        have l2 := L (p + pw d)
        exact tree_two evs n d p P D k M R T V _ _ w eP (by omega) hd hp hn hl hV (by omega) (by omega) (by omega) (by omega) hR hk (fun w D eD hV => ih (by omega) p p D w rfl eD hp hV) (fun w P D eP eD hV => ih (by omega) (p + pw d) P D w eP eD hR hV)
      · rw [if_neg hR]
        rw [if_neg (by omega)] at hk
        exact tree_alone evs n d p P D k M R T V _ w eP (by omega) hd hp hn hl hV (by omega) (by omega) hk (fun w D eD hV => ih (by omega) p p D w rfl eD hp hV)
end Go.Proofs.Ytlndinigbppafaa

/-
  The statements' own side of a log: what it is; begun, version, num.
-/
namespace Go.Proofs.Ytlndinigbppafaa
open Go.RowKit

/-- A side: its own block, its log, its list of events. -/
structure SideAt (w : World) (b0 C B : Nat) (S L : Value) (evs : List ByteArray) : Prop where
  low : b0 ≤ C
  blk : w.heap[C]? = some (.cells #[.pointer (some ⟨B, 0, none⟩), L] 67 (0, 0))
  log : LogAt w b0 B S evs
  row : w.ownsRow b0 9 1 L evs.length (strs8 evs)
  apart : ∀ g, L.ownBlock = some g → S.ownBlock ≠ some g

section
variable {w w' : World} {b0 C B : Nat} {S L : Value} {evs : List ByteArray}
theorem SideAt.below (h : SideAt w b0 C B S L evs) (hb : Below w.heap.size w w') : SideAt w' b0 C B S L evs :=
  ⟨h.low, by rw [hb.block C (lt_of_heap h.blk)]; exact h.blk, h.log.below hb, owns_below h.row hb, h.apart⟩
theorem SideAt.cells (h : SideAt w b0 C B S L evs) : w.cell? ⟨C, 0, none⟩ = some (.pointer (some ⟨B, 0, none⟩)) ∧ w.cell? ⟨C, 1, none⟩ = some L ∧ w.frozen? ⟨C, 1, none⟩ = false := by
  refine ⟨?_, ?_, ?_⟩
  · rw [cell_of_row _ _ _ _ _ _ h.blk]; rfl
  · rw [cell_of_row _ _ _ _ _ _ h.blk]; rfl
  · unfold World.frozen?; rw [h.blk]; rfl
theorem owns_strings (h : w.ownsRow b0 9 1 L evs.length (strs8 evs)) : ∃ ao cap, L = .slice ao evs.length cap ∧ StringsAt w L evs := by
  rcases h.2 with ⟨rfl, h0⟩ | ⟨g, cap, cur, rfl, _, hg, _, _, _, ht⟩
  · exact ⟨none, 0, by rw [h0], none, 0, by rw [h0], fun q => by omega⟩
  · refine ⟨_, cap, rfl, _, cap, rfl, fun _ => ⟨g, 0, rfl, lt_of_heap hg, fun j hj => ?_⟩⟩
    rw [cell_of_row _ _ _ _ _ _ hg, Nat.zero_add]
    have h1 : (strs8 evs)[j]? = some (.string evs[j]) := by simp [strs8, hj]
    rw [← ht, List.getElem?_take, if_pos (by omega)] at h1
    simpa using h1
end

set_option maxRecDepth 100000 in
set_option maxHeartbeats 400000 in
theorem num_law (x : Int) (w : World) : Calls Try.prog 32 #[.int .i64 x] w fun e w' => e = .returned (.int .i64 x) ∧ w' = w := by
  go_enter Try.func32, Try.ntmps32
  go_wp2
  go_ret
  exact ⟨rfl, rfl⟩

set_option maxRecDepth 100000 in
set_option maxHeartbeats 400000 in
theorem begun_any (w : World) :
    Calls Try.prog 12 #[] w fun e w' => e = .returned (.tuple #[.pointer (some ⟨w.heap.size + 1, 0, none⟩), .bool true]) ∧ SideAt w' w.heap.size (w.heap.size + 1) w.heap.size (.slice none 0 0) (.slice none 0 0) [] ∧ Below w.heap.size w w' := by
  go_enter Try.func12, Try.ntmps12
  go_wp2_with fail
  refine (newLog_any w).mono ?_
  rintro e w1 ⟨rfl, hl, hb, hsz⟩
  go_wp2
  go_ret2
  have hx : Below w1.heap.size w1 (w1.alloc (.cells #[.pointer (some ⟨w.heap.size, 0, none⟩), .slice none 0 0] 67)) := (Below.refl _ _).alloc (Nat.le_refl _) _
  refine ⟨?_, ⟨by omega, ?_, hl.below hx, World.ownsRow_nil _ _ _ _, fun g hg => by cases hg⟩, hb.trans (hx.mono hb.size)⟩
  · rw [← hsz]; rfl
  · rw [← hsz]; exact heap_alloc_new w1 _

set_option maxRecDepth 100000 in
set_option maxHeartbeats 400000 in
theorem version_side (w : World) (b0 C B : Nat) (S L : Value) (evs : List ByteArray) (n : Int) (h : SideAt w b0 C B S L evs) :
    Calls Try.prog 31 #[.pointer (some ⟨C, 0, none⟩), .int .i64 n] w fun e w' => e = .returned (.bool (decide (1 ≤ n ∧ n ≤ evs.length))) ∧ w' = w := by
  obtain ⟨c0, c1, _⟩ := h.cells
  obtain ⟨ao, cap, rfl, _⟩ := owns_strings h.row
  by_cases h1 : 1 ≤ n
  · by_cases h2 : n ≤ evs.length
    · have hd : decide (1 ≤ n ∧ n ≤ (evs.length : Int)) = true := decide_eq_true ⟨h1, h2⟩
      rw [hd]
      go_enter Try.func31, Try.ntmps31
      go_wp2
      go_ret
      exact ⟨rfl, rfl⟩
    · have hd : decide (1 ≤ n ∧ n ≤ (evs.length : Int)) = false := decide_eq_false (by omega)
      rw [hd]
      have h3 : (evs.length : Int) < n := by omega
      go_enter Try.func31, Try.ntmps31
      go_wp2
      go_ret
      exact ⟨rfl, rfl⟩
  · have hd : decide (1 ≤ n ∧ n ≤ (evs.length : Int)) = false := decide_eq_false (by omega)
    rw [hd]
    have h3 : n < 1 := by omega
    go_enter Try.func31, Try.ntmps31
    go_wp2
    go_ret
    exact ⟨rfl, rfl⟩
end Go.Proofs.Ytlndinigbppafaa

/-
  The statements' own side of a log: what it wants of a message.
-/
namespace Go.Proofs.Ytlndinigbppafaa
open Go.RowKit

/-- A row of nodes, where a cell of an elder block is written. -/
theorem nodes_put {w : World} {b0 b : Nat} {v : Value} {ns : List PN} (h : w.ownsRow b0 100 3 v ns.length (cellsN ns)) (hb : b < b0) (x : Value) : NodesG (w.setCell ⟨b, 4, none⟩ x) v ns := by
  have h2 : (w.setCell ⟨b, 4, none⟩ x).ownsRow b0 100 3 v ns.length (cellsN ns) := by
    obtain ⟨h1, h2⟩ := h
    refine ⟨h1, h2.imp id fun ⟨g, cap, cur, e, hg, hh, r⟩ => ⟨g, cap, cur, e, hg, ?_, r⟩⟩
    rw [Below.heap_setCell _ _ _ _ (by show g ≠ b; omega)]
    exact hh
  exact (NodesAt.of_owns h2).any

set_option maxRecDepth 100000 in
set_option maxHeartbeats 2000000 in
theorem want_member (w : World) (b0 C B : Nat) (S L : Value) (evs : List ByteArray) (n m : Nat) (h : SideAt w b0 C B S L evs) (h1 : 1 ≤ n) (h2 : n ≤ evs.length) (hm : m < n) (hl : evs.length ≤ 500) (hs : ∀ s ∈ evs, s.size ≤ 50) :
    Calls Try.prog 35 #[.pointer (some ⟨C, 0, none⟩), .int .i64 3, .int .i64 m, .int .i64 n] w fun e w' => e = .returned (.tuple #[.string ⟨(memberB (evs.take n) m).toArray⟩, .bool true]) ∧ Below w.heap.size w w' := by
  have hss : ∀ s ∈ evs, s.size ≤ 255 := fun s q => by have := hs s q; omega
  have hln : (evs.take n).length = n := by rw [List.length_take]; omega
  have hd16 : dep n ≤ 16 := dep_le _ 16 (by rw [pw_16]; omega)
  have hsm := small_prune (evs.take n) (ruleM m) 3 m 0 (by omega) (by omega) (by omega) (by omega) (take_small hss)
  rw [hln] at hsm
  have HS : Hid _ := hsm
  clear hsm
  have HM : Hid (memberB (evs.take n) m = encM 3 m n 0 (pruneN (evs.take n) (ruleK 3 m) (dep n) 0)) := by show _ = _; unfold memberB; rw [hln]; rfl
  have HV := version_side w b0 C B S L evs n h
  rw [decide_eq_true (show 1 ≤ (n : Int) ∧ (n : Int) ≤ evs.length by omega)] at HV
  obtain ⟨c0, c1, _⟩ := h.cells
  obtain ⟨ao, cap, rfl, hst⟩ := owns_strings h.row
  have i1 : (m : Int) < (n : Int) := by omega
  have i2 : ¬ ((m : Int) < 0) := by omega
  have DP : ∀ w' : World, Calls Try.prog 34 #[.int .i64 n] w' fun e w'' => e = .returned (.int .i64 (dep n)) ∧ w'' = w' := fun w' => depth_any n w' (by omega)
  go_enter Try.func35, Try.ntmps35
  go_wp2_with fail
  refine HV.mono ?_
  rintro e w' ⟨rfl, rfl⟩
  have hX : Below w'.heap.size w' (w'.alloc (.cells #[.int .i64 3, .int .i64 m, .int .i64 n, .int .i64 0, .slice none 0 0] 42)) := (Below.refl _ _).alloc (Nat.le_refl _) _
  have d0 := cell_keep c0 hX
  have d1 := cell_keep c1 hX
  have HST : Hid _ := StringsAt.below hst hX
  have HN : Hid _ := heap_alloc_new w' (.cells #[.int .i64 3, .int .i64 m, .int .i64 n, .int .i64 0, .slice none 0 0] 42)
  have hM0 : MsgBox (w'.alloc (.cells #[.int .i64 3, .int .i64 m, .int .i64 n, .int .i64 0, .slice none 0 0] 42)) w'.heap.size 3 m n 0 (.slice none 0 0) := by refine ⟨?_, ?_, ?_, ?_, ?_⟩ <;> simp
  have HX : Hid _ := hX
  clear hX HV
  go_wp2
  have hw0 := HX.out
  have hst0 := HST.out
  have hn0 := HN.out
  clear HX HST HN c0 c1 hst
  generalize w'.alloc (.cells #[.int .i64 3, .int .i64 m, .int .i64 n, .int .i64 0, .slice none 0 0] 42) = X at hM0 hw0 hst0 hn0 d0 d1 ⊢
  obtain ⟨m0, m1, m2, m3, m4⟩ := hM0
  go_still_tail 7, (by kernel_rfl)
  still_call (DP _)
  repeat still_step
  refine wpStill_nil ?_
  generalize hwd : (World.mk X.heap X.tape (X.drawn + 1) X.os X.output) = wd
  have hbd : Below X.heap.size X wd := by rw [← hwd]; exact (Below.refl _ _).drew
  have hbz : wd.heap.size = X.heap.size := by rw [← hwd]
  clear hwd
  go_wp2_with fail
  refine (tree_ref evs n h2 (by omega) hss (.slice ao evs.length cap) 3 m 0 (.slice none 0 0) (dep n) hd16 0 0 (dep n) wd rfl rfl (by omega) (StringsAt.below hst0 hbd)).mono ?_
  rintro e w2 ⟨v2, rfl, hO2, hb2⟩
  have hN2 : w2.heap[w'.heap.size]? = some (.cells #[.int .i64 3, .int .i64 m, .int .i64 n, .int .i64 0, .slice none 0 0] 42) := by
    rw [hb2.block _ (by rw [hbz]; exact lt_of_heap hn0), hbd.block _ (lt_of_heap hn0)]; exact hn0
  have hlt := lt_of_heap hn0
  have q0 : w2.cell? ⟨w'.heap.size, 0, none⟩ = some (.int .i64 3) := by rw [cell_of_row _ _ _ _ _ _ hN2]; rfl
  have q1 : w2.cell? ⟨w'.heap.size, 1, none⟩ = some (.int .i64 m) := by rw [cell_of_row _ _ _ _ _ _ hN2]; rfl
  have q2 : w2.cell? ⟨w'.heap.size, 2, none⟩ = some (.int .i64 n) := by rw [cell_of_row _ _ _ _ _ _ hN2]; rfl
  have q3 : w2.cell? ⟨w'.heap.size, 3, none⟩ = some (.int .i64 0) := by rw [cell_of_row _ _ _ _ _ _ hN2]; rfl
  have q4 : w2.cell? ⟨w'.heap.size, 4, none⟩ = some (.slice none 0 0) := by rw [cell_of_row _ _ _ _ _ _ hN2]; rfl
  have qz : w2.frozen? ⟨w'.heap.size, 4, none⟩ = false := by unfold World.frozen?; rw [hN2]; rfl
  have hB2 : Below w'.heap.size w' w2 := (hw0.trans (hbd.mono hw0.size)).trans (hb2.mono (by rw [hbz]; exact hw0.size))
  have HO : Hid _ := nodes_put hO2 (by rw [hbz]; omega) v2
  clear m0 m1 m2 m3 m4 d0 d1 hst0 hn0 hb2 hbd DP
  obtain ⟨g, cp, rfl⟩ : ∃ g cp, v2 = .slice (some ⟨g, 0, none⟩) (pruneN (evs.take n) (ruleK 3 m) (dep n) 0).length cp := by
    have := (pruneN_len (evs.take n) (ruleK 3 m) (dep n) 0).1
    rcases hO2.2 with ⟨_, h0⟩ | ⟨g, cp, cur, rfl, _⟩
    · omega
    · exact ⟨g, cp, rfl⟩
  go_wp2_with fail
  refine (refBytes_any 3 m n 0 _ _ _ HO.out HS.out).mono ?_
  rintro e w5 ⟨rfl, hb5⟩
  have hB4 : Below w'.heap.size w' (w2.setCell ⟨w'.heap.size, 4, none⟩ (.slice (some ⟨g, 0, none⟩) (pruneN (evs.take n) (ruleK 3 m) (dep n) 0).length cp)) := hB2.setCell (Nat.le_refl _) _
  have hB5 := hB4.trans (hb5.mono hB4.size)
  go_wp2
  go_ret2
  exact ⟨by rw [HM.out]; rfl, hB5⟩
end Go.Proofs.Ytlndinigbppafaa

/-
  The statements' own side of a log: an event is laid.
-/
namespace Go.Proofs.Ytlndinigbppafaa
open Go.RowKit

/-- What the events are behind it. -/
def layL (evs : List ByteArray) (s : ByteArray) : List ByteArray := if 50 < s.size then evs else if 500 ≤ evs.length then evs else evs ++ [s]

set_option maxRecDepth 100000 in
set_option maxHeartbeats 2000000 in
theorem lay_long (w : World) (b0 C B : Nat) (S L : Value) (evs : List ByteArray) (s : ByteArray) (h : SideAt w b0 C B S L evs) (hs : 50 < s.size) (hm : s.size ≤ maxLen) :
    Calls Try.prog 15 #[.pointer (some ⟨C, 0, none⟩), .string s] w fun e w' => e = .returned (.bool true) ∧ Below w.heap.size w w' ∧ w'.heap = w.heap := by
  obtain ⟨c0, c1, _⟩ := h.cells
  obtain ⟨ao, cap, rfl, hst⟩ := owns_strings h.row
  have HL : Hid _ := h.log
  have hsi : 50 < (s.size : Int) := by omega
  unfold maxLen at hm
  clear hst
  go_enter Try.func15, Try.ntmps15
  go_wp2_with fail
  refine (append_long w _ _ _ _ s HL.out hs (by unfold maxLen; omega)).mono ?_
  rintro e w' ⟨rfl, rfl⟩
  go_wp2
  go_quiet (first
    | (go_at_call 32; exact Calls.quiet_of_same (num_law _ _))
    | (go_at_call 38; exact Calls.quiet_of_same (len_log _ _ _ _ _ (by exact HL.out))))
  go_wp2
  go_ret
  exact ⟨rfl, ⟨rfl, rfl, rfl, Nat.le_refl _, fun _ _ => rfl⟩, rfl⟩

set_option maxRecDepth 100000 in
set_option maxHeartbeats 2000000 in
theorem lay_many (w : World) (b0 C B : Nat) (S L : Value) (evs : List ByteArray) (s : ByteArray) (h : SideAt w b0 C B S L evs) (hl : evs.length = 500) (hs : s.size ≤ 50) :
    Calls Try.prog 15 #[.pointer (some ⟨C, 0, none⟩), .string s] w fun e w' => e = .returned (.bool true) ∧ Below w.heap.size w w' ∧ w'.heap = w.heap := by
  obtain ⟨c0, c1, _⟩ := h.cells
  obtain ⟨ao, cap, rfl, hst⟩ := owns_strings h.row
  have HL : Hid _ := h.log
  have hsi : (s.size : Int) ≤ 50 := by omega
  have hg : (500 : Int) ≤ (evs.length : Int) := by omega
  have H5 : Hid _ := hl
  clear hst hl
  go_enter Try.func15, Try.ntmps15
  go_wp2_with fail
  refine (append_many w _ _ _ _ s HL.out hs (by have := H5.out; omega) (by have := H5.out; omega)).mono ?_
  rintro e w' ⟨rfl, rfl⟩
  go_wp2
  go_quiet (first
    | (go_at_call 32; exact Calls.quiet_of_same (num_law _ _))
    | (go_at_call 38; exact Calls.quiet_of_same (len_log _ _ _ _ _ (by exact HL.out))))
  go_wp2
  go_ret
  exact ⟨rfl, ⟨rfl, rfl, rfl, Nat.le_refl _, fun _ _ => rfl⟩, rfl⟩

theorem ownB_of {w : World} {b0 n : Nat} {t : TypeId} {v : Value} {xs : List Value} (h : w.ownsRow b0 t 1 v n xs) {g : Nat} (hg : v.ownBlock = some g) : ∃ cur fr, w.heap[g]? = some (.cells cur t fr) := by
  rcases h.2 with ⟨rfl, _⟩ | ⟨g', cap, cur, rfl, _, hh, _⟩
  · cases hg
  · simp only [Value.ownBlock, Option.some.injEq] at hg
    subst hg
    exact ⟨cur, _, hh⟩
theorem ne_types {w : World} {a b : Nat} {c c' : Array Value} {t t' : TypeId} {f f' : Nat × Nat} (h : w.heap[a]? = some (.cells c t f)) (h' : w.heap[b]? = some (.cells c' t' f')) (ht : t ≠ t') : a ≠ b := by
  intro e
  subst e
  rw [h] at h'
  cases h'
  exact ht rfl

/-- The side, when its log has one event more. -/
theorem side_appended {w w1 : World} {b0 C B : Nat} {S S1 L : Value} {evs : List ByteArray} (h : SideAt w b0 C B S L evs) (hF : Frame2 w w1 B S.ownBlock) (hat : S1.ownBlock = S.ownBlock ∨ ∃ g, S1.ownBlock = some g ∧ w.heap.size ≤ g) :
    w1.heap[C]? = some (.cells #[.pointer (some ⟨B, 0, none⟩), L] 67 (0, 0)) ∧ w1.ownsRow b0 9 1 L evs.length (strs8 evs) ∧ (∀ g, L.ownBlock = some g → S1.ownBlock ≠ some g) ∧ Below b0 w w1 := by
  have hCl := lt_of_heap h.blk
  have hCB : C ≠ B := ne_types h.blk h.log.2.1 (by decide)
  have hCS : some C ≠ S.ownBlock := fun e => by
    obtain ⟨cur, fr, hh⟩ := ownB_of h.log.2.2 e.symm
    exact ne_types h.blk hh (by decide) rfl
  refine ⟨by rw [hF.block C hCl hCB hCS]; exact h.blk, ?_, fun g hg => ?_, ?_⟩
  · obtain ⟨r1, r2⟩ := h.row
    refine ⟨r1, r2.imp id fun ⟨g, cap, cur, e, hg, hh, r⟩ => ⟨g, cap, cur, e, hg, ?_, r⟩⟩
    have hgB : g ≠ B := ne_types hh h.log.2.1 (by decide)
    have hgS : some g ≠ S.ownBlock := fun q => h.apart g (by rw [e]; rfl) q.symm
    rw [hF.block g (lt_of_heap hh) hgB hgS]
    exact hh
  · obtain ⟨cur, fr, hh⟩ := ownB_of h.row hg
    have := lt_of_heap hh
    rcases hat with q | ⟨g', q, hq⟩
    · rw [q]; exact h.apart g hg
    · rw [q]; intro e; cases e; omega
  · refine hF.below h.log.1 (fun k hk => ?_) ?_
    · rcases h.log.2.2.2 with ⟨e, _⟩ | ⟨g, cap, cur, e, hg, _⟩
      · rw [e] at hk; cases hk
      · rw [e] at hk; simp only [Value.ownBlock, Option.some.injEq] at hk; omega
    · have := h.low; omega

/-- The side, when its list has one event more, too. -/
theorem side_laid {w1 w2 : World} {X : Obj} {b0 C B g cp : Nat} {S1 L : Value} {evs : List ByteArray} {s : ByteArray} (hlow : b0 ≤ C) (hC : w1.heap[C]? = some (.cells #[.pointer (some ⟨B, 0, none⟩), L] 67 (0, 0))) (hL1 : LogAt w1 b0 B S1 (evs ++ [s])) (hr1 : w1.ownsRow b0 9 1 L evs.length (strs8 evs)) (ha1 : ∀ g, L.ownBlock = some g → S1.ownBlock ≠ some g)
    (hO2 : w2.ownsRow b0 9 1 (.slice (some ⟨g, 0, none⟩) (evs.length + 1) cp) (evs.length + 1) (strs8 evs ++ [.string s])) (hg2 : (w1.alloc X).grownBy w2 L.ownBlock) (hat2 : L.ownBlock = some g ∨ g = w1.heap.size + 1) :
    SideAt (w2.setCell ⟨C, 1, none⟩ (.slice (some ⟨g, 0, none⟩) (evs.length + 1) cp)) b0 C B S1 (.slice (some ⟨g, 0, none⟩) (evs.length + 1) cp) (evs ++ [s]) ∧ Below b0 w1 (w2.setCell ⟨C, 1, none⟩ (.slice (some ⟨g, 0, none⟩) (evs.length + 1) cp)) := by
  have keep : ∀ k, k < w1.heap.size → some k ≠ L.ownBlock → w2.heap[k]? = w1.heap[k]? := fun k hk hne => by
    rw [hg2.block k (by simp; omega) hne, Below.heap_alloc _ _ _ hk]
  have neC : some C ≠ L.ownBlock := fun e => by
    obtain ⟨cur, fr, hh⟩ := ownB_of hr1 e.symm
    exact ne_types hC hh (by decide) rfl
  have neB : some B ≠ L.ownBlock := fun e => by
    obtain ⟨cur, fr, hh⟩ := ownB_of hr1 e.symm
    exact ne_types hL1.2.1 hh (by decide) rfl
  have hCl := lt_of_heap hC
  have hC2 : w2.heap[C]? = some (.cells #[.pointer (some ⟨B, 0, none⟩), L] 67 (0, 0)) := by rw [keep C hCl neC]; exact hC
  have other : ∀ k, k ≠ C → (w2.setCell ⟨C, 1, none⟩ (.slice (some ⟨g, 0, none⟩) (evs.length + 1) cp)).heap[k]? = w2.heap[k]? := fun k hk => Below.heap_setCell _ _ _ _ hk
  have hBl := lt_of_heap hL1.2.1
  have hBC : B ≠ C := ne_types hL1.2.1 hC (by decide)
  have hlen : (evs ++ [s]).length = evs.length + 1 := by simp
  have hgC : g ≠ C := by
    rcases hO2.2 with ⟨e, _⟩ | ⟨g', cap', cur, e, _, hh, _⟩
    · cases e
    · simp only [Value.slice.injEq, Option.some.injEq, Addr.mk.injEq] at e
      obtain ⟨⟨rfl, -, -⟩, -, -⟩ := e
      exact ne_types hh hC2 (by decide)
  refine ⟨⟨hlow, ?_, ⟨hL1.1, ?_, ?_⟩, ?_, fun g' hg' => ?_⟩, ⟨?_, ?_, ?_, ?_, fun k hk => ?_⟩⟩
  · simp [World.setCell, Array.getElem?_modify, hC2]
  · rw [other B hBC, keep B hBl neB]; exact hL1.2.1
  · obtain ⟨r1, r2⟩ := hL1.2.2
    refine ⟨r1, r2.imp id fun ⟨g1, cap1, cur, e, hge, hh, r⟩ => ⟨g1, cap1, cur, e, hge, ?_, r⟩⟩
    rw [other g1 (ne_types hh hC (by decide)), keep g1 (lt_of_heap hh) fun q => ha1 g1 q.symm (by rw [e]; rfl)]
    exact hh
  · rw [hlen, show strs8 (evs ++ [s]) = strs8 evs ++ [.string s] by simp [strs8]]
    obtain ⟨r1, r2⟩ := hO2
    refine ⟨r1, r2.imp id fun ⟨g1, cap1, cur, e, hge, hh, r⟩ => ⟨g1, cap1, cur, e, hge, ?_, r⟩⟩
    have : g1 = g := by
      simp only [Value.slice.injEq, Option.some.injEq, Addr.mk.injEq] at e
      exact e.1.1.symm
    rw [other g1 (by rw [this]; exact hgC)]
    exact hh
  · simp only [Value.ownBlock, Option.some.injEq] at hg'
    subst hg'
    rcases hat2 with q | q
    · exact ha1 g q
    · intro e
      obtain ⟨cur, fr, hh⟩ := ownB_of hL1.2.2 e
      have := lt_of_heap hh
      rw [q] at this
      omega
  · exact hg2.os
  · exact hg2.tape
  · exact hg2.output
  · have := hg2.size
    simp at this
    simp [World.setCell]
    omega
  · rw [other k (by omega), keep k (by omega) fun e => ?_]
    rcases hr1.2 with ⟨q, _⟩ | ⟨g', cap', cur, q, hq, _⟩
    · rw [q] at e; cases e
    · rw [q] at e
      simp only [Value.ownBlock, Option.some.injEq] at e
      omega

set_option maxRecDepth 100000 in
set_option maxHeartbeats 2000000 in
theorem lay_ok (w : World) (b0 C B : Nat) (S L : Value) (evs : List ByteArray) (s : ByteArray) (h : SideAt w b0 C B S L evs) (hb0 : b0 ≤ w.heap.size) (hl : evs.length < 500) (hs : s.size ≤ 50) :
    Calls Try.prog 15 #[.pointer (some ⟨C, 0, none⟩), .string s] w fun e w' => e = .returned (.bool true) ∧ ∃ S' L', SideAt w' b0 C B S' L' (evs ++ [s]) ∧ Below b0 w w' := by
  obtain ⟨i0, hi, hz0, hz1, hz2⟩ := info_parts Try.infoStr
  obtain ⟨c0, c1, _⟩ := h.cells
  have hsi : (s.size : Int) ≤ 50 := by omega
  have hg : (evs.length : Int) < 500 := by omega
  have HH : Hid _ := h
  obtain ⟨ao, cap, rfl, hst⟩ := owns_strings h.row
  clear hst
  go_enter Try.func15, Try.ntmps15
  go_wp2_with fail
  refine (append_ok w _ _ _ _ s HH.out.log hs (by omega) hb0).mono ?_
  rintro e w1 ⟨S1, rfl, hL1, hF1, hat1⟩
  obtain ⟨hC1, hr1, ha1, hb1⟩ := side_appended HH.out hF1 hat1
  have k0 : w1.cell? ⟨C, 0, none⟩ = some (.pointer (some ⟨B, 0, none⟩)) := by rw [cell_of_row _ _ _ _ _ _ hC1]; rfl
  have k1 : w1.cell? ⟨C, 1, none⟩ = some (.slice ao evs.length cap) := by rw [cell_of_row _ _ _ _ _ _ hC1]; rfl
  have hs1 : b0 ≤ w1.heap.size := Nat.le_trans hb0 hb1.size
  clear c0 c1 hF1 hat1
  go_wp2_with (at_builtin; refine wpList_append_lies _ rfl (.tmp 55) (.tmp 57) 22 rfl b0 9 i0 (.string ByteArray.empty) 1 16 Try.underlying22 hi hz0 hz1 hz2 rfl (by decide) _ _ _ rfl (hr1.alloc _) ⟨w1.heap.size, 0, none⟩ 1 1 [.string s] rfl rfl (World.news_of_block (heap_alloc_new w1 _)) (by intro u hu; simp at hu; subst hu; rfl) (by decide) (by unfold maxLen; omega) (by omega) (by simp; omega) _ rfl ?_)
  intro g cp w2 hO2 hg2 hat2 hlt2
  have hC2 : w2.heap[C]? = some (.cells #[.pointer (some ⟨B, 0, none⟩), .slice ao evs.length cap] 67 (0, 0)) := by
    rw [hg2.block C (by have := lt_of_heap hC1; simp; omega) (fun e => by
      obtain ⟨cur, fr, hh⟩ := ownB_of hr1 e.symm
      exact ne_types hC1 hh (by decide) rfl), Below.heap_alloc _ _ _ (lt_of_heap hC1)]
    exact hC1
  have z0 : w2.cell? ⟨C, 0, none⟩ = some (.pointer (some ⟨B, 0, none⟩)) := by rw [cell_of_row _ _ _ _ _ _ hC2]; rfl
  have z1 : w2.cell? ⟨C, 1, none⟩ = some (.slice ao evs.length cap) := by rw [cell_of_row _ _ _ _ _ _ hC2]; rfl
  have zz : w2.frozen? ⟨C, 1, none⟩ = false := by unfold World.frozen?; rw [hC2]; rfl
  obtain ⟨R1, R2⟩ := side_laid HH.out.low hC1 hL1 hr1 ha1 hO2 hg2 hat2
  obtain ⟨y0, y1, _⟩ := R1.cells
  have HR : Hid _ := R1
  have HB : Hid _ := hb1.trans R2
  have HLg : Hid _ := R1.log
  clear hC1 hr1 ha1 hb1 k0 k1 hL1 hC2 hO2 hg2 hat2 hlt2 R1 R2
  have e1 : ((evs.length : Int) == (evs.length : Int)) = true := beq_self_eq_true _
  have hll : ((evs ++ [s]).length : Int) = (evs.length : Int) + 1 := by simp
  have LN : ∀ q : Nat, Calls Try.prog 38 #[.pointer (some ⟨B, 0, none⟩)] ((w2.setCell ⟨C, 1, none⟩ (.slice (some ⟨g, 0, none⟩) (evs.length + 1) cp)).drewN q) fun e w' => e = .returned (.int .i64 ((evs.length : Int) + 1)) ∧ w' = (w2.setCell ⟨C, 1, none⟩ (.slice (some ⟨g, 0, none⟩) (evs.length + 1) cp)).drewN q := fun q => by
    have := len_log ((w2.setCell ⟨C, 1, none⟩ (.slice (some ⟨g, 0, none⟩) (evs.length + 1) cp)).drewN q) b0 B S1 (evs ++ [s]) HLg.out
    rw [hll] at this
    exact this
  have HLN : Hid _ := LN
  clear LN hll
  go_wp2
  go_quiet (first
    | (go_at_call 32; exact Calls.quiet_of_same (num_law _ _))
    | (go_at_call 38; exact Calls.quiet_of_same (HLN.out _)))
  go_wp2
  go_ret
  refine ⟨rfl, S1, _, HR.out.below ⟨rfl, rfl, rfl, Nat.le_refl _, fun _ _ => rfl⟩, HB.out.trans ⟨rfl, rfl, rfl, Nat.le_refl _, fun _ _ => rfl⟩⟩
end Go.Proofs.Ytlndinigbppafaa

/-
  The statements' own side of a log: all proofs of a version, called by goroutine 0 alone.
-/
namespace Go.Proofs.Ytlndinigbppafaa
open Go.Sim Go.Conc Go.Fi

def r16_0 : Array Oper :=
  #[{ dst := some 4, op := .assign (.const (.slice none 0 0)), type := 23, pos := "law.go:101", after := #[], guard := none },
    { dst := some 5, op := .assign (.const (.bool false)), type := 4, pos := "law.go:101", after := #[{ on := 0, ground := .chain }], guard := none }]
def r16_1 : Array Oper :=
  #[{ dst := some 13, op := .move (.tmp 0), type := 29, pos := "law.go:102", after := #[], guard := none },
    { dst := some 14, op := .nilCheck (.tmp 13), type := 0, pos := "law.go:102", after := #[{ on := 0, ground := .data }], guard := none },
    { dst := some 15, op := .fieldAddr 67 (.tmp 14) 0, type := 0, pos := "law.go:102", after := #[{ on := 1, ground := .data }], guard := none },
    { dst := some 16, op := .load 48 (.tmp 15), type := 48, pos := "law.go:102", after := #[{ on := 2, ground := .data }], guard := none },
    { dst := some 17, op := .move (.tmp 1), type := 3, pos := "law.go:102", after := #[], guard := none },
    { dst := some 18, op := .call { callee := .value (.func 24), args := #[.tmp 16, .tmp 17], argTypes := #[48, 3] }, type := 55, pos := "law.go:102", after := #[{ on := 3, ground := .data }, { on := 4, ground := .data }], guard := none },
    { dst := some 12, op := .move (.tmp 18), type := 55, pos := "law.go:102", after := #[{ on := 5, ground := .data }], guard := none },
    { dst := some 19, op := .extract (.tmp 12) 0, type := 23, pos := "law.go:102", after := #[{ on := 6, ground := .data }], guard := none },
    { dst := some 20, op := .extract (.tmp 12) 1, type := 52, pos := "law.go:102", after := #[{ on := 6, ground := .data }, { on := 9, ground := .gcOnly .lateStores }], guard := none },
    { dst := some 6, op := .assign (.tmp 19), type := 23, pos := "law.go:102", after := #[{ on := 7, ground := .data }, { on := 5, ground := .chain }, { on := 0, ground := .phase }, { on := 1, ground := .phase }, { on := 2, ground := .phase }, { on := 3, ground := .phase }, { on := 4, ground := .phase }, { on := 5, ground := .phase }, { on := 6, ground := .phase }, { on := 7, ground := .phase }, { on := 8, ground := .textOnly .lateStores }], guard := none },
    { dst := some 7, op := .assign (.tmp 20), type := 52, pos := "law.go:102", after := #[{ on := 8, ground := .data }, { on := 9, ground := .chain }, { on := 0, ground := .phase }, { on := 1, ground := .phase }, { on := 2, ground := .phase }, { on := 3, ground := .phase }, { on := 4, ground := .phase }, { on := 5, ground := .phase }, { on := 6, ground := .phase }, { on := 7, ground := .phase }, { on := 8, ground := .phase }, { on := 9, ground := .phase }], guard := none }]
def r16_2 : Array Oper :=
  #[{ dst := some 21, op := .move (.tmp 0), type := 29, pos := "law.go:103", after := #[], guard := none },
    { dst := some 22, op := .move (.tmp 1), type := 3, pos := "law.go:103", after := #[], guard := none },
    { dst := some 23, op := .call { callee := .value (.func 31), args := #[.tmp 21, .tmp 22], argTypes := #[29, 3] }, type := 4, pos := "law.go:103", after := #[{ on := 0, ground := .data }, { on := 1, ground := .data }], guard := none },
    { dst := some 8, op := .assign (.tmp 23), type := 4, pos := "law.go:103", after := #[{ on := 2, ground := .data }, { on := 2, ground := .chain }, { on := 0, ground := .phase }, { on := 1, ground := .phase }, { on := 2, ground := .phase }], guard := none }]
def r16_3 : Array Oper :=
  #[{ dst := some 24, op := .move (.tmp 8), type := 4, pos := "law.go:104", after := #[], guard := none },
    { dst := some 25, op := .unOp .not 4 (.tmp 24), type := 4, pos := "law.go:104", after := #[{ on := 0, ground := .data }], guard := none }]
def r16_4 : Array Oper :=
  #[{ dst := some 26, op := .move (.tmp 6), type := 23, pos := "law.go:105", after := #[], guard := none },
    { dst := some 27, op := .move (.tmp 6), type := 23, pos := "law.go:105", after := #[], guard := none },
    { dst := some 28, op := .call { callee := .builtin .len, args := #[.tmp 27], argTypes := #[23] }, type := 3, pos := "law.go:105", after := #[{ on := 1, ground := .data }], guard := none },
    { dst := some 29, op := .binOp .eql 3 (.tmp 28) (.const (.int .i64 0)) 3, type := 4, pos := "law.go:105", after := #[{ on := 2, ground := .data }], guard := none },
    { dst := some 30, op := .move (.tmp 29), type := 4, pos := "law.go:105", after := #[{ on := 3, ground := .data }], guard := none },
    { dst := some 31, op := .move (.tmp 7), type := 52, pos := "law.go:105", after := #[{ on := 4, ground := .guard }], guard := some (4, true) },
    { dst := some 32, op := .call { callee := .value (.func 32), args := #[.tmp 31], argTypes := #[52] }, type := 3, pos := "law.go:105", after := #[{ on := 5, ground := .data }, { on := 4, ground := .chain }, { on := 4, ground := .guard }], guard := some (4, true) },
    { dst := some 33, op := .binOp .eql 3 (.tmp 32) (.const (.int .i64 1)) 3, type := 4, pos := "law.go:105", after := #[{ on := 6, ground := .data }, { on := 4, ground := .guard }, { on := 9, ground := .gcOnly .lateStores }], guard := some (4, true) },
    { dst := some 34, op := .pick (.tmp 30) (.tmp 33) (.const (.bool false)), type := 4, pos := "law.go:105", after := #[{ on := 4, ground := .data }, { on := 7, ground := .data }, { on := 9, ground := .gcOnly .lateStores }], guard := none },
    { dst := some 4, op := .assign (.tmp 26), type := 23, pos := "law.go:105", after := #[{ on := 0, ground := .data }, { on := 6, ground := .chain }, { on := 0, ground := .phase }, { on := 1, ground := .textOnly .lateStores }, { on := 2, ground := .textOnly .lateStoresUnsure }, { on := 3, ground := .textOnly .lateStores }, { on := 4, ground := .textOnly .lateStores }, { on := 5, ground := .textOnly .lateStores }, { on := 6, ground := .textOnly .lateStoresUnsure }, { on := 7, ground := .textOnly .lateStores }, { on := 8, ground := .textOnly .lateStores }], guard := none },
    { dst := some 5, op := .assign (.tmp 34), type := 4, pos := "law.go:105", after := #[{ on := 8, ground := .data }, { on := 9, ground := .chain }, { on := 0, ground := .phase }, { on := 1, ground := .phase }, { on := 2, ground := .phase }, { on := 3, ground := .phase }, { on := 4, ground := .phase }, { on := 5, ground := .phase }, { on := 6, ground := .phase }, { on := 7, ground := .phase }, { on := 8, ground := .phase }, { on := 9, ground := .phase }], guard := none }]
def r16_5 : Array Oper :=
  #[{ dst := some 35, op := .move (.tmp 6), type := 23, pos := "law.go:107", after := #[], guard := none },
    { dst := some 36, op := .call { callee := .builtin .len, args := #[.tmp 35], argTypes := #[23] }, type := 3, pos := "law.go:107", after := #[{ on := 0, ground := .data }], guard := none },
    { dst := some 37, op := .move (.tmp 1), type := 3, pos := "law.go:107", after := #[], guard := none },
    { dst := some 38, op := .binOp .neq 3 (.tmp 36) (.tmp 37) 3, type := 4, pos := "law.go:107", after := #[{ on := 1, ground := .data }, { on := 2, ground := .data }], guard := none },
    { dst := some 39, op := .move (.tmp 38), type := 4, pos := "law.go:107", after := #[{ on := 3, ground := .data }], guard := none },
    { dst := some 40, op := .move (.tmp 7), type := 52, pos := "law.go:107", after := #[{ on := 4, ground := .guard }], guard := some (4, false) },
    { dst := some 41, op := .call { callee := .value (.func 32), args := #[.tmp 40], argTypes := #[52] }, type := 3, pos := "law.go:107", after := #[{ on := 5, ground := .data }, { on := 4, ground := .chain }, { on := 4, ground := .guard }], guard := some (4, false) },
    { dst := some 42, op := .binOp .neq 3 (.tmp 41) (.const (.int .i64 0)) 3, type := 4, pos := "law.go:107", after := #[{ on := 6, ground := .data }, { on := 4, ground := .guard }], guard := some (4, false) },
    { dst := some 43, op := .pick (.tmp 39) (.const (.bool true)) (.tmp 42), type := 4, pos := "law.go:107", after := #[{ on := 4, ground := .data }, { on := 7, ground := .data }], guard := none }]
def r16_6 : Array Oper :=
  #[{ dst := some 44, op := .move (.tmp 6), type := 23, pos := "law.go:108", after := #[], guard := none },
    { dst := some 4, op := .assign (.tmp 44), type := 23, pos := "law.go:108", after := #[{ on := 0, ground := .data }, { on := 0, ground := .phase }], guard := none },
    { dst := some 5, op := .assign (.const (.bool false)), type := 4, pos := "law.go:108", after := #[{ on := 1, ground := .chain }, { on := 0, ground := .phase }, { on := 1, ground := .phase }], guard := none }]
def r16_7 : Array Oper :=
  #[{ dst := some 9, op := .assign (.const (.int .i64 0)), type := 3, pos := "law.go:110", after := #[], guard := none }]
def r16_8 : Array Oper :=
  #[{ dst := some 45, op := .move (.tmp 9), type := 3, pos := "law.go:110", after := #[], guard := none },
    { dst := some 46, op := .move (.tmp 1), type := 3, pos := "law.go:110", after := #[], guard := none },
    { dst := some 47, op := .binOp .lss 3 (.tmp 45) (.tmp 46) 3, type := 4, pos := "law.go:110", after := #[{ on := 0, ground := .data }, { on := 1, ground := .data }], guard := none }]
def r16_10 : Array Oper :=
  #[{ dst := some 51, op := .move (.tmp 0), type := 29, pos := "law.go:111", after := #[], guard := none },
    { dst := some 52, op := .move (.tmp 9), type := 3, pos := "law.go:111", after := #[], guard := none },
    { dst := some 53, op := .move (.tmp 1), type := 3, pos := "law.go:111", after := #[], guard := none },
    { dst := some 54, op := .call { callee := .value (.func 35), args := #[.tmp 51, .const (.int .i64 3), .tmp 52, .tmp 53], argTypes := #[29, 3, 3, 3] }, type := 71, pos := "law.go:111", after := #[{ on := 0, ground := .data }, { on := 1, ground := .data }, { on := 2, ground := .data }], guard := none },
    { dst := some 50, op := .move (.tmp 54), type := 71, pos := "law.go:111", after := #[{ on := 3, ground := .data }], guard := none },
    { dst := some 55, op := .extract (.tmp 50) 0, type := 9, pos := "law.go:111", after := #[{ on := 4, ground := .data }], guard := none },
    { dst := some 56, op := .extract (.tmp 50) 1, type := 4, pos := "law.go:111", after := #[{ on := 4, ground := .data }, { on := 7, ground := .gcOnly .lateStores }], guard := none },
    { dst := some 10, op := .assign (.tmp 55), type := 9, pos := "law.go:111", after := #[{ on := 5, ground := .data }, { on := 3, ground := .chain }, { on := 0, ground := .phase }, { on := 1, ground := .phase }, { on := 2, ground := .phase }, { on := 3, ground := .phase }, { on := 4, ground := .phase }, { on := 5, ground := .phase }, { on := 6, ground := .textOnly .lateStores }], guard := none },
    { dst := some 11, op := .assign (.tmp 56), type := 4, pos := "law.go:111", after := #[{ on := 6, ground := .data }, { on := 7, ground := .chain }, { on := 0, ground := .phase }, { on := 1, ground := .phase }, { on := 2, ground := .phase }, { on := 3, ground := .phase }, { on := 4, ground := .phase }, { on := 5, ground := .phase }, { on := 6, ground := .phase }, { on := 7, ground := .phase }], guard := none }]
def r16_11 : Array Oper :=
  #[{ dst := some 57, op := .move (.tmp 6), type := 23, pos := "law.go:112", after := #[], guard := none },
    { dst := some 58, op := .move (.tmp 9), type := 3, pos := "law.go:112", after := #[], guard := none },
    { dst := some 59, op := .indexAddr 23 (.tmp 57) (.tmp 58), type := 0, pos := "law.go:112", after := #[{ on := 0, ground := .data }, { on := 1, ground := .data }], guard := none },
    { dst := some 60, op := .load 24 (.tmp 59), type := 24, pos := "law.go:112", after := #[{ on := 2, ground := .data }], guard := none },
    { dst := some 61, op := .convert 24 9 (.tmp 60), type := 9, pos := "law.go:112", after := #[{ on := 3, ground := .data }], guard := none },
    { dst := some 62, op := .move (.tmp 10), type := 9, pos := "law.go:112", after := #[], guard := none },
    { dst := some 63, op := .binOp .neq 9 (.tmp 61) (.tmp 62) 9, type := 4, pos := "law.go:112", after := #[{ on := 4, ground := .data }, { on := 5, ground := .data }], guard := none }]
def r16_12 : Array Oper :=
  #[{ dst := some 64, op := .move (.tmp 6), type := 23, pos := "law.go:113", after := #[], guard := none },
    { dst := some 4, op := .assign (.tmp 64), type := 23, pos := "law.go:113", after := #[{ on := 0, ground := .data }, { on := 0, ground := .phase }], guard := none },
    { dst := some 5, op := .assign (.const (.bool false)), type := 4, pos := "law.go:113", after := #[{ on := 1, ground := .chain }, { on := 0, ground := .phase }, { on := 1, ground := .phase }], guard := none }]
def r16_9 : Array Oper :=
  #[{ dst := some 48, op := .move (.tmp 9), type := 3, pos := "law.go:110", after := #[], guard := none },
    { dst := some 49, op := .binOp .add 3 (.tmp 48) (.const (.int .i64 1)) 3, type := 3, pos := "law.go:110", after := #[{ on := 0, ground := .data }], guard := none },
    { dst := some 9, op := .assign (.tmp 49), type := 3, pos := "law.go:110", after := #[{ on := 1, ground := .data }, { on := 0, ground := .phase }, { on := 1, ground := .phase }], guard := none }]
def r16_13 : Array Oper :=
  #[{ dst := some 65, op := .move (.tmp 6), type := 23, pos := "law.go:116", after := #[], guard := none },
    { dst := some 4, op := .assign (.tmp 65), type := 23, pos := "law.go:116", after := #[{ on := 0, ground := .data }, { on := 0, ground := .phase }], guard := none },
    { dst := some 5, op := .assign (.const (.bool true)), type := 4, pos := "law.go:116", after := #[{ on := 1, ground := .chain }, { on := 0, ground := .phase }, { on := 1, ground := .phase }], guard := none }]
def c16 : Code := ((Code.region 0 r16_0 false).seq ((Code.region 1 r16_1 false).seq ((Code.region 2 r16_2 false).seq (((Code.region 3 r16_3 false).seq (Code.cond (Operand.tmp 25) ((Code.region 4 r16_4 false).seq Code.ret) Code.skip)).seq (((Code.region 5 r16_5 false).seq (Code.cond (Operand.tmp 43) ((Code.region 6 r16_6 false).seq Code.ret) Code.skip)).seq (((Code.region 7 r16_7 false).seq (Code.block 0 (((Code.region 8 r16_8 false).seq (Code.cond (Operand.tmp 47) Code.skip (Code.exit 0))).seq ((Code.block 1 ((Code.region 10 r16_10 false).seq ((Code.region 11 r16_11 false).seq (Code.cond (Operand.tmp 63) ((Code.region 12 r16_12 false).seq Code.ret) Code.skip)))).seq (Code.region 9 r16_9 false))).loop)).seq ((Code.region 13 r16_13 false).seq Code.ret)))))))
theorem body16 : Try.f16.body = some c16 := rfl

def c16rest : Code := ((Code.region 2 r16_2 false).seq (((Code.region 3 r16_3 false).seq (Code.cond (Operand.tmp 25) ((Code.region 4 r16_4 false).seq Code.ret) Code.skip)).seq (((Code.region 5 r16_5 false).seq (Code.cond (Operand.tmp 43) ((Code.region 6 r16_6 false).seq Code.ret) Code.skip)).seq (((Code.region 7 r16_7 false).seq (Code.block 0 (((Code.region 8 r16_8 false).seq (Code.cond (Operand.tmp 47) Code.skip (Code.exit 0))).seq ((Code.block 1 ((Code.region 10 r16_10 false).seq ((Code.region 11 r16_11 false).seq (Code.cond (Operand.tmp 63) ((Code.region 12 r16_12 false).seq Code.ret) Code.skip)))).seq (Code.region 9 r16_9 false))).loop)).seq ((Code.region 13 r16_13 false).seq Code.ret)))))
theorem c16_eq : c16 = (Code.region 0 r16_0 false).seq ((Code.region 1 r16_1 false).seq c16rest) := rfl
theorem codeOK16 : CodeOK Try.prog c16rest := codeB_ok infos (by kernel_rfl)

theorem field16 (C : Nat) (w : World) : (Instr.fieldAt 67 (.pointer (some ⟨C, 0, none⟩)) 0).run Try.prog w = .ok (.pointer (some ⟨C, 0, none⟩)) w ∧ (Instr.fieldAt 67 (.pointer (some ⟨C, 0, none⟩)) 0).events Try.prog w #[] = #[] := by
  constructor
  · simp [Instr.fieldAt, go_sem]
  · simp [Instr.fieldAt, go_sem]
end Go.Proofs.Ytlndinigbppafaa

/-
  The statements' own side of a log: all proofs of a version, called by goroutine 0 alone, on: Proofs of what is no version; the walk of what is left.
-/
namespace Go.Proofs.Ytlndinigbppafaa
open Go.Sim Go.Conc Go.Fi

section
variable {Gl : Array Goroutine → World → Option (Nat × Nat) → Trace → Prop}
variable {k : List Item} {cs : List Frame} {ops : Array Oper} {i : Nat} {rest : List Nat} {b₀ : Frame} {a₀ : Act} {w : World}

theorem Can.logProofsErr {D : Nat → Prop} {b0 B : Nat} {n : Int} {S : Value} {evs : List ByteArray} (hlog : LogAt w b0 B S evs) (hno : n < 1 ∨ (evs.length : Int) < n) (hlv : Vs D (.pointer (some ⟨B, 0, none⟩))) (hw : Sf D w)
    (hK : ∀ (D' : Nat → Prop) (w' : World), (∀ b, D b → D' b) → Sf D' w' → Bel w w' → Can Gl 0 (G (b₀.at (a₀.put ((ops[i]?).bind (·.dst)) (.tuple #[.slice none 0 0, .int .i64 1])) (.inRegion ops rest :: k)) cs) w') :
    Can Gl 0 (G ((base 24).at (⟨#[.pointer (some ⟨B, 0, none⟩), .int .i64 n, undef, undef, undef, undef, undef, undef, undef, undef, undef, undef, undef, undef, undef, undef, undef, undef], []⟩ : Act) [.code c24]) (b₀.at a₀ (.inRegion ops (i :: rest) :: k) :: cs)) w := by
  generalize hl : Value.pointer (some ⟨B, 0, none⟩) = lv at hlv ⊢
  have hk : (base 24).kind ≠ .early := by intro h; cases h
  refine Can.seq (Can.region (a' := (⟨#[lv, .int .i64 n, undef, undef, .slice none 0 0, .int .i64 0, undef, undef, undef, undef, undef, undef, undef, undef, undef, undef, undef, undef], []⟩ : Act)) hk rfl ?_)
  refine Can.seq (Can.seq (Can.into (Can.pures (l := [0, 1]) (rest := [2, 3]) (a' := (⟨#[lv, .int .i64 n, undef, undef, .slice none 0 0, .int .i64 0, undef, lv, .int .i64 n, undef, undef, undef, undef, undef, undef, undef, undef, undef], []⟩ : Act)) hk rfl ?_)))
  refine Can.callS (o := r24_1[2]) (vs := [lv, .int .i64 n]) (Q := fun v w' => v = .int .i64 1 ∧ Bel w w') hk rfl rfl rfl Try.func42 (by simp [Try.f42, names]) rfl (by simp [Try.f42]) (by simp [Act.eval]) (fun v hv => ?_) hw (fun v w' τ q => ⟨q.1, q.2.tp τ⟩) (fun τ => ?_) ?_
  · simp at hv
    rcases hv with rfl | rfl
    · exact hlv
    · exact Vs.int _ _ _
  · show Calls _ _ #[lv, .int .i64 n] _ _
    rw [← hl]
    refine (check_no (w.tp τ) b0 B S evs n hlog hno).mono fun e w' q => ?_
    obtain ⟨rfl, rfl⟩ := q
    exact ⟨rfl, rfl, rfl, Nat.le_refl _, fun _ _ => rfl⟩
  intro D1 v w1 s1 _ hw1 hq1
  obtain ⟨rfl, hb1⟩ := hq1
  show Can Gl 0 (G ((base 24).at (⟨#[lv, .int .i64 n, undef, undef, .slice none 0 0, .int .i64 0, undef, lv, .int .i64 n, .int .i64 1, undef, undef, undef, undef, undef, undef, undef, undef], []⟩ : Act) _) _) _
  refine Can.pures (l := [3]) (rest := []) (a' := (⟨#[lv, .int .i64 n, undef, undef, .slice none 0 0, .int .i64 0, .int .i64 1, lv, .int .i64 n, .int .i64 1, undef, undef, undef, undef, undef, undef, undef, undef], []⟩ : Act)) hk rfl (Can.out ?_)
  refine Can.seq (Can.region (a' := (⟨#[lv, .int .i64 n, undef, undef, .slice none 0 0, .int .i64 0, .int .i64 1, lv, .int .i64 n, .int .i64 1, .int .i64 1, .bool true, undef, undef, undef, undef, undef, undef], []⟩ : Act)) hk rfl ?_)
  refine Can.cond (t := true) rfl (Can.seq (Can.region (a' := (⟨#[lv, .int .i64 n, undef, undef, .slice none 0 0, .int .i64 1, .int .i64 1, lv, .int .i64 n, .int .i64 1, .int .i64 1, .bool true, .int .i64 1, undef, undef, undef, undef, undef], []⟩ : Act)) hk rfl (Can.ret ?_)))
  refine Can.leave2 rfl rfl Try.func24 rfl ?_
  exact hK D1 w1 s1 hw1 hb1
end
end Go.Proofs.Ytlndinigbppafaa

/-
  The statements' own side of a log: all proofs of a version: the walk of what is left behind Proofs.
-/
namespace Go.Proofs.Ytlndinigbppafaa
open Go.Sim Go.Conc Go.Fi Go.RowKit

def px16 (C B : Nat) (n : Int) (l : Value) (e : Int) : Act :=
  (⟨#[.pointer (some ⟨C, 0, none⟩), .int .i64 n, undef, undef, .slice none 0 0, .bool false, l, .int .i64 e, undef, undef, undef, undef, .tuple #[l, .int .i64 e], .pointer (some ⟨C, 0, none⟩), .pointer (some ⟨C, 0, none⟩), .pointer (some ⟨C, 0, none⟩), .pointer (some ⟨B, 0, none⟩), .int .i64 n, .tuple #[l, .int .i64 e], l, .int .i64 e, undef, undef, undef, undef, undef, undef, undef, undef, undef, undef, undef, undef, undef, undef, undef, undef, undef, undef, undef, undef, undef, undef, undef, undef, undef, undef, undef, undef, undef, undef, undef, undef, undef, undef, undef, undef, undef, undef, undef, undef, undef, undef, undef, undef, undef], []⟩ : Act)

set_option maxRecDepth 100000 in
set_option maxHeartbeats 2000000 in
theorem rest16_no (w : World) (b0 C B : Nat) (S L : Value) (evs : List ByteArray) (n : Int) (h : SideAt w b0 C B S L evs) (hno : n < 1 ∨ (evs.length : Int) < n) (Post : Ending → World → Prop) (hPost : ∀ w', Below w.heap.size w w' → Post (.returned (.tuple #[.slice none 0 0, .bool true])) w') :
    c16rest.wp Try.prog (bodyPost Try.prog Try.f16 Post) (px16 C B n (.slice none 0 0) 1) w := by
  have HV := version_side w b0 C B S L evs n h
  rw [decide_eq_false (show ¬ (1 ≤ n ∧ n ≤ (evs.length : Int)) by omega)] at HV
  have HP : Hid _ := hPost
  clear hPost
  unfold c16rest px16 r16_2 r16_3 r16_4 r16_5 r16_6 r16_7 r16_8 r16_9 r16_10 r16_11 r16_12 r16_13
  go_wp2_with fail
  refine HV.mono ?_
  rintro e w' ⟨rfl, rfl⟩
  go_wp2_with fail
  refine (num_law _ _).mono ?_
  rintro e w' ⟨rfl, rfl⟩
  go_wp2
  exact HP.out _ (Below.refl _ _)

/-- The rows that Proofs has gathered. -/
def GathAt (w : World) (ga : Nat) (n : Nat) (evs : List ByteArray) : Prop := ∃ vs : List Value, vs.length = n ∧ w.heap[ga]? = some (.cells vs.toArray 24) ∧ ∀ (j : Nat) (V : Value), vs[j]? = some V → RowB (memberB evs j) V w
theorem GathAt.below {w w' : World} {ga n : Nat} {evs : List ByteArray} (h : GathAt w ga n evs) (hb : Below w.heap.size w w') : GathAt w' ga n evs := by
  obtain ⟨vs, h1, h2, h3⟩ := h
  exact ⟨vs, h1, by rw [hb.block ga (lt_of_heap h2)]; exact h2, fun j V hj => owns_below (h3 j V hj) hb⟩
theorem GathAt.at {w : World} {ga n : Nat} {evs : List ByteArray} (h : GathAt w ga n evs) {j : Nat} (hj : j < n) : ∃ g cp, w.cell? ⟨ga, j, none⟩ = some (.slice (some ⟨g, 0, none⟩) (memberB evs j).length cp) ∧ BytesAt w (.slice (some ⟨g, 0, none⟩) (memberB evs j).length cp) (memberB evs j) := by
  obtain ⟨vs, h1, h2, h3⟩ := h
  have hjl : j < vs.length := by omega
  have hr := h3 j vs[j] (List.getElem?_eq_getElem hjl)
  have hpos : 0 < (memberB evs j).length := by unfold memberB encM encH; simp
  obtain ⟨g, cp, e⟩ : ∃ g cp, vs[j] = .slice (some ⟨g, 0, none⟩) (memberB evs j).length cp := by
    rcases hr.2 with ⟨_, h0⟩ | ⟨g, cp, cur, e, _⟩
    · omega
    · exact ⟨g, cp, e⟩
  refine ⟨g, cp, ?_, ?_⟩
  · rw [cell_of_row _ _ _ _ _ _ h2, ← e]; simp [hjl]
  · rw [← e]; exact BytesAt.of_owns hr

theorem conv_row2 (u : World) (l : List UInt8) (ad : Addr) (cp : Nat) (h : BytesAt u (.slice (some ad) l.length cp) l) : (convert 24 9 (.slice (some ad) l.length cp)).run Try.prog u = .ok (.string ⟨l.toArray⟩) u := by
  refine run_convert_bytes_back _ _ _ 5 _ _ l Try.underlying24 Try.underlying5 Try.underlying9 fun j hj => ?_
  obtain ⟨ao, cap, e, _, hc⟩ := h.cells
  simp only [Value.slice.injEq] at e
  obtain ⟨rfl, -, -⟩ := e
  obtain ⟨b, o, e, hcell⟩ := hc (by omega)
  cases e
  rw [show (⟨b, o, none⟩ : Addr).add j = ⟨b, o + j, none⟩ by unfold Addr.add; split <;> simp_all]
  exact hcell j hj

set_option maxRecDepth 100000 in
set_option maxHeartbeats 4000000 in
theorem rest16_ok (w : World) (b0 C B : Nat) (S L : Value) (evs : List ByteArray) (n ga : Nat) (h : SideAt w b0 C B S L evs) (h1 : 1 ≤ n) (h2 : n ≤ evs.length) (hl : evs.length ≤ 500) (hs : ∀ s ∈ evs, s.size ≤ 50) (hG : GathAt w ga n (evs.take n)) (Post : Ending → World → Prop) (hPost : ∀ w', Below w.heap.size w w' → Post (.returned (.tuple #[.slice (some ⟨ga, 0, none⟩) n n, .bool true])) w') :
    c16rest.wp Try.prog (bodyPost Try.prog Try.f16 Post) (px16 C B n (.slice (some ⟨ga, 0, none⟩) n n) 0) w := by
  have HV := version_side w b0 C B S L evs n h
  rw [decide_eq_true (show 1 ≤ (n : Int) ∧ (n : Int) ≤ (evs.length : Int) by omega)] at HV
  have HP : Hid _ := hPost
  have HH : Hid _ := h
  have HG : Hid _ := hG
  clear hPost h hG
  unfold c16rest px16 r16_2 r16_3 r16_4 r16_5 r16_6 r16_7 r16_8 r16_9 r16_10 r16_11 r16_12 r16_13
  go_wp2_with fail
  refine HV.mono ?_
  rintro e w' ⟨rfl, rfl⟩
  clear HV
  go_wp2_with fail
  refine (num_law _ _).mono ?_
  rintro e w' ⟨rfl, rfl⟩
  go_wp2
  go_loopw [9] (fun i wr => ∃ j : Nat, j ≤ n ∧ i = .int .i64 j ∧ Below w'.heap.size w' wr) (fun i _ => n - (intOf i).toNat)
  case atStart => exact ⟨0, Nat.zero_le _, rfl, Below.refl _ _⟩
  case round =>
    obtain ⟨j, hj, rfl, hb⟩ := hrel
    have hsz := hb.size
    by_cases hlt : j < n
    · have hji : (j : Int) < (n : Int) := by omega
      go_wp2_with fail
      refine (want_member wr b0 C B S L evs n j (HH.out.below hb) h1 h2 hlt hl hs).mono ?_
      rintro e w2 ⟨rfl, hb2⟩
      have hb3 := hb.trans (hb2.mono hsz)
      obtain ⟨g, cp, hc, hby⟩ := (GathAt.below HG.out hb3).at hlt
      have hcv := conv_row2 _ _ _ _ hby
      clear hby
      go_wp2
      go_roundw
      case rel => exact ⟨j + 1, by omega, by go_num, hb3⟩
      case measure => simp [intOf]; omega
    · have hje : j = n := by omega
      subst hje
      go_wp2
      exact HP.out _ hb
end Go.Proofs.Ytlndinigbppafaa

/-
  The statements' own side of a log: all proofs of a version, called by goroutine 0 alone: the whole.
-/
namespace Go.Proofs.Ytlndinigbppafaa
open Go.Sim Go.Conc Go.Fi Go.RowKit

theorem fine_v {o : Oper} {ρ : Operand → Value} {m : Sem Value} (h : execOp ρ o = (do pure (.value (← m)))) (hm : Fine Try.prog m) : Fine Try.prog (execOp ρ o) := by rw [h]; exact Fine.bind hm fun _ => Fine.pure _
theorem vs_of_block {D : Nat → Prop} {w : World} {b : Nat} {c : Array Value} {t : TypeId} {f : Nat × Nat} (hw : Sf D w) (hb : Vs D (.pointer (some ⟨b, 0, none⟩))) (hh : w.heap[b]? = some (.cells c t f)) {j : Nat} {v : Value} (hj : c[j]? = some v) : Vs D v := by
  unfold Vs at hb
  cases hb with
  | ptr ha =>
    obtain ⟨hD, _⟩ := ha
    obtain ⟨o, O, e1, e2, hor⟩ := hw.dom b b hD
    rw [hh] at e1 e2
    cases e1; cases e2
    cases hor with
    | cells t hv _ _ => exact hv.2 j v v hj hj
theorem vs_two {D : Nat → Prop} {a b : Value} (ha : Vs D a) (hb : Vs D b) : Vs D (.tuple #[a, b]) := by
  refine VR.tuple rfl fun i v V e1 e2 => ?_
  rw [e1] at e2; cases e2
  match i, e1 with
  | 0, e1 => cases e1; exact ha
  | 1, e1 => cases e1; exact hb

theorem vs_nil' {D : Nat → Prop} : ∀ v ∈ ([] : List Value), Vs D v := fun v hv => by cases hv
theorem vs_cons' {D : Nat → Prop} {a : Value} {l : List Value} (h : Vs D a) (k : ∀ v ∈ l, Vs D v) : ∀ v ∈ a :: l, Vs D v := by
  intro v hv
  rcases List.mem_cons.1 hv with rfl | hv
  · exact h
  · exact k v hv
theorem vs_arr' {D : Nat → Prop} {l : List Value} (h : ∀ v ∈ l, Vs D v) : ∀ v ∈ l.toArray, Vs D v := fun v hv => h v (by simpa using hv)
theorem vs_undef' {D : Nat → Prop} : Vs D undef := VR.undef
set_option maxRecDepth 100000 in
theorem px16_vs {D : Nat → Prop} {C B : Nat} {n e : Int} {l : Value} (h1 : Vs D (.pointer (some ⟨C, 0, none⟩))) (h2 : Vs D (.pointer (some ⟨B, 0, none⟩))) (h3 : Vs D l) : ∀ v ∈ (px16 C B n l e).tmps, Vs D v := by
  have hz : Vs D (.slice none 0 0) := VR.nilSlice 0 0
  have ht : Vs D (.tuple #[l, .int .i64 e]) := vs_two h3 (Vs.int _ _ _)
  unfold px16
  refine vs_arr' ?_
  repeat' first
    | exact vs_nil'
    | exact vs_undef'
    | exact Vs.int _ _ _
    | exact Vs.bool _ _
    | assumption
    | refine vs_cons' ?_ ?_

section
variable {Gl : Array Goroutine → World → Option (Nat × Nat) → Trace → Prop}
variable {k : List Item} {cs : List Frame} {ops : Array Oper} {i : Nat} {rest : List Nat} {b₀ : Frame} {a₀ : Act} {w : World}
theorem Can.conv16 {n : Nat} {b : Frame} {a a' : Act} {k : List Item} {cs : List Frame} {w : World} (h : a = a') (hK : Can Gl n (G (b.at a' k) cs) w) : Can Gl n (G (b.at a k) cs) w := by rw [h]; exact hK

set_option maxRecDepth 100000 in
set_option maxHeartbeats 4000000 in
theorem Can.sideProofs {D : Nat → Prop} {b0 C B : Nat} {n : Int} {S L : Value} {evs : List ByteArray} (h : SideAt w b0 C B S L evs) (hl : evs.length ≤ 500) (hs : ∀ s ∈ evs, s.size ≤ 50) (hlv : Vs D (.pointer (some ⟨C, 0, none⟩))) (hw : Sf D w)
    (hK : ∀ (N : Nat) (D' : Nat → Prop) (v : Value) (w' : World), (∀ b, D b → D' b) → Vs D' v → Sf D' w' → Bel w w' → Can Gl N (G (b₀.at (a₀.put ((ops[i]?).bind (·.dst)) (.tuple #[v, .bool true])) (.inRegion ops rest :: k)) cs) w') :
    Can Gl 0 (G ((base 16).at (⟨#[.pointer (some ⟨C, 0, none⟩), .int .i64 n, undef, undef, undef, undef, undef, undef, undef, undef, undef, undef, undef, undef, undef, undef, undef, undef, undef, undef, undef, undef, undef, undef, undef, undef, undef, undef, undef, undef, undef, undef, undef, undef, undef, undef, undef, undef, undef, undef, undef, undef, undef, undef, undef, undef, undef, undef, undef, undef, undef, undef, undef, undef, undef, undef, undef, undef, undef, undef, undef, undef, undef, undef, undef, undef], []⟩ : Act) [.code c16]) (b₀.at a₀ (.inRegion ops (i :: rest) :: k) :: cs)) w := by
  have hk : (base 16).kind ≠ .early := by intro h; cases h
  have hB : Vs D (.pointer (some ⟨B, 0, none⟩)) := vs_of_block hw hlv h.blk (j := 0) rfl
  rw [c16_eq]
  refine Can.seq (Can.region (a' := (⟨#[.pointer (some ⟨C, 0, none⟩), .int .i64 n, undef, undef, .slice none 0 0, .bool false, undef, undef, undef, undef, undef, undef, undef, undef, undef, undef, undef, undef, undef, undef, undef, undef, undef, undef, undef, undef, undef, undef, undef, undef, undef, undef, undef, undef, undef, undef, undef, undef, undef, undef, undef, undef, undef, undef, undef, undef, undef, undef, undef, undef, undef, undef, undef, undef, undef, undef, undef, undef, undef, undef, undef, undef, undef, undef, undef, undef], []⟩ : Act)) hk (by kernel_rfl) ?_)
  refine Can.seq (Can.into (Can.pures (l := [0]) (rest := [1, 2, 3, 4, 5, 6, 7, 8, 9, 10]) (a' := (⟨#[.pointer (some ⟨C, 0, none⟩), .int .i64 n, undef, undef, .slice none 0 0, .bool false, undef, undef, undef, undef, undef, undef, undef, .pointer (some ⟨C, 0, none⟩), undef, undef, undef, undef, undef, undef, undef, undef, undef, undef, undef, undef, undef, undef, undef, undef, undef, undef, undef, undef, undef, undef, undef, undef, undef, undef, undef, undef, undef, undef, undef, undef, undef, undef, undef, undef, undef, undef, undef, undef, undef, undef, undef, undef, undef, undef, undef, undef, undef, undef, undef, undef], []⟩ : Act)) hk (by kernel_rfl) ?_))
  refine Can.val (o := r16_1[1]) (v := .pointer (some ⟨C, 0, none⟩)) hk rfl rfl (fun w => ⟨by simp [execOp, r16_1, Act.eval], by simp [execOp, r16_1, Act.eval]⟩) ?_
  refine Can.conv16 (a' := (⟨#[.pointer (some ⟨C, 0, none⟩), .int .i64 n, undef, undef, .slice none 0 0, .bool false, undef, undef, undef, undef, undef, undef, undef, .pointer (some ⟨C, 0, none⟩), .pointer (some ⟨C, 0, none⟩), undef, undef, undef, undef, undef, undef, undef, undef, undef, undef, undef, undef, undef, undef, undef, undef, undef, undef, undef, undef, undef, undef, undef, undef, undef, undef, undef, undef, undef, undef, undef, undef, undef, undef, undef, undef, undef, undef, undef, undef, undef, undef, undef, undef, undef, undef, undef, undef, undef, undef, undef], []⟩ : Act)) (by kernel_rfl) ?_
  refine Can.val (o := r16_1[2]) (v := .pointer (some ⟨C, 0, none⟩)) hk rfl rfl (fun w => ⟨by simp [execOp, r16_1, Act.eval, (field16 C w).1], by simp [execOp, r16_1, Act.eval, (field16 C w).2]⟩) ?_
  refine Can.conv16 (a' := (⟨#[.pointer (some ⟨C, 0, none⟩), .int .i64 n, undef, undef, .slice none 0 0, .bool false, undef, undef, undef, undef, undef, undef, undef, .pointer (some ⟨C, 0, none⟩), .pointer (some ⟨C, 0, none⟩), .pointer (some ⟨C, 0, none⟩), undef, undef, undef, undef, undef, undef, undef, undef, undef, undef, undef, undef, undef, undef, undef, undef, undef, undef, undef, undef, undef, undef, undef, undef, undef, undef, undef, undef, undef, undef, undef, undef, undef, undef, undef, undef, undef, undef, undef, undef, undef, undef, undef, undef, undef, undef, undef, undef, undef, undef], []⟩ : Act)) (by kernel_rfl) ?_
  refine Can.fop (o := r16_1[3]) (v := .pointer (some ⟨B, 0, none⟩)) (w' := w) hk rfl rfl (fine_v (by rfl) (fine_loadAt _ _)) ?_ rfl ?_
  · simp [execOp, r16_1, Act.eval, Instr.loadAt, Instr.sureAddr, loadVar, load, Sem.run, h.cells.1]
  refine Can.conv16 (a' := (⟨#[.pointer (some ⟨C, 0, none⟩), .int .i64 n, undef, undef, .slice none 0 0, .bool false, undef, undef, undef, undef, undef, undef, undef, .pointer (some ⟨C, 0, none⟩), .pointer (some ⟨C, 0, none⟩), .pointer (some ⟨C, 0, none⟩), .pointer (some ⟨B, 0, none⟩), undef, undef, undef, undef, undef, undef, undef, undef, undef, undef, undef, undef, undef, undef, undef, undef, undef, undef, undef, undef, undef, undef, undef, undef, undef, undef, undef, undef, undef, undef, undef, undef, undef, undef, undef, undef, undef, undef, undef, undef, undef, undef, undef, undef, undef, undef, undef, undef, undef], []⟩ : Act)) (by kernel_rfl) ?_
  refine Can.pures (l := [4]) (rest := [5, 6, 7, 8, 9, 10]) (a' := (⟨#[.pointer (some ⟨C, 0, none⟩), .int .i64 n, undef, undef, .slice none 0 0, .bool false, undef, undef, undef, undef, undef, undef, undef, .pointer (some ⟨C, 0, none⟩), .pointer (some ⟨C, 0, none⟩), .pointer (some ⟨C, 0, none⟩), .pointer (some ⟨B, 0, none⟩), .int .i64 n, undef, undef, undef, undef, undef, undef, undef, undef, undef, undef, undef, undef, undef, undef, undef, undef, undef, undef, undef, undef, undef, undef, undef, undef, undef, undef, undef, undef, undef, undef, undef, undef, undef, undef, undef, undef, undef, undef, undef, undef, undef, undef, undef, undef, undef, undef, undef, undef], []⟩ : Act)) hk (by kernel_rfl) ?_
  refine Can.enter (o := r16_1[5]) hk rfl rfl rfl Try.func24 (by simp [Try.f24]) body24 ?_
  have e : (#[.tmp 16, .tmp 17] : Array Operand).map (⟨#[.pointer (some ⟨C, 0, none⟩), .int .i64 n, undef, undef, .slice none 0 0, .bool false, undef, undef, undef, undef, undef, undef, undef, .pointer (some ⟨C, 0, none⟩), .pointer (some ⟨C, 0, none⟩), .pointer (some ⟨C, 0, none⟩), .pointer (some ⟨B, 0, none⟩), .int .i64 n, undef, undef, undef, undef, undef, undef, undef, undef, undef, undef, undef, undef, undef, undef, undef, undef, undef, undef, undef, undef, undef, undef, undef, undef, undef, undef, undef, undef, undef, undef, undef, undef, undef, undef, undef, undef, undef, undef, undef, undef, undef, undef, undef, undef, undef, undef, undef, undef], []⟩ : Act).eval ++ Array.replicate (Try.f24.ntmps - ((#[.tmp 16, .tmp 17] : Array Operand).map (⟨#[.pointer (some ⟨C, 0, none⟩), .int .i64 n, undef, undef, .slice none 0 0, .bool false, undef, undef, undef, undef, undef, undef, undef, .pointer (some ⟨C, 0, none⟩), .pointer (some ⟨C, 0, none⟩), .pointer (some ⟨C, 0, none⟩), .pointer (some ⟨B, 0, none⟩), .int .i64 n, undef, undef, undef, undef, undef, undef, undef, undef, undef, undef, undef, undef, undef, undef, undef, undef, undef, undef, undef, undef, undef, undef, undef, undef, undef, undef, undef, undef, undef, undef, undef, undef, undef, undef, undef, undef, undef, undef, undef, undef, undef, undef, undef, undef, undef, undef, undef, undef], []⟩ : Act).eval).size) undef = #[.pointer (some ⟨B, 0, none⟩), .int .i64 n, undef, undef, undef, undef, undef, undef, undef, undef, undef, undef, undef, undef, undef, undef, undef, undef] := by kernel_rfl
  rw [e]
  by_cases hv : 1 ≤ n ∧ n ≤ evs.length
  · obtain ⟨N, rfl⟩ : ∃ N : Nat, n = N := ⟨n.toNat, by omega⟩
    refine Can.logProofs (ops := r16_1) (i := 5) (rest := [6, 7, 8, 9, 10]) h.log (by omega) (by omega) (by omega) (fun s q => by have := hs s q; omega) hB hw fun D1 w1 ga vs d1 sf1 hvs bw hvl hga hrow hpost => ?_
    refine Can.conv16 (a' := (⟨#[.pointer (some ⟨C, 0, none⟩), .int .i64 N, undef, undef, .slice none 0 0, .bool false, undef, undef, undef, undef, undef, undef, undef, .pointer (some ⟨C, 0, none⟩), .pointer (some ⟨C, 0, none⟩), .pointer (some ⟨C, 0, none⟩), .pointer (some ⟨B, 0, none⟩), .int .i64 N, .tuple #[.slice (some ⟨ga, 0, none⟩) N N, .int .i64 0], undef, undef, undef, undef, undef, undef, undef, undef, undef, undef, undef, undef, undef, undef, undef, undef, undef, undef, undef, undef, undef, undef, undef, undef, undef, undef, undef, undef, undef, undef, undef, undef, undef, undef, undef, undef, undef, undef, undef, undef, undef, undef, undef, undef, undef, undef, undef], []⟩ : Act)) (by kernel_rfl) ?_
    refine Can.pures (l := [6, 7, 8, 9, 10]) (rest := []) (a' := px16 C B N (.slice (some ⟨ga, 0, none⟩) N N) 0) hk (by kernel_rfl) (Can.out ?_)
    refine Can.restK (Q := fun v w' => v = .tuple #[.slice (some ⟨ga, 0, none⟩) N N, .bool true] ∧ Bel w1 w') Try.func16 codeOK16 (px16_vs (hlv.mono d1) (hB.mono d1) hvs) rfl sf1 (by simp [Try.f16]) (fun v w' τ q => ⟨q.1, q.2.tp τ⟩) (fun τ => ?_) ?_
    · have hS1 : SideAt (w1.tp τ) b0 C B S L evs := by
        have : SideAt (w1.tp w.tape) b0 C B S L evs := h.below ⟨bw.os, rfl, bw.output, bw.size, bw.keep⟩
        exact ⟨this.low, this.blk, this.log, this.row, this.apart⟩
      exact rest16_ok (w1.tp τ) b0 C B S L evs N ga hS1 (by omega) (by omega) hl hs ⟨vs, hvl, hrow, hpost⟩ _ fun w' hb => ⟨rfl, Bel.of hb⟩
    · intro D2 v w2 d2 hv2 sf2 q
      obtain ⟨rfl, b2⟩ := q
      exact hK N D2 _ w2 (fun b hb => d2 b (d1 b hb)) (hv2.tuple (i := 0) rfl) sf2 (bw.trans b2)
  · refine Can.logProofsErr (ops := r16_1) (i := 5) (rest := [6, 7, 8, 9, 10]) h.log (by omega) hB hw fun D1 w1 d1 sf1 bw => ?_
    refine Can.conv16 (a' := (⟨#[.pointer (some ⟨C, 0, none⟩), .int .i64 n, undef, undef, .slice none 0 0, .bool false, undef, undef, undef, undef, undef, undef, undef, .pointer (some ⟨C, 0, none⟩), .pointer (some ⟨C, 0, none⟩), .pointer (some ⟨C, 0, none⟩), .pointer (some ⟨B, 0, none⟩), .int .i64 n, .tuple #[.slice none 0 0, .int .i64 1], undef, undef, undef, undef, undef, undef, undef, undef, undef, undef, undef, undef, undef, undef, undef, undef, undef, undef, undef, undef, undef, undef, undef, undef, undef, undef, undef, undef, undef, undef, undef, undef, undef, undef, undef, undef, undef, undef, undef, undef, undef, undef, undef, undef, undef, undef, undef], []⟩ : Act)) (by kernel_rfl) ?_
    refine Can.pures (l := [6, 7, 8, 9, 10]) (rest := []) (a' := px16 C B n (.slice none 0 0) 1) hk (by kernel_rfl) (Can.out ?_)
    refine Can.restK (Q := fun v w' => v = .tuple #[.slice none 0 0, .bool true] ∧ Bel w1 w') Try.func16 codeOK16 (px16_vs (hlv.mono d1) (hB.mono d1) (VR.nilSlice 0 0)) rfl sf1 (by simp [Try.f16]) (fun v w' τ q => ⟨q.1, q.2.tp τ⟩) (fun τ => ?_) ?_
    · have hS1 : SideAt (w1.tp τ) b0 C B S L evs := by
        have : SideAt (w1.tp w.tape) b0 C B S L evs := h.below ⟨bw.os, rfl, bw.output, bw.size, bw.keep⟩
        exact ⟨this.low, this.blk, this.log, this.row, this.apart⟩
      exact rest16_no (w1.tp τ) b0 C B S L evs n hS1 (by omega) _ fun w' hb => ⟨rfl, Bel.of hb⟩
    · intro D2 v w2 d2 hv2 sf2 q
      obtain ⟨rfl, b2⟩ := q
      exact hK 0 D2 _ w2 (fun b hb => d2 b (d1 b hb)) (hv2.tuple (i := 0) rfl) sf2 (bw.trans b2)
end
end Go.Proofs.Ytlndinigbppafaa

/-
  The law Proven: its own frame: the pieces ahead of the proofs.
-/
namespace Go.Proofs.Ytlndinigbppafaa
open Go.Sim Go.Conc Go.Fi Go.RowKit

def r5_0 : Array Oper :=
  #[{ dst := some 4, op := .assign (.const (.bool false)), type := 4, pos := "law.go:154", after := #[], guard := none }]
def r5_1 : Array Oper :=
  #[{ dst := some 9, op := .call { callee := .value (.func 12), args := #[], argTypes := #[] }, type := 30, pos := "law.go:155", after := #[], guard := none },
    { dst := some 8, op := .move (.tmp 9), type := 30, pos := "law.go:155", after := #[{ on := 0, ground := .data }], guard := none },
    { dst := some 10, op := .extract (.tmp 8) 0, type := 29, pos := "law.go:155", after := #[{ on := 1, ground := .data }], guard := none },
    { dst := some 11, op := .extract (.tmp 8) 1, type := 4, pos := "law.go:155", after := #[{ on := 1, ground := .data }, { on := 4, ground := .gcOnly .lateStores }], guard := none },
    { dst := some 5, op := .assign (.tmp 10), type := 29, pos := "law.go:155", after := #[{ on := 2, ground := .data }, { on := 0, ground := .chain }, { on := 0, ground := .phase }, { on := 1, ground := .phase }, { on := 2, ground := .phase }, { on := 3, ground := .textOnly .lateStores }], guard := none },
    { dst := some 6, op := .assign (.tmp 11), type := 4, pos := "law.go:155", after := #[{ on := 3, ground := .data }, { on := 4, ground := .chain }, { on := 0, ground := .phase }, { on := 1, ground := .phase }, { on := 2, ground := .phase }, { on := 3, ground := .phase }, { on := 4, ground := .phase }], guard := none }]
def r5_2 : Array Oper :=
  #[{ dst := some 7, op := .assign (.const (.int .i64 0)), type := 3, pos := "law.go:156", after := #[], guard := none }]
def r5_3 : Array Oper :=
  #[{ dst := some 12, op := .move (.tmp 7), type := 3, pos := "law.go:156", after := #[], guard := none },
    { dst := some 13, op := .move (.tmp 0), type := 22, pos := "law.go:156", after := #[], guard := none },
    { dst := some 14, op := .call { callee := .builtin .len, args := #[.tmp 13], argTypes := #[22] }, type := 3, pos := "law.go:156", after := #[{ on := 1, ground := .data }], guard := none },
    { dst := some 15, op := .binOp .lss 3 (.tmp 12) (.tmp 14) 3, type := 4, pos := "law.go:156", after := #[{ on := 0, ground := .data }, { on := 2, ground := .data }], guard := none },
    { dst := some 16, op := .move (.tmp 15), type := 4, pos := "law.go:156", after := #[{ on := 3, ground := .data }], guard := none },
    { dst := some 17, op := .move (.tmp 6), type := 4, pos := "law.go:156", after := #[{ on := 4, ground := .guard }], guard := some (4, true) },
    { dst := some 18, op := .pick (.tmp 16) (.tmp 17) (.const (.bool false)), type := 4, pos := "law.go:156", after := #[{ on := 4, ground := .data }, { on := 5, ground := .data }], guard := none }]
def r5_5 : Array Oper :=
  #[{ dst := some 21, op := .move (.tmp 5), type := 29, pos := "law.go:157", after := #[], guard := none },
    { dst := some 22, op := .move (.tmp 0), type := 22, pos := "law.go:157", after := #[], guard := none },
    { dst := some 23, op := .move (.tmp 7), type := 3, pos := "law.go:157", after := #[], guard := none },
    { dst := some 24, op := .indexAddr 22 (.tmp 22) (.tmp 23), type := 0, pos := "law.go:157", after := #[{ on := 1, ground := .data }, { on := 2, ground := .data }], guard := none },
    { dst := some 25, op := .load 9 (.tmp 24), type := 9, pos := "law.go:157", after := #[{ on := 3, ground := .data }], guard := none },
    { dst := some 26, op := .call { callee := .value (.func 15), args := #[.tmp 21, .tmp 25], argTypes := #[29, 9] }, type := 4, pos := "law.go:157", after := #[{ on := 0, ground := .data }, { on := 4, ground := .data }], guard := none },
    { dst := some 6, op := .assign (.tmp 26), type := 4, pos := "law.go:157", after := #[{ on := 5, ground := .data }, { on := 5, ground := .chain }, { on := 0, ground := .phase }, { on := 1, ground := .phase }, { on := 2, ground := .phase }, { on := 3, ground := .phase }, { on := 4, ground := .phase }, { on := 5, ground := .phase }], guard := none }]
def r5_4 : Array Oper :=
  #[{ dst := some 19, op := .move (.tmp 7), type := 3, pos := "law.go:156", after := #[], guard := none },
    { dst := some 20, op := .binOp .add 3 (.tmp 19) (.const (.int .i64 1)) 3, type := 3, pos := "law.go:156", after := #[{ on := 0, ground := .data }], guard := none },
    { dst := some 7, op := .assign (.tmp 20), type := 3, pos := "law.go:156", after := #[{ on := 1, ground := .data }, { on := 0, ground := .phase }, { on := 1, ground := .phase }], guard := none }]
def r5_6 : Array Oper :=
  #[{ dst := some 27, op := .move (.tmp 6), type := 4, pos := "law.go:159", after := #[], guard := none },
    { dst := some 28, op := .unOp .not 4 (.tmp 27), type := 4, pos := "law.go:159", after := #[{ on := 0, ground := .data }], guard := none }]
def r5_7 : Array Oper :=
  #[{ dst := some 4, op := .assign (.const (.bool false)), type := 4, pos := "law.go:160", after := #[], guard := none }]
def r5_8 : Array Oper :=
  #[{ dst := some 30, op := .move (.tmp 5), type := 29, pos := "law.go:162", after := #[], guard := none },
    { dst := some 31, op := .move (.tmp 1), type := 3, pos := "law.go:162", after := #[], guard := none },
    { dst := some 32, op := .call { callee := .value (.func 16), args := #[.tmp 30, .tmp 31], argTypes := #[29, 3] }, type := 36, pos := "law.go:162", after := #[{ on := 0, ground := .data }, { on := 1, ground := .data }], guard := none },
    { dst := some 29, op := .move (.tmp 32), type := 36, pos := "law.go:162", after := #[{ on := 2, ground := .data }], guard := none },
    { dst := some 33, op := .extract (.tmp 29) 0, type := 23, pos := "law.go:162", after := #[{ on := 3, ground := .data }], guard := none },
    { dst := some 34, op := .extract (.tmp 29) 1, type := 4, pos := "law.go:162", after := #[{ on := 3, ground := .data }], guard := none },
    { dst := some 6, op := .assign (.tmp 34), type := 4, pos := "law.go:162", after := #[{ on := 5, ground := .data }, { on := 2, ground := .chain }, { on := 0, ground := .phase }, { on := 1, ground := .phase }, { on := 2, ground := .phase }, { on := 3, ground := .phase }, { on := 4, ground := .phase }, { on := 5, ground := .phase }], guard := none }]
def r5_9 : Array Oper :=
  #[{ dst := some 35, op := .move (.tmp 6), type := 4, pos := "law.go:163", after := #[], guard := none },
    { dst := some 4, op := .assign (.tmp 35), type := 4, pos := "law.go:163", after := #[{ on := 0, ground := .data }, { on := 0, ground := .phase }], guard := none }]
def c5 : Code := ((Code.region 0 r5_0 false).seq ((Code.region 1 r5_1 false).seq (((Code.region 2 r5_2 false).seq (Code.block 0 (((Code.region 3 r5_3 false).seq (Code.cond (Operand.tmp 18) Code.skip (Code.exit 0))).seq ((Code.block 1 (Code.region 5 r5_5 false)).seq (Code.region 4 r5_4 false))).loop)).seq (((Code.region 6 r5_6 false).seq (Code.cond (Operand.tmp 28) ((Code.region 7 r5_7 false).seq Code.ret) Code.skip)).seq ((Code.region 8 r5_8 false).seq ((Code.region 9 r5_9 false).seq Code.ret))))))
theorem body5 : Try.f5.body = some c5 := rfl

def c5lp : Code := (Code.region 2 r5_2 false).seq (Code.block 0 (((Code.region 3 r5_3 false).seq (Code.cond (Operand.tmp 18) Code.skip (Code.exit 0))).seq ((Code.block 1 (Code.region 5 r5_5 false)).seq (Code.region 4 r5_4 false))).loop)
def c5if : Code := (Code.region 6 r5_6 false).seq (Code.cond (Operand.tmp 28) ((Code.region 7 r5_7 false).seq Code.ret) Code.skip)
theorem c5_eq : c5 = (Code.region 0 r5_0 false).seq ((Code.region 1 r5_1 false).seq (c5lp.seq (c5if.seq ((Code.region 8 r5_8 false).seq ((Code.region 9 r5_9 false).seq Code.ret))))) := rfl
def rl5 : Rl := rolesOf [0, 13, 22] [24]

/-- All events, laid. -/
def layAll (ps : List ByteArray) : List ByteArray := ps.foldl layL []
theorem layL_ok {evs : List ByteArray} {s : ByteArray} (h : evs.length ≤ 500 ∧ ∀ x ∈ evs, x.size ≤ 50) : (layL evs s).length ≤ 500 ∧ ∀ x ∈ layL evs s, x.size ≤ 50 := by
  unfold layL
  split
  · exact h
  · split
    · exact h
    · refine ⟨by simp; omega, fun x hx => ?_⟩
      rcases List.mem_append.1 hx with hx | hx
      · exact h.2 x hx
      · simp at hx; subst hx; omega
theorem layAll_take (ps : List ByteArray) (k : Nat) (hk : k < ps.length) : layAll (ps.take (k + 1)) = layL (layAll (ps.take k)) ps[k] := by
  unfold layAll
  rw [take_snoc ps k hk, List.foldl_append]
  rfl
theorem layAll_ok (ps : List ByteArray) : (layAll ps).length ≤ 500 ∧ ∀ x ∈ layAll ps, x.size ≤ 50 := by
  unfold layAll
  have K : ∀ (l evs : List ByteArray), (evs.length ≤ 500 ∧ ∀ x ∈ evs, x.size ≤ 50) → (l.foldl layL evs).length ≤ 500 ∧ ∀ x ∈ l.foldl layL evs, x.size ≤ 50 := by
    intro l
    induction l with
    | nil => exact fun _ h => h
    | cons s l ih => exact fun evs h => ih _ (layL_ok h)
  exact K ps [] ⟨by simp, fun x hx => by cases hx⟩

theorem lay_any (w : World) (b0 C B : Nat) (S L : Value) (evs : List ByteArray) (s : ByteArray) (h : SideAt w b0 C B S L evs) (hb0 : b0 ≤ w.heap.size) (hl : evs.length ≤ 500) (hm : s.size ≤ maxLen) :
    Calls Try.prog 15 #[.pointer (some ⟨C, 0, none⟩), .string s] w fun e w' => e = .returned (.bool true) ∧ ∃ S' L', SideAt w' b0 C B S' L' (layL evs s) ∧ Below b0 w w' := by
  unfold layL
  by_cases h1 : 50 < s.size
  · rw [if_pos h1]
    exact (lay_long w b0 C B S L evs s h h1 hm).mono fun e w' q => ⟨q.1, S, L, h.below q.2.1, q.2.1.mono hb0⟩
  · rw [if_neg h1]
    by_cases h2 : 500 ≤ evs.length
    · rw [if_pos h2]
      exact (lay_many w b0 C B S L evs s h (by omega) (by omega)).mono fun e w' q => ⟨q.1, S, L, h.below q.2.1, q.2.1.mono hb0⟩
    · rw [if_neg h2]
      exact lay_ok w b0 C B S L evs s h hb0 (by omega) (by omega)

theorem codeOK5_1 : CodeOK Try.prog (Code.region 1 r5_1 false) := codeB_ok infos (by kernel_rfl)
theorem codeOK5_lp : CodeOK Try.prog c5lp := codeB_ok infos (by kernel_rfl)
theorem codeOK5_if : CodeOK Try.prog c5if := codeB_ok infos (by kernel_rfl)
theorem codeR5_1 : CodeR Try.prog rl5 (Code.region 1 r5_1 false) := codeRB_ok (by kernel_rfl)
theorem codeR5_lp : CodeR Try.prog rl5 c5lp := codeRB_ok (by kernel_rfl)
theorem codeR5_if : CodeR Try.prog rl5 c5if := codeRB_ok (by kernel_rfl)

set_option maxRecDepth 100000 in
set_option maxHeartbeats 1000000 in
theorem wp5_1 (w : World) (v : Value) (n : Int) (Q : Exit → Act → World → Prop)
    (hQ : ∀ w', SideAt w' w.heap.size (w.heap.size + 1) w.heap.size (.slice none 0 0) (.slice none 0 0) [] → Below w.heap.size w w' → Q .normal ⟨#[v, .int .i64 n, undef, undef, .bool false, .pointer (some ⟨w.heap.size + 1, 0, none⟩), .bool true, undef, .tuple #[.pointer (some ⟨w.heap.size + 1, 0, none⟩), .bool true], .tuple #[.pointer (some ⟨w.heap.size + 1, 0, none⟩), .bool true], .pointer (some ⟨w.heap.size + 1, 0, none⟩), .bool true, undef, undef, undef, undef, undef, undef, undef, undef, undef, undef, undef, undef, undef, undef, undef, undef, undef, undef, undef, undef, undef, undef, undef, undef], []⟩ w') :
    (Code.region 1 r5_1 false).wp Try.prog Q ⟨#[v, .int .i64 n, undef, undef, .bool false, undef, undef, undef, undef, undef, undef, undef, undef, undef, undef, undef, undef, undef, undef, undef, undef, undef, undef, undef, undef, undef, undef, undef, undef, undef, undef, undef, undef, undef, undef, undef], []⟩ w := by
  have HQ : Hid _ := hQ
  clear hQ
  unfold r5_1
  go_wp2_with fail
  refine (begun_any w).mono ?_
  rintro e w1 ⟨rfl, hS, hb⟩
  have := HQ.out w1 hS hb
  go_wp2
  exact this
end Go.Proofs.Ytlndinigbppafaa

/-
  The law Proven: its own frame: the loop that lays the events.
-/
namespace Go.Proofs.Ytlndinigbppafaa
open Go.Sim Go.Conc Go.Fi Go.RowKit

/-- The frame ahead of the proofs. -/
def px5 (v : Value) (n : Int) (C : Nat) (x : Nat → Value) : Act :=
  ⟨#[v, .int .i64 n, undef, undef, .bool false, .pointer (some ⟨C, 0, none⟩), .bool true, x 7, .tuple #[.pointer (some ⟨C, 0, none⟩), .bool true], .tuple #[.pointer (some ⟨C, 0, none⟩), .bool true], .pointer (some ⟨C, 0, none⟩), .bool true, x 12, x 13, x 14, x 15, x 16, x 17, x 18, x 19, x 20, x 21, x 22, x 23, x 24, x 25, x 26, x 27, x 28, undef, undef, undef, undef, undef, undef, undef], []⟩

set_option maxRecDepth 100000 in
set_option maxHeartbeats 4000000 in
theorem wp5_lp (w : World) (v : Value) (n : Int) (b0 C B : Nat) (ps : List ByteArray) (x : Nat → Value) (hv : StringsAt w v ps) (hn1 : ps.length ≤ maxLen) (hn2 : ∀ p ∈ ps, p.size ≤ maxLen) (hvb : ∀ w', Below b0 w w' → StringsAt w' v ps) (hb0 : b0 ≤ w.heap.size)
    (h : SideAt w b0 C B (.slice none 0 0) (.slice none 0 0) []) (Q : Exit → Act → World → Prop)
    (hQ : ∀ w' S L a', a' = px5 v n C (fun i => a'.tmps.getD i undef) → SideAt w' b0 C B S L (layAll ps) → Below b0 w w' → Q .normal a' w') :
    c5lp.wp Try.prog Q (px5 v n C x) w := by
  have HQ : Hid _ := hQ
  have HV : Hid _ := hvb
  have HN : Hid _ := hn2
  clear hQ hvb hn2
  obtain ⟨ao, cap, rfl, hc⟩ := hv
  clear hc
  unfold c5lp r5_2 r5_3 r5_4 r5_5 px5
  go_wp2
  go_loopw [6, 7] (fun o i wr => ∃ (k : Nat) (S L : Value), k ≤ ps.length ∧ i = .int .i64 k ∧ o = .bool true ∧ SideAt wr b0 C B S L (layAll (ps.take k)) ∧ Below b0 w wr) (fun _ i _ => ps.length - (intOf i).toNat)
  case atStart => exact ⟨0, _, _, Nat.zero_le _, rfl, rfl, h, Below.refl _ _⟩
  case round =>
    obtain ⟨k, S, L, hk, rfl, rfl, hS, hb⟩ := hrel
    have hsz := hb.size
    by_cases hlt : k < ps.length
    · have hki : (k : Int) < (ps.length : Int) := by omega
      obtain ⟨ao', cap', e, hc⟩ := HV.out wr hb
      cases e
      obtain ⟨b, o, rfl, hbl, hcell⟩ := hc (by omega)
      have hck := hcell k hlt
      clear hcell hc
      have hml : (ps.length : Int) ≤ 9223372036854775807 := by unfold maxLen at hn1; omega
      go_wp2_with fail
      refine (lay_any wr b0 C B S L _ ps[k] hS (by omega) (layAll_ok _).1 (HN.out _ (List.getElem_mem hlt))).mono ?_
      rintro e w2 ⟨rfl, S', L', hS', hb2⟩
      rw [← layAll_take ps k hlt] at hS'
      go_wp2
      go_roundw
      case rel => exact ⟨k + 1, S', L', by omega, by go_num, rfl, hS', hb.trans hb2⟩
      case measure => simp [intOf]; omega
    · have hke : k = ps.length := by omega
      subst hke
      rw [List.take_length] at hS
      go_wp2
      exact HQ.out _ _ _ _ (by kernel_rfl) hS hb

set_option maxRecDepth 100000 in
set_option maxHeartbeats 4000000 in
theorem wp5_if (w : World) (v : Value) (n : Int) (C : Nat) (x : Nat → Value) (Q : Exit → Act → World → Prop) (hQ : ∀ a', a' = px5 v n C (fun i => a'.tmps.getD i undef) → Q .normal a' w) : c5if.wp Try.prog Q (px5 v n C x) w := by
  have HQ : Hid _ := hQ
  clear hQ
  unfold c5if r5_6 r5_7 px5
  go_wp2
  exact HQ.out _ (by kernel_rfl)
end Go.Proofs.Ytlndinigbppafaa

/-
  The law Proven: its own frame, whole.
-/

namespace Go.Proofs.Ytlndinigbppafaa
open Go.Sim Go.Conc Go.Fi Go.RowKit

theorem side_tp {w : World} {τ : Nat → Question → Nat} {b0 C B : Nat} {S L : Value} {evs : List ByteArray} (h : SideAt w b0 C B S L evs) : SideAt (w.tp τ) b0 C B S L evs := ⟨h.low, h.blk, h.log, h.row, h.apart⟩
theorem bel_tp' {w u : World} {τ : Nat → Question → Nat} (h : Below w.heap.size (w.tp τ) u) : Bel w u := ⟨h.os, h.output, h.size, h.block⟩
def sv5 (v : Value) : Nat → Value := fun i => if i = 0 then v else undef
theorem sv5_ok {Fo : FoT} {v : Value} (h : SlV Fo v) : SvOK rl5 Fo (sv5 v) := by
  intro i
  unfold sv5
  by_cases hi : i = 0
  · subst hi
    exact ⟨fun _ => h, fun q => by cases q⟩
  · rw [if_neg hi]
    exact ⟨fun _ => .inl rfl, fun _ => .inl rfl⟩
set_option maxRecDepth 100000 in
theorem z5_ov (v : Value) (n : Int) : (⟨#[v, .int .i64 n, undef, undef, .bool false, undef, undef, undef, undef, undef, undef, undef, undef, undef, undef, undef, undef, undef, undef, undef, undef, undef, undef, undef, undef, undef, undef, undef, undef, undef, undef, undef, undef, undef, undef, undef], []⟩ : Act) = ⟨ov rl5 (sv5 v) (⟨#[undef, .int .i64 n, undef, undef, .bool false, undef, undef, undef, undef, undef, undef, undef, undef, undef, undef, undef, undef, undef, undef, undef, undef, undef, undef, undef, undef, undef, undef, undef, undef, undef, undef, undef, undef, undef, undef, undef], []⟩ : Act).tmps, []⟩ := by kernel_rfl
set_option maxRecDepth 100000 in
theorem z5_vs {D : Nat → Prop} (n : Int) : ∀ x ∈ (⟨#[undef, .int .i64 n, undef, undef, .bool false, undef, undef, undef, undef, undef, undef, undef, undef, undef, undef, undef, undef, undef, undef, undef, undef, undef, undef, undef, undef, undef, undef, undef, undef, undef, undef, undef, undef, undef, undef, undef], []⟩ : Act).tmps, Vs D x := by
  refine vs_arr' ?_
  repeat' first
    | exact vs_nil'
    | exact vs_undef'
    | exact Vs.int _ _ _
    | exact Vs.bool _ _
    | refine vs_cons' ?_ ?_
theorem px5_start (v : Value) (n : Int) (C : Nat) : (⟨#[v, .int .i64 n, undef, undef, .bool false, .pointer (some ⟨C, 0, none⟩), .bool true, undef, .tuple #[.pointer (some ⟨C, 0, none⟩), .bool true], .tuple #[.pointer (some ⟨C, 0, none⟩), .bool true], .pointer (some ⟨C, 0, none⟩), .bool true, undef, undef, undef, undef, undef, undef, undef, undef, undef, undef, undef, undef, undef, undef, undef, undef, undef, undef, undef, undef, undef, undef, undef, undef], []⟩ : Act) = px5 v n C (fun _ => undef) := by kernel_rfl
theorem fn5_res : ∀ r ∈ Try.f5.results, ∃ t, r = .tmp t := by simp [Try.f5]
theorem px5_slot {sv : Nat → Value} {t : Array Value} {v : Value} {n : Int} {C : Nat} {x : Nat → Value} (h : (⟨ov rl5 sv t, []⟩ : Act) = px5 v n C x) : .pointer (some ⟨C, 0, none⟩) ∈ t := by
  have h1 : ov rl5 sv t = (px5 v n C x).tmps := congrArg Act.tmps h
  have h2 : (ov rl5 sv t)[5]? = some (.pointer (some ⟨C, 0, none⟩)) := by rw [h1]; rfl
  rw [ov_get] at h2
  cases h3 : t[5]? with
  | none => rw [h3] at h2; cases h2
  | some y =>
    rw [h3] at h2
    have : y = .pointer (some ⟨C, 0, none⟩) := by simpa [rl5, rolesOf] using h2
    exact this ▸ Array.mem_of_getElem? h3

set_option maxRecDepth 100000 in
set_option maxHeartbeats 4000000 in
theorem can_proven {Fo : FoT} {D : Nat → Prop} {ps : List ByteArray} {v : Value} {n : Int} {w : World} {Post : Value → World → Prop} (hv : StringsAt w v ps) (hn1 : ps.length ≤ maxLen) (hn2 : ∀ p ∈ ps, p.size ≤ maxLen) (hvs : SlV Fo v) (hext : ExtOK Fo D w) (hSf : Sf D w)
    (hPost : ∀ w', Bel w w' → Post (.bool true) w') (hP : ∀ v w w₁, Post v w → Eqv w w₁ → Post v w₁) :
    Can (Done Post) 0 (G ((base 5).at (⟨#[v, .int .i64 n, undef, undef, undef, undef, undef, undef, undef, undef, undef, undef, undef, undef, undef, undef, undef, undef, undef, undef, undef, undef, undef, undef, undef, undef, undef, undef, undef, undef, undef, undef, undef, undef, undef, undef], []⟩ : Act) [.code c5]) []) w := by
  have hk : (base 5).kind ≠ .early := by intro h; cases h
  rw [c5_eq]
  refine Can.seq (Can.region (a' := (⟨#[v, .int .i64 n, undef, undef, .bool false, undef, undef, undef, undef, undef, undef, undef, undef, undef, undef, undef, undef, undef, undef, undef, undef, undef, undef, undef, undef, undef, undef, undef, undef, undef, undef, undef, undef, undef, undef, undef], []⟩ : Act)) hk (by kernel_rfl) ?_)
  refine Can.conv16 (z5_ov v n) (Can.seq ?_)
  refine Can.pieceX (Fo := Fo) (a := (⟨#[undef, .int .i64 n, undef, undef, .bool false, undef, undef, undef, undef, undef, undef, undef, undef, undef, undef, undef, undef, undef, undef, undef, undef, undef, undef, undef, undef, undef, undef, undef, undef, undef, undef, undef, undef, undef, undef, undef], []⟩ : Act)) (Q := fun a u => a = px5 v n (w.heap.size + 1) (fun _ => undef) ∧ SideAt u w.heap.size (w.heap.size + 1) w.heap.size (.slice none 0 0) (.slice none 0 0) [] ∧ Bel w u) Try.func5 codeOK5_1 codeR5_1 (z5_vs n) rfl hSf (sv5_ok hvs) hext (fun a u τ q => ⟨q.1, side_tp q.2.1, q.2.2.tp τ⟩) (fun τ => ?_) ?_
  · rw [← z5_ov]
    exact wp5_1 (w.tp τ) v n _ fun w' hS hb => ⟨rfl, px5_start v n _, hS, Bel.of hb⟩
  intro D1 sv1 t1 w1 d1 vs1 sf1 so1 ex1 q1
  obtain ⟨e1, S1, b1⟩ := q1
  refine Can.seq (Can.pieceX (Fo := Fo) (rl := rl5) (sv := sv1) (a := ⟨t1, []⟩) (Q := fun a u => ∃ S L, a = px5 v n (w.heap.size + 1) (fun i => a.tmps.getD i undef) ∧ SideAt u w.heap.size (w.heap.size + 1) w.heap.size S L (layAll ps) ∧ Bel w u) Try.func5 codeOK5_lp codeR5_lp vs1 rfl sf1 so1 ex1 (fun a u τ q => by obtain ⟨S, L, q1, q2, q3⟩ := q; exact ⟨S, L, q1, side_tp q2, q3.tp τ⟩) (fun τ => ?_) ?_)
  · show c5lp.wp Try.prog _ ⟨ov rl5 sv1 t1, []⟩ _
    rw [e1]
    have hb1 : Below w.heap.size (w.tp τ) (w1.tp τ) := ⟨b1.os, rfl, b1.output, b1.size, b1.keep⟩
    have hvt : StringsAt (w.tp τ) v ps := hv
    refine wp5_lp (w1.tp τ) v n w.heap.size (w.heap.size + 1) w.heap.size ps (fun _ => undef) (hvt.below hb1) hn1 hn2 (fun w' hb => hvt.below (hb1.trans hb)) b1.size (side_tp S1) _ fun w' S L a' ea hS hb => ⟨rfl, S, L, ea, hS, bel_tp' (hb1.trans hb)⟩
  intro D2 sv2 t2 w2 d2 vs2 sf2 so2 ex2 q2
  obtain ⟨S2, L2, e2, hS2, b2⟩ := q2
  refine Can.seq (Can.pieceX (Fo := Fo) (rl := rl5) (sv := sv2) (a := ⟨t2, []⟩) (Q := fun a u => a = px5 v n (w.heap.size + 1) (fun i => a.tmps.getD i undef) ∧ SideAt u w.heap.size (w.heap.size + 1) w.heap.size S2 L2 (layAll ps) ∧ Bel w u) Try.func5 codeOK5_if codeR5_if vs2 rfl sf2 so2 ex2 (fun a u τ q => ⟨q.1, side_tp q.2.1, q.2.2.tp τ⟩) (fun τ => ?_) ?_)
  · show c5if.wp Try.prog _ ⟨ov rl5 sv2 t2, []⟩ _
    rw [e2]
    exact wp5_if (w2.tp τ) v n (w.heap.size + 1) _ _ fun a' ea => ⟨rfl, ea, side_tp hS2, b2.tp τ⟩
  intro D3 sv3 t3 w3 d3 vs3 sf3 so3 ex3 q3
  obtain ⟨e3, S3, b3⟩ := q3
  revert e3
  generalize (fun i => (⟨ov rl5 sv3 t3, []⟩ : Act).tmps.getD i undef) = x
  generalize w.heap.size + 1 = C at S3
  intro e3
  have hC : Vs D3 (.pointer (some ⟨C, 0, none⟩)) := vs3 _ (px5_slot e3)
  refine Can.conv16 e3 ?_
  unfold px5
  refine Can.seq (Can.into (Can.pures (l := [0, 1]) (rest := [2, 3, 4, 5, 6]) (a' := (⟨#[v, .int .i64 n, undef, undef, .bool false, .pointer (some ⟨C, 0, none⟩), .bool true, x 7, .tuple #[.pointer (some ⟨C, 0, none⟩), .bool true], .tuple #[.pointer (some ⟨C, 0, none⟩), .bool true], .pointer (some ⟨C, 0, none⟩), .bool true, x 12, x 13, x 14, x 15, x 16, x 17, x 18, x 19, x 20, x 21, x 22, x 23, x 24, x 25, x 26, x 27, x 28, undef, .pointer (some ⟨C, 0, none⟩), .int .i64 n, undef, undef, undef, undef], []⟩ : Act)) hk (by kernel_rfl) ?_))
  refine Can.enter (o := r5_8[2]) hk rfl rfl rfl Try.func16 (by simp [Try.f16]) body16 ?_
  have e : (#[.tmp 30, .tmp 31] : Array Operand).map (⟨#[v, .int .i64 n, undef, undef, .bool false, .pointer (some ⟨C, 0, none⟩), .bool true, x 7, .tuple #[.pointer (some ⟨C, 0, none⟩), .bool true], .tuple #[.pointer (some ⟨C, 0, none⟩), .bool true], .pointer (some ⟨C, 0, none⟩), .bool true, x 12, x 13, x 14, x 15, x 16, x 17, x 18, x 19, x 20, x 21, x 22, x 23, x 24, x 25, x 26, x 27, x 28, undef, .pointer (some ⟨C, 0, none⟩), .int .i64 n, undef, undef, undef, undef], []⟩ : Act).eval ++ Array.replicate (Try.f16.ntmps - ((#[.tmp 30, .tmp 31] : Array Operand).map (⟨#[v, .int .i64 n, undef, undef, .bool false, .pointer (some ⟨C, 0, none⟩), .bool true, x 7, .tuple #[.pointer (some ⟨C, 0, none⟩), .bool true], .tuple #[.pointer (some ⟨C, 0, none⟩), .bool true], .pointer (some ⟨C, 0, none⟩), .bool true, x 12, x 13, x 14, x 15, x 16, x 17, x 18, x 19, x 20, x 21, x 22, x 23, x 24, x 25, x 26, x 27, x 28, undef, .pointer (some ⟨C, 0, none⟩), .int .i64 n, undef, undef, undef, undef], []⟩ : Act).eval).size) undef = #[.pointer (some ⟨C, 0, none⟩), .int .i64 n, undef, undef, undef, undef, undef, undef, undef, undef, undef, undef, undef, undef, undef, undef, undef, undef, undef, undef, undef, undef, undef, undef, undef, undef, undef, undef, undef, undef, undef, undef, undef, undef, undef, undef, undef, undef, undef, undef, undef, undef, undef, undef, undef, undef, undef, undef, undef, undef, undef, undef, undef, undef, undef, undef, undef, undef, undef, undef, undef, undef, undef, undef, undef, undef] := by kernel_rfl
  rw [e]
  refine Can.sideProofs (ops := r5_8) (i := 2) (rest := [3, 4, 5, 6]) S3 (layAll_ok ps).1 (layAll_ok ps).2 hC sf3 fun N D4 l w4 d4 hl4 sf4 b4 => ?_
  refine Can.conv16 (a' := (⟨#[v, .int .i64 n, undef, undef, .bool false, .pointer (some ⟨C, 0, none⟩), .bool true, x 7, .tuple #[.pointer (some ⟨C, 0, none⟩), .bool true], .tuple #[.pointer (some ⟨C, 0, none⟩), .bool true], .pointer (some ⟨C, 0, none⟩), .bool true, x 12, x 13, x 14, x 15, x 16, x 17, x 18, x 19, x 20, x 21, x 22, x 23, x 24, x 25, x 26, x 27, x 28, undef, .pointer (some ⟨C, 0, none⟩), .int .i64 n, .tuple #[l, .bool true], undef, undef, undef], []⟩ : Act)) (by kernel_rfl) ?_
  refine Can.pures (l := [3, 4, 5, 6]) (rest := []) (a' := (⟨#[v, .int .i64 n, undef, undef, .bool false, .pointer (some ⟨C, 0, none⟩), .bool true, x 7, .tuple #[.pointer (some ⟨C, 0, none⟩), .bool true], .tuple #[.pointer (some ⟨C, 0, none⟩), .bool true], .pointer (some ⟨C, 0, none⟩), .bool true, x 12, x 13, x 14, x 15, x 16, x 17, x 18, x 19, x 20, x 21, x 22, x 23, x 24, x 25, x 26, x 27, x 28, .tuple #[l, .bool true], .pointer (some ⟨C, 0, none⟩), .int .i64 n, .tuple #[l, .bool true], l, .bool true, undef], []⟩ : Act)) hk (by kernel_rfl) (Can.out ?_)
  refine Can.seq (Can.region (a' := (⟨#[v, .int .i64 n, undef, undef, .bool true, .pointer (some ⟨C, 0, none⟩), .bool true, x 7, .tuple #[.pointer (some ⟨C, 0, none⟩), .bool true], .tuple #[.pointer (some ⟨C, 0, none⟩), .bool true], .pointer (some ⟨C, 0, none⟩), .bool true, x 12, x 13, x 14, x 15, x 16, x 17, x 18, x 19, x 20, x 21, x 22, x 23, x 24, x 25, x 26, x 27, x 28, .tuple #[l, .bool true], .pointer (some ⟨C, 0, none⟩), .int .i64 n, .tuple #[l, .bool true], l, .bool true, .bool true], []⟩ : Act)) hk (by kernel_rfl) ?_)
  refine Can.ret (Can.done (v := .bool true) rfl fun w₁ hE => ⟨?_, hP _ _ _ (hPost w4 (b3.trans b4)) hE⟩)
  exact stepG_done rfl rfl rfl Try.func5 (by kernel_rfl) (by kernel_rfl) w₁
end Go.Proofs.Ytlndinigbppafaa

/-
  Arguments that are handed in: lists of strings and numbers, however long; five of them.
-/
namespace Go.Proofs.Ytlndinigbppafaa
open Go.ChangeShapes Go.WideShapes Go.ChangeAt Go.RowKit

theorem Try.cellsStrA : Try.prog.cellsOf 9 = 1 := by kernel_rfl
theorem Try.ownA : ownKnob Try.prog.godebug = none := by kernel_rfl
theorem Try.laidA : laidOutB Try.prog = true := by kernel_rfl

theorem wf64 {n : Int} (h : (Lit.int .i64 n).wf = true) : -9223372036854775808 ≤ n ∧ n ≤ 9223372036854775807 := by
  simp only [Lit.wf, Bool.and_eq_true, decide_eq_true_eq] at h
  exact h

set_option maxRecDepth 100000 in
/-- An argument that is a list of strings: what it holds. -/
theorem strings_wide {H : Type} {enc : TypeId × Value → H} {W : World} {base : Nat} {v : Value} {d : DataW H} {p : List MemPlace}
    (hok : Value.okWide Try.prog W .any base 22 v) (h : DataW.Trod enc Try.prog W 0 (fun _ => true) true 22 v d p) (hlt : ∀ x ∈ p, x.block < W.heap.size) :
    ∃ ps : List ByteArray, StringsAt W v ps ∧ ps.length ≤ maxLen ∧ ∀ s ∈ ps, s.size ≤ maxLen := by
  obtain ⟨a0, len, cap, rfl⟩ := okWide_slice Try.underlying22 hok
  obtain ⟨fuel, hf⟩ := h
  rcases open_strings Try.underlying22 Try.underlying9 Try.cellsStrA hf with ⟨hcs, hx⟩ | ⟨a, len', cap', ss, hcs, _, hl, hm, hz, hx, hcell, hws⟩
  · simp [Value.cells] at hcs
    obtain ⟨rfl, rfl, rfl⟩ := hcs
    exact ⟨[], ⟨none, 0, rfl, fun h => by simp at h⟩, by simp, fun s hs => by cases hs⟩
  · simp [Value.cells] at hcs
    obtain ⟨rfl, rfl, rfl⟩ := hcs
    simp only [Prod.mk.injEq] at hx
    obtain ⟨rfl, rfl⟩ := hx
    simp only [if_true] at hz
    refine ⟨ss.take len, ⟨some a, cap, by rw [List.length_take]; congr 1; omega, fun h => ?_⟩, ?_, fun s hs => hws s (List.mem_of_mem_take hs)⟩
    · rw [List.length_take] at h
      obtain ⟨b, off, spot⟩ := a
      have hspot : spot = none := by simpa [Addr.add] using World.cell?_spot (hcell 0 (by omega))
      subst hspot
      refine ⟨b, off, rfl, hlt (.cell b off) (MemPlace.mem_row.2 ⟨0, by omega, by simp⟩), fun j hj => ?_⟩
      rw [List.length_take] at hj
      rw [← add_plain, hcell j (by omega)]
      simp [List.getElem?_eq_getElem (show j < ss.length by omega)]
    · rw [List.length_take]; omega

section
variable {H : Type} {enc : TypeId × Value → H} {P : Program} {w : World} {base : Nat} {spare : Nat → Bool} {held : Bool}
theorem trodAll_five {t0 t1 t2 t3 t4 : TypeId} {args : Array Value} {ds : List (DataW H)} {ps : List MemPlace} (h : DataW.TrodAll enc P w base spare held [t0, t1, t2, t3, t4] args.toList ds ps) :
    ∃ v0 v1 v2 v3 v4 d0 d1 d2 d3 d4 p0 p1 p2 p3 p4, args = #[v0, v1, v2, v3, v4] ∧ ds = [d0, d1, d2, d3, d4] ∧ ps = p0 ++ (p1 ++ (p2 ++ (p3 ++ p4))) ∧ DataW.Trod enc P w base spare held t0 v0 d0 p0 ∧ DataW.Trod enc P w base spare held t1 v1 d1 p1 ∧ DataW.Trod enc P w base spare held t2 v2 d2 p2 ∧ DataW.Trod enc P w base spare held t3 v3 d3 p3 ∧ DataW.Trod enc P w base spare held t4 v4 d4 p4 := by
  obtain ⟨v0, vs, d0, ds0, p0, q0, hargs, rfl, rfl, h0, r0⟩ := trodAll_cons h
  obtain ⟨v1, vs1, d1, ds1, p1, q1, rfl, rfl, rfl, h1, r1⟩ := trodAll_cons r0
  obtain ⟨v2, vs2, d2, ds2, p2, q2, rfl, rfl, rfl, h2, r2⟩ := trodAll_cons r1
  obtain ⟨v3, vs3, d3, ds3, p3, q3, rfl, rfl, rfl, h3, r3⟩ := trodAll_cons r2
  obtain ⟨v4, vs4, d4, ds4, p4, q4, rfl, rfl, rfl, h4, r4⟩ := trodAll_cons r3
  obtain ⟨rfl, rfl, rfl⟩ := trodAll_nil r4
  exact ⟨v0, v1, v2, v3, v4, d0, d1, d2, d3, d4, p0, p1, p2, p3, p4, by cases args; simp_all, rfl, by simp, h0, h1, h2, h3, h4⟩
theorem trodAll_mk5 {t0 t1 t2 t3 t4 : TypeId} {v0 v1 v2 v3 v4 : Value} {d0 d1 d2 d3 d4 : DataW H} {p0 p1 p2 p3 p4 : List MemPlace} (h0 : DataW.Trod enc P w base spare held t0 v0 d0 p0) (h1 : DataW.Trod enc P w base spare held t1 v1 d1 p1) (h2 : DataW.Trod enc P w base spare held t2 v2 d2 p2) (h3 : DataW.Trod enc P w base spare held t3 v3 d3 p3) (h4 : DataW.Trod enc P w base spare held t4 v4 d4 p4) :
    DataW.TrodAll enc P w base spare held [t0, t1, t2, t3, t4] [v0, v1, v2, v3, v4] [d0, d1, d2, d3, d4] (p0 ++ (p1 ++ (p2 ++ (p3 ++ p4)))) := ⟨p0, _, h0, trodAll_mk4 h1 h2 h3 h4, rfl⟩
end
end Go.Proofs.Ytlndinigbppafaa
