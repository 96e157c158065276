/-
  Texts of ours, joined: LogD, CnB, Hon, StA, StB, ArgIn, Lv, StC, LiB, HoB, HoS, HoW.
-/
import Derived.Test.YtlndinigbppafaaGreatJ51
import Derived.Lib.BufferWrite
import Derived.Lib.UnsafeStr
import Derived.Laws.MakeOwn
import Derived.Deep.RegionLaw
import Derived.Deep.AppendLies
import Derived.Test.YtlndinigbppafaaGreatDec
import Derived.Test.YtlndinigbppafaaGreatSnd
import Derived.Test.YtlndinigbppafaaGreatSm
import Derived.Test.YtlndinigbppafaaGreatRows
import Derived.ProofKit
import Derived.SliceStrings
import Derived.Conc.Holds
import Derived.SizedLaws
import Derived.ChangeMaps5
import Derived.Test.YtlndinigbppafaaGreatKinA
import Derived.Laws.OwnMore
/-
  The walks of strings.Clone, and of the program's NewLog.
-/
namespace Go.Proofs.YtlndinigbppafaaGreat
open Go.RowKit

theorem Tryz.ptrByte : Tryz.prog.cellsOf 5 = 1 := by kernel_rfl

set_option maxRecDepth 100000 in
set_option maxHeartbeats 1000000 in
theorem cloneLite_any (s : ByteArray) (w : World) (hs : s.size ≤ 1000000) :
    Calls Tryz.prog 107 #[.string s] w fun e w' => e = .returned (.string s) ∧ Below w.heap.size w w' := by
  by_cases h0 : s.size = 0
  · obtain rfl : s = ⟨#[]⟩ := by
      apply ByteArray.ext
      exact Array.eq_empty_of_size_eq_zero h0
    go_enter Tryz.func107, Tryz.ntmps107
    go_wp2
    go_ret
    exact ⟨rfl, Below.refl _ _⟩
  · obtain ⟨i0, hi, hz0, hz1, hz2⟩ := info_parts Tryz.infoByte
    have hinfo : (Tryz.prog.info? 5).map (·.size) = some 1 := by rw [hi]; simp [hz1]
    -- the new row, and what the copy makes of it
    obtain ⟨Z, hZ⟩ : ∃ Z, Z = madeCells (Value.int .u8 0).cells (((s.size : Nat) : Int).toNat * i0.size) := ⟨_, rfl⟩
    have hZs : Z.size = s.size := by rw [hZ, size_madeCells, hz1]; simp
    have hmk : ∀ u : World, (Instr.makeSlice 27 (.int .i64 (s.size : Int)) (.int .i64 (s.size : Int))).run Tryz.prog u = .ok (.slice (some ⟨u.heap.size, 0, none⟩) s.size s.size) (u.alloc (.cells Z 5)) := fun u => by
      have h := run_make (P := Tryz.prog) u 27 5 i0 (.int .u8 0) Tryz.underlying27 hi hz0 .i64 .i64 (s.size : Int) (s.size : Int) (by omega) (by omega) (by rw [hz2]; omega) (by omega)
      rw [← hZ] at h
      simpa using h
    clear hZ
    have hcp := Lib.run_copy_row_string (P := Tryz.prog) (w.alloc (.cells Z 5)) 27 9 3 5 w.heap.size 0 s.size s.size s Z 5 Tryz.underlying27 hinfo (heap_alloc_new w _) (Nat.le_refl _) (by omega)
    obtain ⟨Y, hY⟩ : ∃ Y, Y = (Z.toList.take 0 ++ Lib.byteCells s.data.toList ++ Z.toList.drop (0 + s.size)).toArray := ⟨_, rfl⟩
    rw [← hY] at hcp
    have hYl : Y.toList = Lib.byteCells s.data.toList := by
      rw [hY, List.toList_toArray, List.take_zero, List.nil_append, List.drop_of_length_le (by rw [Array.length_toList]; omega), List.append_nil]
    have hYs : Y.size = s.size := by rw [← Array.length_toList, hYl, Lib.byteCells_length, ← Lib.size_eq]
    have hgY : ((w.alloc (.cells Z 5)).setRow w.heap.size Y).heap[w.heap.size]? = some (.cells Y 5 (0, 0)) := setRow_heap _ _ Z _ 5 (0, 0) (heap_alloc_new w _)
    have hne : s.data.toList ≠ [] := fun e => h0 (by rw [Lib.size_eq, e]; rfl)
    have hUS := Lib.run_unsafeString_row (P := Tryz.prog) ((w.alloc (.cells Z 5)).setRow w.heap.size Y) 208 3 9 5 Tryz.underlying208 Tryz.ptrByte w.heap.size Y.size (by unfold World.shape?; rw [hgY]) s.data.toList hne (by rw [← Lib.size_eq]; omega) (by rw [← Lib.size_eq]; omega)
      (fun j x hx => Lib.cells_of_row hgY Y.size j _ (by rw [List.take_of_length_le (by rw [Array.length_toList]; exact Nat.le_refl _), hYl]; simp [Lib.byteCells, hx]))
    rw [← Lib.size_eq] at hUS
    clear hY
    go_enter Tryz.func107, Tryz.ntmps107
    go_wp2
    go_ret
    have hb1 : Below w.heap.size w (w.alloc (.cells Z 5)) := (Below.refl _ w).alloc (Nat.le_refl _) _
    have hb2 : Below w.heap.size (w.alloc (.cells Z 5)) ((w.alloc (.cells Z 5)).setRow w.heap.size Y) := ⟨rfl, rfl, rfl, by simp, fun k hk => setRow_other _ _ _ _ (by omega)⟩
    exact ⟨rfl, Lib.below_freeze (hb1.trans hb2) (p := ⟨w.heap.size, 0, none⟩) (Nat.le_refl _) _⟩

set_option maxRecDepth 100000 in
set_option maxHeartbeats 400000 in
theorem clone_any (s : ByteArray) (w : World) (hs : s.size ≤ 1000000) :
    Calls Tryz.prog 73 #[.string s] w fun e w' => e = .returned (.string s) ∧ Below w.heap.size w w' := by
  go_enter Tryz.func73, Tryz.ntmps73
  go_wp2_with (go_at_call 107; refine (cloneLite_any _ _ hs).mono ?_; rintro e w' ⟨rfl, hb⟩)
  go_ret
  exact ⟨rfl, hb⟩

set_option maxRecDepth 100000 in
set_option maxHeartbeats 400000 in
theorem newLog_any (w : World) :
    Calls Tryz.prog 54 #[] w fun e w' => e = .returned (.pointer (some ⟨w.heap.size, 0, none⟩)) ∧ LogAt w' w.heap.size w.heap.size (.slice none 0 0) [] ∧ Below w.heap.size w w' ∧ w'.heap.size = w.heap.size + 1 := by
  go_enter Tryz.func54, Tryz.ntmps54
  go_wp2
  go_ret
  refine ⟨rfl, ⟨Nat.le_refl _, ?_, World.ownsRow_nil _ _ _ _⟩, (Below.refl _ _).alloc (Nat.le_refl _) _, by simp⟩
  exact heap_alloc_new w _
end Go.Proofs.YtlndinigbppafaaGreat

/-
  The walk of the program's Append.
-/
namespace Go.Proofs.YtlndinigbppafaaGreat
open Go.RowKit

theorem Tryz.infoStr : (Tryz.prog.info? 9).map (fun i => (i.zero, i.size, i.bytes)) = some (some (.string ByteArray.empty), 1, 16) := by kernel_rfl

theorem LogAt.drew {w : World} {b0 B : Nat} {S : Value} {evs : List ByteArray} (h : LogAt w b0 B S evs) : LogAt w.drew b0 B S evs := h.below ((Below.refl _ _).drew)
theorem log_row_ne {w : World} {b0 B : Nat} {S : Value} {evs : List ByteArray} (h : LogAt w b0 B S evs) : some B ≠ S.ownBlock := by
  intro e
  rcases h.2.2.2 with ⟨rfl, _⟩ | ⟨g, cap, cur, rfl, _, hgg, _⟩
  · simp [Value.ownBlock] at e
  · simp [Value.ownBlock] at e
    subst e
    have := h.2.1
    rw [hgg] at this
    simp at this

theorem strs8_append (evs : List ByteArray) (s : ByteArray) : strs8 (evs ++ [s]) = strs8 evs ++ [.string s] := by unfold strs8; rw [List.map_append]; rfl

/-- What is left behind an append. -/
theorem log_appended {w0 w1 w2 : World} {b0 B g cap2 : Nat} {S : Value} {evs : List ByteArray} {s : ByteArray} {X : Obj} (h : LogAt w0 b0 B S evs) (hb1 : Below w0.drew.heap.size w0.drew w1)
    (hown2 : w2.ownsRow b0 9 1 (.slice (some ⟨g, 0, none⟩) (evs.length + 1) cap2) (evs.length + 1) (strs8 evs ++ [.string s])) (hgrow : (w1.alloc X).grownBy w2 S.ownBlock) (hat : S.ownBlock = some g ∨ g = (w1.alloc X).heap.size) :
    LogAt (w2.setCell ⟨B, 1, none⟩ (.slice (some ⟨g, 0, none⟩) (evs.length + 1) cap2)) b0 B (.slice (some ⟨g, 0, none⟩) (evs.length + 1) cap2) (evs ++ [s]) ∧ Frame2 w0 (w2.setCell ⟨B, 1, none⟩ (.slice (some ⟨g, 0, none⟩) (evs.length + 1) cap2)) B S.ownBlock := by
  have hne := log_row_ne h
  have hBlt := lt_of_heap h.2.1
  have hs1 : w0.heap.size ≤ w1.heap.size := hb1.size
  have hgB : g ≠ B := by
    rcases hat with hat | hat
    · intro e; rw [hat, e] at hne; exact hne rfl
    · rw [hat]; simp; omega
  have h1 := h.drew.below hb1
  have hB2 : w2.heap[B]? = some (.cells #[.pointer (some ⟨B, 0, none⟩), S] 41 (0, 0)) := by
    rw [hgrow.block B (by simp; omega) hne, Below.heap_alloc _ _ _ (by omega)]
    exact h1.2.1
  have hother : ∀ k, k ≠ B → (w2.setCell ⟨B, 1, none⟩ (.slice (some ⟨g, 0, none⟩) (evs.length + 1) cap2)).heap[k]? = w2.heap[k]? := fun k hk => Below.heap_setCell _ _ _ _ hk
  refine ⟨⟨h.1, ?_, ?_⟩, ⟨?_, ?_, ?_, ?_, fun k hk hkB hkr => ?_⟩⟩
  · simp [World.setCell, Array.getElem?_modify, hB2]
  · rw [List.length_append, strs8_append]
    obtain ⟨o1, o2⟩ := hown2
    refine ⟨o1, ?_⟩
    rcases o2 with o2 | ⟨g', cp, cur, e, q1, q2, q3⟩
    · exact .inl o2
    · simp only [Value.slice.injEq, Option.some.injEq, Addr.mk.injEq] at e
      obtain ⟨⟨rfl, _, _⟩, _, rfl⟩ := e
      exact .inr ⟨g, _, cur, rfl, q1, by rw [hother g hgB]; exact q2, q3⟩
  · exact hgrow.os.trans hb1.os
  · exact hgrow.tape.trans hb1.tape
  · exact hgrow.output.trans hb1.output
  · have := hgrow.size
    simp at this
    simp [World.setCell]
    omega
  · rw [hother k hkB, hgrow.block k (by simp; omega) hkr, Below.heap_alloc _ _ _ (by omega)]
    exact hb1.block k hk

theorem own_at {w0 w1 : World} {X : Obj} {g n cap2 : Nat} {S : Value} (hb1 : Below w0.drew.heap.size w0.drew w1) (hat : S.ownBlock = some g ∨ g = (w1.alloc X).heap.size) :
    (Value.slice (some ⟨g, 0, none⟩) n cap2).ownBlock = S.ownBlock ∨ ∃ g', (Value.slice (some ⟨g, 0, none⟩) n cap2).ownBlock = some g' ∧ w0.heap.size ≤ g' := by
  rcases hat with h | h
  · left; rw [h]; rfl
  · right
    refine ⟨g, rfl, ?_⟩
    have : w0.heap.size ≤ w1.heap.size := hb1.size
    rw [h]; simp; omega

set_option maxRecDepth 100000 in
set_option maxHeartbeats 1000000 in
theorem append_ok (w : World) (b0 B : Nat) (S : Value) (evs : List ByteArray) (s : ByteArray) (h : LogAt w b0 B S evs) (hs : s.size ≤ 50) (hn : evs.length < 500) (hb0 : b0 ≤ w.heap.size) :
    Calls Tryz.prog 40 #[.pointer (some ⟨B, 0, none⟩), .string s] w fun e w' => ∃ S', e = .returned (.tuple #[.int .i64 evs.length, .int .i64 0]) ∧ LogAt w' b0 B S' (evs ++ [s]) ∧ Frame2 w w' B S.ownBlock ∧ (S'.ownBlock = S.ownBlock ∨ ∃ g, S'.ownBlock = some g ∧ w.heap.size ≤ g) := by
  obtain ⟨i0, hi, hz0, hz1, hz2⟩ := info_parts Tryz.infoStr
  have hm := h.evs
  have hz : w.frozen? ⟨B, 1, none⟩ = false := by unfold World.frozen?; rw [h.2.1]; rfl
  obtain ⟨ao, cap, rfl, hc, _⟩ := id h.slice
  have hne := log_row_ne h
  go_enter Tryz.func40, Tryz.ntmps40
  go_wp2_with (go_at_call 72; refine (closed_any _ _ _ _ _ h).mono ?_; rintro e w0 ⟨rfl, rfl⟩)
  go_region_law (first
    | (go_simp; go_at_call 73; refine (clone_any _ _ (by omega)).mono ?_; rintro e w1 ⟨rfl, hb1⟩; have h1 := h.drew.below hb1; have c1 := h1.evs; have z1 : w1.frozen? ⟨B, 1, none⟩ = false := (by unfold World.frozen?; rw [h1.2.1]; rfl); have hB1 : B < w1.heap.size := lt_of_heap h1.2.1; have hs1 : b0 ≤ w1.heap.size := Nat.le_trans hb0 hb1.size)
    | (refine step_append_lies _ rfl (.tmp 24) (.tmp 27) 22 rfl b0 9 i0 (.string ByteArray.empty) 1 16 Tryz.underlying22 hi hz0 hz1 hz2 rfl (by decide) (.slice ao evs.length cap) evs.length (strs8 evs) (by simp [Act.eval]) (h1.2.2.alloc _) ⟨w1.heap.size, 0, none⟩ 1 1 [.string s] (by simp [Act.eval]) rfl (World.news_of_block (heap_alloc_new w1 _)) (by intro u hu; simp at hu; subst hu; rfl) (by decide) (by unfold maxLen; omega) (by omega) (by simp; omega) _ rfl ?_; intro g cap2 w2 hown2 hgrow hat hlt; have c2 : w2.cell? ⟨B, 1, none⟩ = some (.slice ao evs.length cap) := (hgrow.cell_far ⟨B, 1, none⟩ (by simp; omega) hne).trans (cell_keep c1 ((Below.refl _ _).alloc (Nat.le_refl _) _)); have z2 : w2.frozen? ⟨B, 1, none⟩ = false := (hgrow.frozen_far ⟨B, 1, none⟩ (by simp; omega) hne).trans (frozen_keep c1 z1 ((Below.refl _ _).alloc (Nat.le_refl _) _))))
  all_goals have R := log_appended h hb1 hown2 hgrow hat
  all_goals have hat2 := own_at (cap2 := cap2) (n := evs.length + 1) (S := .slice ao evs.length cap) hb1 hat
  all_goals clear hown2 hgrow hat h1 z1 c1
  all_goals go_wp2
  all_goals go_ret2
  all_goals exact ⟨_, by simp, R.1, R.2, hat2⟩
end Go.Proofs.YtlndinigbppafaaGreat

/-
  The walks of Append where it is refused, and of the statements' pick.
-/
namespace Go.Proofs.YtlndinigbppafaaGreat
open Go.RowKit

set_option maxRecDepth 100000 in
set_option maxHeartbeats 400000 in
theorem append_long (w : World) (b0 B : Nat) (S : Value) (evs : List ByteArray) (s : ByteArray) (h : LogAt w b0 B S evs) (hs : 50 < s.size) (hm : s.size ≤ maxLen) :
    Calls Tryz.prog 40 #[.pointer (some ⟨B, 0, none⟩), .string s] w fun e w' => e = .returned (.tuple #[.int .i64 0, .int .i64 2]) ∧ w' = w := by
  unfold maxLen at hm
  go_enter Tryz.func40, Tryz.ntmps40
  go_wp2_with (go_at_call 72; refine (closed_any _ _ _ _ _ h).mono ?_; rintro e w0 ⟨rfl, rfl⟩)
  go_ret2
  exact ⟨rfl, rfl⟩
set_option maxRecDepth 100000 in
set_option maxHeartbeats 400000 in
theorem append_many (w : World) (b0 B : Nat) (S : Value) (evs : List ByteArray) (s : ByteArray) (h : LogAt w b0 B S evs) (hs : s.size ≤ 50) (hn : 500 ≤ evs.length) (hn2 : evs.length ≤ 1000) :
    Calls Tryz.prog 40 #[.pointer (some ⟨B, 0, none⟩), .string s] w fun e w' => e = .returned (.tuple #[.int .i64 0, .int .i64 3]) ∧ w' = w := by
  have hm := h.evs
  obtain ⟨ao, cap, rfl, hc, _⟩ := id h.slice
  go_enter Tryz.func40, Tryz.ntmps40
  go_wp2_with (go_at_call 72; refine (closed_any _ _ _ _ _ h).mono ?_; rintro e w0 ⟨rfl, rfl⟩)
  go_ret2
  exact ⟨rfl, rfl⟩

/-- Which of n things a raw number speaks of. -/
def pickZ (c n : Int) : Int := (if c < 0 then -(c + 1) else c) % n
theorem pickZ_bd (c n : Int) (h : 0 < n) : 0 ≤ pickZ c n ∧ pickZ c n < n := ⟨Int.emod_nonneg _ (by omega), Int.emod_lt_of_pos _ h⟩

set_option maxRecDepth 100000 in
set_option maxHeartbeats 400000 in
theorem pick_any (c n : Int) (w : World) (h0 : -9223372036854775808 ≤ c) (h1 : c ≤ 9223372036854775807) (hn : 0 < n) (hn2 : n ≤ 1000000) :
    Calls Tryz.prog 22 #[.int .i64 c, .int .i64 n] w fun e w' => e = .returned (.int .i64 (pickZ c n)) ∧ w' = w := by
  by_cases hc : c < 0
  · have HP : Hid (pickZ c n = (-(c + 1)) % n) := by show pickZ c n = _; unfold pickZ; rw [if_pos hc]
    go_enter Tryz.func22, Tryz.ntmps22
    go_wp2
    go_ret
    exact ⟨ret_int (by rw [HP.out, ← Int.neg_tmod, Int.tmod_eq_emod_of_nonneg (by omega)]), rfl⟩
  · have HP : Hid (pickZ c n = c % n) := by show pickZ c n = _; unfold pickZ; rw [if_neg hc]
    go_enter Tryz.func22, Tryz.ntmps22
    go_wp2
    go_ret
    exact ⟨ret_int (by rw [HP.out]), rfl⟩

/-- '[]byte' of a row of one byte that was laid for it: the mark behind its end. -/
theorem conv_same (u : World) (b : Nat) (x : Value) (hb : b = u.heap.size) : (convert 27 27 (.slice (some ⟨b, 0, none⟩) 1 1)).run Tryz.prog (u.alloc (.cells #[x] 5)) = .ok (.slice (some ⟨b, 0, none⟩) 1 1) (u.alloc (.cells #[x] 5 (1, 2))) := by
  subst hb
  have hsh : (u.alloc (.cells #[x] 5)).shape? u.heap.size = some (5, 1) := by
    unfold World.shape?; rw [heap_alloc_new u _]; rfl
  have hfr : (u.alloc (.cells #[x] 5)).freeze ⟨u.heap.size, 1, none⟩ 1 = u.alloc (.cells #[x] 5 (1, 2)) := by
    have hm : ∀ (a : Array Obj) (y : Obj) (f : Obj → Obj), (a.push y).modify a.size f = a.push (f y) := by
      intro a y f
      apply Array.ext
      · simp
      · intro i h1 h2
        simp only [Array.getElem_modify, Array.getElem_push]
        by_cases h : a.size = i
        · subst h; simp
        · have hi : i < a.size := by simp at h1; omega
          simp [h, hi]
    unfold World.freeze
    rw [if_neg (by decide)]
    show ({ u.alloc (.cells #[x] 5) with heap := (u.heap.push (.cells #[x] 5)).modify u.heap.size _ } : World) = _
    rw [hm]
    rfl
  simp [convert, run_underlying Tryz.underlying27, run_underlying Tryz.underlying5, markStringish, hsh, hfr]
theorem byte_atF (x : Int) (w : World) (b : Nat) (fr : Nat × Nat) (h0 : 0 ≤ x) (h1 : x ≤ 255) (hb : b = w.heap.size) : BytesAt (w.alloc (.cells #[.int .u8 x] 5 fr)) (.slice (some ⟨b, 0, none⟩) 1 1) [b8 x] := by
  subst hb
  refine ⟨_, _, rfl, fun h => (by cases h), fun _ => ⟨_, _, _, _, rfl, heap_alloc_new w _, fun j hj => ?_⟩⟩
  match j, hj with
  | 0, _ => show some (Value.int .u8 x) = some (.int .u8 ((b8 x).toNat : Int)); rw [b8_nat x h0 h1]
theorem sm_0a : sm [[b8 0], [b8 97]].flatten = 883 := by decide
theorem dig_a : dig (List.take 1 ([] ++ [⟨#[97]⟩])) (dep 1) 0 = 883 := by decide

set_option maxRecDepth 100000 in
set_option maxHeartbeats 1000000 in
theorem rooted_any (w : World) :
    Calls Tryz.prog 53 #[] w fun e w' => e = .returned (.bool true) ∧ Below w.heap.size w w' := by
  have hc2 := conv_same
  go_enter Tryz.func53, Tryz.ntmps53
  go_wp2_with fail
  refine (newLog_any _).mono ?_
  rintro e w1 ⟨rfl, hL1, hb1, hs1⟩
  go_wp2_with fail
  refine (sum_any [[b8 0], [b8 97]] _ _ (rows2 _ _ _ _ _ _ (by simp; omega) ((byte_at 0 _ _ (by decide) (by decide) (by omega)).keep (keepA _ _)) (byte_atF 97 _ _ _ (by decide) (by decide) (by simp; omega))) (by simp) (by intro l hl; simp at hl; rcases hl with rfl | rfl <;> simp)).mono ?_
  rintro e w2 ⟨rfl, rfl⟩
  rw [sm_0a]
  go_wp2_with fail
  have hbA : Below w1.heap.size w1 (((w1.alloc (.cells #[.int .u8 0] 5)).alloc (.cells #[.int .u8 97] 5 (1, 2))).alloc (.cells #[.slice (some ⟨w.heap.size + 1, 0, none⟩) 1 1, .slice (some ⟨w.heap.size + 1 + 1, 0, none⟩) 1 1] 27)) := (((Below.refl _ _).alloc (Nat.le_refl _) _).alloc (by simp) _).alloc (by simp; omega) _
  have hLA := hL1.below hbA
  have hbw := hb1.trans (hbA.mono hb1.size)
  generalize ((w1.alloc (.cells #[.int .u8 0] 5)).alloc (.cells #[.int .u8 97] 5 (1, 2))).alloc (.cells #[.slice (some ⟨w.heap.size + 1, 0, none⟩) 1 1, .slice (some ⟨w.heap.size + 1 + 1, 0, none⟩) 1 1] 27) = wA at hLA hbw ⊢
  clear hbA hL1 hc2
  refine (append_ok wA _ _ _ [] _ hLA (by decide) (by decide) hbw.size).mono ?_
  rintro e w3 ⟨S', rfl, hL3, hF3, _⟩
  have hb3 : Below w.heap.size w w3 := hbw.trans (hF3.below (Nat.le_refl _) (fun k hk => by simp [Value.ownBlock] at hk) hbw.size)
  go_wp2_with fail
  refine (root_ok w3 _ _ _ _ 1 hL3 (by decide) (by simp) (by simp) (by intro s hs; simp at hs; subst hs; decide)).mono ?_
  rintro e w4 ⟨rfl, hb4⟩
  rw [dig_a]
  go_wp2
  go_ret
  exact ⟨rfl, hb3.trans (hb4.mono hb3.size)⟩
end Go.Proofs.YtlndinigbppafaaGreat

/-
  The walk of the statements' kept: a log of the first events, each cut.
-/
namespace Go.Proofs.YtlndinigbppafaaGreat
open Go.RowKit

/-- An event, cut to fifty bytes. -/
def cut50 (s : ByteArray) : ByteArray := if 50 < s.size then s.extract 0 50 else s
def firstB : ByteArray := ⟨#[102, 105, 114, 115, 116]⟩
/-- The events that kept keeps. -/
def keptL (ps : List ByteArray) : List ByteArray := if ps = [] then [firstB] else (ps.take 60).map cut50
theorem cut50_le (s : ByteArray) : (cut50 s).size ≤ 50 := by
  unfold cut50; split
  · simp [ByteArray.size_extract]; omega
  · omega
theorem keptL_le (ps : List ByteArray) : ∀ s ∈ keptL ps, s.size ≤ 50 := by
  intro s hs
  unfold keptL at hs
  split at hs
  · simp at hs; subst hs; decide
  · obtain ⟨p, _, rfl⟩ := List.mem_map.1 hs; exact cut50_le p
theorem keptL_len (ps : List ByteArray) : 1 ≤ (keptL ps).length ∧ (keptL ps).length ≤ 60 := by
  unfold keptL; split
  · simp
  · rename_i h
    have : 0 < ps.length := List.length_pos_iff.2 h
    rw [List.length_map, List.length_take]; omega
theorem keptL_get (ps : List ByteArray) (k : Nat) (h : k < (keptL ps).length) : (keptL ps)[k] = if hp : k < ps.length then cut50 ps[k] else firstB := by
  by_cases hps : ps = []
  · subst hps
    have e : keptL [] = [firstB] := rfl
    have hk : k = 0 := by rw [e] at h; simpa using h
    subst hk
    simp [keptL]
  · have e : keptL ps = (ps.take 60).map cut50 := by unfold keptL; rw [if_neg hps]
    have hl : k < ps.length := by rw [e, List.length_map, List.length_take] at h; omega
    rw [dif_pos hl]
    simp only [e, List.getElem_map, List.getElem_take]

theorem log_grown {w w' : World} {b0 B : Nat} {S : Value} {evs : List ByteArray} {row : Option Nat} (h : LogAt w b0 B S evs) (hg : w.grownBy w' row) (hB : row ≠ some B) (hr : ∀ g, S.ownBlock = some g → row ≠ some g) : LogAt w' b0 B S evs := by
  refine ⟨h.1, ?_, ?_⟩
  · rw [hg.block B (lt_of_heap h.2.1) (fun e => hB e.symm)]; exact h.2.1
  · refine h.2.2.kept hg ?_
    cases hS : S.ownBlock with
    | none => left; rfl
    | some g => right; exact fun e => hr g hS e.symm
theorem row_ne_log {w : World} {b0 b1 B n : Nat} {S o : Value} {evs : List ByteArray} {xs : List Value} (h : LogAt w b0 B S evs) (ho : w.ownsRow b1 9 1 o n xs) : o.ownBlock ≠ some B := by
  intro e
  rcases ho.2 with ⟨rfl, _⟩ | ⟨g, cap, cur, rfl, _, hgg, _⟩
  · simp [Value.ownBlock] at e
  · simp [Value.ownBlock] at e
    subst e
    have := h.2.1
    rw [hgg] at this
    simp at this

/-- Behind the log's append the other row stands. -/
theorem kept_mid {wr w2 : World} {b0 B k : Nat} {S S' o : Value} {evs : List ByteArray} {xs : List Value} (hL : LogAt wr b0 B S evs) (hO : wr.ownsRow b0 9 1 o k xs) (hD : ∀ g, o.ownBlock = some g → S.ownBlock ≠ some g)
    (hF : Frame2 wr w2 B S.ownBlock) (hat : S'.ownBlock = S.ownBlock ∨ ∃ g, S'.ownBlock = some g ∧ wr.heap.size ≤ g) : w2.ownsRow b0 9 1 o k xs ∧ (∀ g, o.ownBlock = some g → S'.ownBlock ≠ some g) := by
  refine ⟨owns_frame2 hO hF (row_ne_log hL hO) hD, fun g hg => ?_⟩
  rcases hat with hat | ⟨g', hat, hge⟩
  · rw [hat]; exact hD g hg
  · rw [hat]
    intro e
    have := (hO.lt g hg).2
    simp at e
    omega
/-- Behind the other row's append the log stands. -/
theorem kept_end {w2 w3 : World} {X : Obj} {b0 B k n g cp : Nat} {S' o : Value} {evs' : List ByteArray} {xs : List Value} (hL2 : LogAt w2 b0 B S' evs') (hO2 : w2.ownsRow b0 9 1 o k xs) (hD2 : ∀ g, o.ownBlock = some g → S'.ownBlock ≠ some g)
    (hgrow : (w2.alloc X).grownBy w3 o.ownBlock) (hat : o.ownBlock = some g ∨ g = w2.heap.size + 1) : LogAt w3 b0 B S' evs' ∧ ∀ g', (Value.slice (some ⟨g, 0, none⟩) n cp).ownBlock = some g' → S'.ownBlock ≠ some g' := by
  have hLA := hL2.below ((Below.refl _ _).alloc (Nat.le_refl _) X)
  refine ⟨log_grown hLA hgrow (row_ne_log hL2 hO2) (fun g' hg' e => hD2 g' e hg'), fun g' hg' => ?_⟩
  have : g = g' := by simpa [Value.ownBlock] using hg'
  subst this
  rcases hat with hat | hat
  · exact hD2 g hat
  · intro e
    have h1 := (hL2.2.2.lt g e).2
    rw [hat] at h1
    omega

set_option maxRecDepth 100000 in
set_option maxHeartbeats 2000000 in
theorem kept_any (ps : List ByteArray) (v : Value) (w : World) (hv : StringsAt w v ps) (hn : ps.length ≤ 9223372036854775807) (hp : ∀ p ∈ ps, p.size ≤ 9223372036854775807) :
    Calls Tryz.prog 20 #[v] w fun e w' => ∃ (B : Nat) (S o : Value), e = .returned (.tuple #[.pointer (some ⟨B, 0, none⟩), o, .bool true]) ∧ LogAt w' w.heap.size B S (keptL ps) ∧ w'.ownsRow w.heap.size 9 1 o (keptL ps).length (strs8 (keptL ps)) ∧ (∀ g, o.ownBlock = some g → S.ownBlock ≠ some g) ∧ Below w.heap.size w w' := by
  obtain ⟨i0, hi, hz0, hz1, hz2⟩ := info_parts Tryz.infoStr
  obtain ⟨ao, cap, rfl, hcell⟩ := hv
  have hK1 := (keptL_len ps).1
  have hK2 := (keptL_len ps).2
  go_enter Tryz.func20, Tryz.ntmps20
  go_wp2_with fail
  refine (newLog_any _).mono ?_
  rintro e w1 ⟨rfl, hL1, hb1, hs1⟩
  have HS1 : Hid (w1.heap.size = w.heap.size + 1) := hs1
  clear hs1
  go_wp2
  go_loopw [6, 7] (fun o i wr => ∃ (k : Nat) (S : Value), k ≤ (keptL ps).length ∧ i = .int .i64 k ∧ LogAt wr w.heap.size w.heap.size S ((keptL ps).take k) ∧ wr.ownsRow w.heap.size 9 1 o k (strs8 ((keptL ps).take k)) ∧ (∀ g, o.ownBlock = some g → S.ownBlock ≠ some g) ∧ Below w.heap.size w wr)
    (fun _ i _ => (keptL ps).length - (intOf i).toNat)
  case atStart => exact ⟨0, _, Nat.zero_le _, rfl, hL1, World.ownsRow_nil _ _ _ _, fun g hg => by simp [Value.ownBlock] at hg, hb1⟩
  case round =>
    obtain ⟨k, S, hk, rfl, hL, hO, hD, hB⟩ := hrel
    have hBs := hB.size
    by_cases hlt : k < (keptL ps).length
    · have HG : Hid _ := keptL_get ps k hlt
      have HT : Hid ((keptL ps).take (k + 1) = (keptL ps).take k ++ [(keptL ps)[k]]) := take_snoc _ _ hlt
      have hle := keptL_le ps _ (List.getElem_mem hlt)
      have hl2 : ((keptL ps).take k).length = k := by rw [List.length_take]; omega
      by_cases hpk : k < ps.length
      · have hk60 : k < 60 := by omega
        obtain ⟨b, o, rfl, hbB, hcl⟩ := hcell (by omega)
        have hck := (hB.cell (p := ⟨b, o + k, none⟩) hbB).trans (hcl k hpk)
        have hsz := hp _ (List.getElem_mem hpk)
        by_cases h50 : 50 < ps[k].size
        · have h50i : (50 : Int) < (ps[k].size : Int) := by omega
          have HX : Hid ((keptL ps)[k] = ps[k].extract 0 50) := by show _ = _; rw [HG.out, dif_pos hpk]; unfold cut50; rw [if_pos h50]
          clear hcl hcell
          go_wp2_with fail
          refine (append_ok wr _ _ S ((keptL ps).take k) (ps[k].extract 0 50) hL (by rw [← HX.out]; exact hle) (by omega) hBs).mono ?_
          rintro e w2 ⟨S', rfl, hL2, hF2, hat2⟩
          rw [← HX.out, ← HT.out] at hL2
          obtain ⟨hO2, hD2⟩ := kept_mid hL hO hD hF2 hat2
          have hB2 : Below w.heap.size w w2 := hB.trans (hF2.below (Nat.le_refl _) (fun g hg => (hL.2.2.lt g hg).1) hBs)
          have hB2s := hB2.size
          rw [hl2]
          clear hL hO hD hF2 hat2 hB hBs hck
          go_wp2_with (at_builtin; refine wpList_append_lies _ rfl (.tmp 54) (.tmp 56) 22 rfl w.heap.size 9 i0 (.string ByteArray.empty) 1 16 Tryz.underlying22 hi hz0 hz1 hz2 rfl (by decide) _ _ _ rfl (hO2.alloc _) ⟨w2.heap.size, 0, none⟩ 1 1 [.string (ps[k].extract 0 50)] rfl rfl (World.news_of_block (heap_alloc_new w2 _)) (by intro u hu; simp at hu; subst hu; rfl) (by decide) (by unfold maxLen; omega) (by omega) (by simp; omega) _ rfl ?_)
          intro g cp w3 hown3 hgrow hat hlt3
          obtain ⟨hL3, hD3⟩ := kept_end (n := k + 1) (cp := cp) hL2 hO2 hD2 hgrow hat
          have hB3 := (hB2.alloc hB2s _).grown hgrow (by simp; omega) (fun g hg => (hO2.lt g hg).1)
          have hown4 : w3.ownsRow w.heap.size 9 1 (.slice (some ⟨g, 0, none⟩) (k + 1) cp) (k + 1) (strs8 ((keptL ps).take (k + 1))) := by rw [HT.out, strs8_append, HX.out]; exact hown3
          clear hown3 hgrow hat hL2 hO2 hD2 hB2
          go_wp2
          go_roundw
          case rel => exact ⟨k + 1, S', by omega, by go_num, hL3, hown4, hD3, hB3⟩
          case measure => simp [intOf]; omega
        · have h50i : (ps[k].size : Int) ≤ 50 := by omega
          have HX : Hid ((keptL ps)[k] = ps[k]) := by show _ = _; rw [HG.out, dif_pos hpk]; unfold cut50; rw [if_neg h50]
          clear hcl hcell
          go_wp2_with fail
          refine (append_ok wr _ _ S ((keptL ps).take k) ps[k] hL (by rw [← HX.out]; exact hle) (by omega) hBs).mono ?_
          rintro e w2 ⟨S', rfl, hL2, hF2, hat2⟩
          rw [← HX.out, ← HT.out] at hL2
          obtain ⟨hO2, hD2⟩ := kept_mid hL hO hD hF2 hat2
          have hB2 : Below w.heap.size w w2 := hB.trans (hF2.below (Nat.le_refl _) (fun g hg => (hL.2.2.lt g hg).1) hBs)
          have hB2s := hB2.size
          rw [hl2]
          clear hL hO hD hF2 hat2 hB hBs hck
          go_wp2_with (at_builtin; refine wpList_append_lies _ rfl (.tmp 54) (.tmp 56) 22 rfl w.heap.size 9 i0 (.string ByteArray.empty) 1 16 Tryz.underlying22 hi hz0 hz1 hz2 rfl (by decide) _ _ _ rfl (hO2.alloc _) ⟨w2.heap.size, 0, none⟩ 1 1 [.string ps[k]] rfl rfl (World.news_of_block (heap_alloc_new w2 _)) (by intro u hu; simp at hu; subst hu; rfl) (by decide) (by unfold maxLen; omega) (by omega) (by simp; omega) _ rfl ?_)
          intro g cp w3 hown3 hgrow hat hlt3
          obtain ⟨hL3, hD3⟩ := kept_end (n := k + 1) (cp := cp) hL2 hO2 hD2 hgrow hat
          have hB3 := (hB2.alloc hB2s _).grown hgrow (by simp; omega) (fun g hg => (hO2.lt g hg).1)
          have hown4 : w3.ownsRow w.heap.size 9 1 (.slice (some ⟨g, 0, none⟩) (k + 1) cp) (k + 1) (strs8 ((keptL ps).take (k + 1))) := by rw [HT.out, strs8_append, HX.out]; exact hown3
          clear hown3 hgrow hat hL2 hO2 hD2 hB2
          go_wp2
          go_roundw
          case rel => exact ⟨k + 1, S', by omega, by go_num, hL3, hown4, hD3, hB3⟩
          case measure => simp [intOf]; omega
      · have hps : ps = [] := by
          rcases Nat.eq_zero_or_pos ps.length with h | h
          · exact List.eq_nil_of_length_eq_zero h
          · exfalso
            have e : keptL ps = (ps.take 60).map cut50 := by unfold keptL; rw [if_neg (List.ne_nil_of_length_pos h)]
            rw [e, List.length_map, List.length_take] at hlt; omega
        have hk0 : k = 0 := by
          have e : keptL ps = [firstB] := by unfold keptL; rw [if_pos hps]
          rw [e] at hlt; simpa using hlt
        have HX : Hid ((keptL ps)[k] = ⟨#[102, 105, 114, 115, 116]⟩) := by show _ = _; rw [HG.out, dif_neg hpk]; rfl
        have hck : True := trivial
        have hpl : ps.length ≤ k := by omega
        have hk1 : (k : Int) < 1 := by omega
        clear hcell hps hk0
        go_wp2_with fail
        refine (append_ok wr _ _ S ((keptL ps).take k) ⟨#[102, 105, 114, 115, 116]⟩ hL (by rw [← HX.out]; exact hle) (by omega) hBs).mono ?_
        rintro e w2 ⟨S', rfl, hL2, hF2, hat2⟩
        rw [← HX.out, ← HT.out] at hL2
        obtain ⟨hO2, hD2⟩ := kept_mid hL hO hD hF2 hat2
        have hB2 : Below w.heap.size w w2 := hB.trans (hF2.below (Nat.le_refl _) (fun g hg => (hL.2.2.lt g hg).1) hBs)
        have hB2s := hB2.size
        rw [hl2]
        clear hL hO hD hF2 hat2 hB hBs hck
        go_wp2_with (at_builtin; refine wpList_append_lies _ rfl (.tmp 54) (.tmp 56) 22 rfl w.heap.size 9 i0 (.string ByteArray.empty) 1 16 Tryz.underlying22 hi hz0 hz1 hz2 rfl (by decide) _ _ _ rfl (hO2.alloc _) ⟨w2.heap.size, 0, none⟩ 1 1 [.string ⟨#[102, 105, 114, 115, 116]⟩] rfl rfl (World.news_of_block (heap_alloc_new w2 _)) (by intro u hu; simp at hu; subst hu; rfl) (by decide) (by unfold maxLen; omega) (by omega) (by simp; omega) _ rfl ?_)
        intro g cp w3 hown3 hgrow hat hlt3
        obtain ⟨hL3, hD3⟩ := kept_end (n := k + 1) (cp := cp) hL2 hO2 hD2 hgrow hat
        have hB3 := (hB2.alloc hB2s _).grown hgrow (by simp; omega) (fun g hg => (hO2.lt g hg).1)
        have hown4 : w3.ownsRow w.heap.size 9 1 (.slice (some ⟨g, 0, none⟩) (k + 1) cp) (k + 1) (strs8 ((keptL ps).take (k + 1))) := by rw [HT.out, strs8_append, HX.out]; exact hown3
        clear hown3 hgrow hat hL2 hO2 hD2 hB2
        go_wp2
        go_roundw
        case rel => exact ⟨k + 1, S', by omega, by go_num, hL3, hown4, hD3, hB3⟩
        case measure => simp [intOf]; omega
    · have hkl : k = (keptL ps).length := by omega
      subst hkl
      rw [List.take_length] at hL hO
      have hx : ¬ ((keptL ps).length < ps.length ∧ (keptL ps).length < 60) ∧ ¬ (keptL ps).length < 1 := by
        refine ⟨fun ⟨h1, h2⟩ => ?_, by omega⟩
        have e : keptL ps = (ps.take 60).map cut50 := by unfold keptL; rw [if_neg (List.ne_nil_of_length_pos (by omega))]
        rw [e, List.length_map, List.length_take] at h1 h2; omega
      obtain ⟨g, cp, rfl, _, _⟩ := hO.form (by omega)
      by_cases hx1 : (keptL ps).length < ps.length
      · have hx2 : 60 ≤ (keptL ps).length := by omega
        clear hx hcell
        go_wp2_with (go_at_call 42; refine (len_log _ _ _ _ _ hL).mono ?_; rintro e w4 ⟨rfl, rfl⟩)
        go_ret3
        exact ⟨_, S, _, by simp, hL, hO, hD, hB⟩
      · clear hx hcell
        go_wp2_with (go_at_call 42; refine (len_log _ _ _ _ _ hL).mono ?_; rintro e w4 ⟨rfl, rfl⟩)
        go_ret3
        exact ⟨_, S, _, by simp, hL, hO, hD, hB⟩
end Go.Proofs.YtlndinigbppafaaGreat

/-
  A log's member and growth proofs are messages that may be, as plain mathematics.
-/
namespace Go.Proofs.YtlndinigbppafaaGreat

theorem kind_zero {k M N : Int} {p d : Nat} (h : (if k = 2 then ((p : Int) + pw d ≤ M ∨ M ≤ p) else (M < p ∨ (p : Int) + pw d ≤ M))) : kindOf k M N p d = 0 := by
  unfold kindOf; rw [if_pos h]
theorem kind_leaf {k M N : Int} {p : Nat} (h : ¬ (if k = 2 then ((p : Int) + pw 0 ≤ M ∨ M ≤ p) else (M < p ∨ (p : Int) + pw 0 ≤ M))) : kindOf k M N p 0 = 1 := by
  unfold kindOf; rw [if_neg h, if_pos rfl]
theorem kind_two {k M N : Int} {p d : Nat} (h : ¬ (if k = 2 then ((p : Int) + pw (d + 1) ≤ M ∨ M ≤ p) else (M < p ∨ (p : Int) + pw (d + 1) ≤ M))) (h2 : (p : Int) + pw d < N) : kindOf k M N p (d + 1) = 2 := by
  unfold kindOf; rw [if_neg h, if_neg (by omega), if_pos (by simpa using h2)]
theorem kind_alone {k M N : Int} {p d : Nat} (h : ¬ (if k = 2 then ((p : Int) + pw (d + 1) ≤ M ∨ M ≤ p) else (M < p ∨ (p : Int) + pw (d + 1) ≤ M))) (h2 : ¬ (p : Int) + pw d < N) : kindOf k M N p (d + 1) = 3 := by
  unfold kindOf; rw [if_neg h, if_neg (by omega), if_neg (by simpa using h2)]

/-- What a proof tells of a tree is of the proof's shape. -/
theorem prune_shp (evs : List ByteArray) (hs : ∀ s ∈ evs, s.size ≤ 50) (k M : Int) (f : Nat → Nat → Bool)
    (hf : ∀ p d : Nat, f p d = true ↔ (if k = 2 then ((p : Int) + pw d ≤ M ∨ M ≤ p) else (M < p ∨ (p : Int) + pw d ≤ M))) (d p : Nat) : Shp k M evs.length d p (pruneN evs f d p) := by
  induction d generalizing p with
  | zero =>
    unfold pruneN
    split
    · rename_i h
      have := dig_bd evs 0 p
      exact .stub 0 p _ (kind_zero ((hf p 0).1 h)) this.1 this.2
    · rename_i h
      exact .leaf p _ (kind_leaf (fun h' => h ((hf p 0).2 h'))) (evAt_le evs p 50 hs)
  | succ d ih =>
    unfold pruneN
    split
    · rename_i h
      have := dig_bd evs (d + 1) p
      exact .stub (d + 1) p _ (kind_zero ((hf p (d + 1)).1 h)) this.1 this.2
    · rename_i h
      have hn : ¬ (if k = 2 then ((p : Int) + pw (d + 1) ≤ M ∨ M ≤ p) else (M < p ∨ (p : Int) + pw (d + 1) ≤ M)) := fun h' => h ((hf p (d + 1)).2 h')
      split
      · rename_i h2
        exact .two d p _ _ (kind_two hn (by omega)) (ih p) (ih (p + pw d))
      · rename_i h2
        exact .alone d p _ (kind_alone hn (by omega)) (ih p)

theorem ruleM_iff (i : Int) (p d : Nat) : ruleM i p d = true ↔ (if (3 : Int) = 2 then ((p : Int) + pw d ≤ i ∨ i ≤ p) else (i < p ∨ (p : Int) + pw d ≤ i)) := by
  rw [if_neg (by omega)]
  unfold ruleM
  simp only [Bool.or_eq_true, Bool.not_eq_true', decide_eq_false_iff_not]
  omega
theorem ruleG_iff (m : Int) (p d : Nat) : ruleG m p d = true ↔ (if (2 : Int) = 2 then ((p : Int) + pw d ≤ m ∨ m ≤ p) else (m < p ∨ (p : Int) + pw d ≤ m)) := by
  rw [if_pos rfl]
  unfold ruleG
  simp only [Bool.or_eq_true, decide_eq_true_eq]
  omega

/-- A member proof's value. -/
def memberM (evs : List ByteArray) (i : Int) : Msg := ⟨3, i, evs.length, 0, pruneN evs (ruleM i) (dep evs.length) 0⟩
/-- A growth proof's value. -/
def growthM (evs : List ByteArray) (m : Int) : Msg := ⟨2, m, evs.length, dig evs (dep evs.length) 0, pruneN evs (ruleG m) (dep evs.length) 0⟩
/-- A commitment's value. -/
def commitM (evs : List ByteArray) : Msg := ⟨1, 0, evs.length, dig evs (dep evs.length) 0, []⟩

theorem memberB_eq (evs : List ByteArray) (i : Int) : memberB evs i = encV (memberM evs i) := rfl
theorem growthB_eq (evs : List ByteArray) (m : Int) : growthB evs m = encV (growthM evs m) := rfl
theorem commitB_eq (evs : List ByteArray) : commitB evs = encV (commitM evs) := rfl

theorem member_valid (evs : List ByteArray) (i : Int) (hs : ∀ s ∈ evs, s.size ≤ 50) (hi : 0 ≤ i ∧ i < evs.length) (hn : evs.length ≤ 500) : ValidM (memberM evs i) := by
  refine ⟨.inr (.inr rfl), ⟨?_, ?_⟩, ⟨?_, ?_⟩, fun h => ?_, fun h => ?_, fun _ => ⟨hi.1, hi.2, rfl⟩, fun _ => ?_⟩
  · show (1 : Int) ≤ (evs.length : Int); omega
  · show (evs.length : Int) ≤ 500; omega
  · show (0 : Int) ≤ 0; omega
  · show (0 : Int) ≤ 65535; omega
  · exact absurd (show (3 : Int) = 1 from h) (by omega)
  · exact absurd (show (3 : Int) = 2 from h) (by omega)
  · show Shp 3 i evs.length (dep (evs.length : Int).toNat) 0 _
    rw [Int.toNat_natCast]
    exact prune_shp evs hs 3 i _ (ruleM_iff i) _ _
theorem growth_valid (evs : List ByteArray) (m : Int) (hs : ∀ s ∈ evs, s.size ≤ 50) (hm : 1 ≤ m ∧ m ≤ evs.length) (hn : evs.length ≤ 500) : ValidM (growthM evs m) := by
  refine ⟨.inr (.inl rfl), ⟨?_, ?_⟩, dig_bd evs _ _, fun h => ?_, fun _ => hm, fun h => ?_, fun _ => ?_⟩
  · show (1 : Int) ≤ (evs.length : Int); omega
  · show (evs.length : Int) ≤ 500; omega
  · exact absurd (show (2 : Int) = 1 from h) (by omega)
  · exact absurd (show (2 : Int) = 3 from h) (by omega)
  · show Shp 2 m evs.length (dep (evs.length : Int).toNat) 0 _
    rw [Int.toNat_natCast]
    exact prune_shp evs hs 2 m _ (ruleG_iff m) _ _
theorem commit_valid (evs : List ByteArray) (h1 : 1 ≤ evs.length) (hn : evs.length ≤ 500) : ValidM (commitM evs) := by
  refine ⟨.inl rfl, ⟨?_, ?_⟩, dig_bd evs _ _, fun _ => ⟨rfl, rfl⟩, fun h => ?_, fun h => ?_, fun h => absurd rfl h⟩
  · show (1 : Int) ≤ (evs.length : Int); omega
  · show (evs.length : Int) ≤ 500; omega
  · exact absurd (show (1 : Int) = 2 from h) (by omega)
  · exact absurd (show (1 : Int) = 3 from h) (by omega)

/-- A message that may be is far shorter than MaxMessage. -/
theorem ValidM.short {x : Msg} (h : ValidM x) : 0 < (encV x).length ∧ (encV x).length ≤ 200 := by
  unfold encV encM
  have h1 := encH_le x.kind x.m x.n x.root
  rw [List.length_append]
  have h0 : 0 < (encH x.kind x.m x.n x.root).length := by unfold encH; simp
  refine ⟨by omega, ?_⟩
  by_cases hk : x.kind = 1
  · rw [(h.c hk).2]
    have e : (encNs ([] : List PN)).length = 0 := rfl
    omega
  · have := shp_len (h.t hk)
    have := dep_500 x.n h.n.2
    omega
end Go.Proofs.YtlndinigbppafaaGreat

/-
  What a log tells of its trees works out to its roots; an event of the same digest can always be found: plain mathematics.
-/
namespace Go.Proofs.YtlndinigbppafaaGreat

/-- What a proof tells of a tree, as a tree. -/
def pruneT (evs : List ByteArray) (f : Nat → Nat → Bool) : Nat → Nat → PT
  | 0, p => if f p 0 = true then .stub (dig evs 0 p) else .leaf (evAt evs p)
  | d + 1, p => if f p (d + 1) = true then .stub (dig evs (d + 1) p) else
      if p + pw d < evs.length then .two (pruneT evs f d p) (pruneT evs f d (p + pw d)) else .alone (pruneT evs f d p)

theorem pruneT_flat (evs : List ByteArray) (f : Nat → Nat → Bool) (d p : Nat) : (pruneT evs f d p).flat = pruneN evs f d p := by
  induction d generalizing p with
  | zero => unfold pruneT pruneN; split <;> rfl
  | succ d ih =>
    unfold pruneT pruneN
    split
    · rfl
    · split
      · simp only [PT.flat, ih]
      · simp only [PT.flat, ih]
theorem pruneT_sh (evs : List ByteArray) (hs : ∀ s ∈ evs, s.size ≤ 50) (k M : Int) (f : Nat → Nat → Bool)
    (hf : ∀ p d : Nat, f p d = true ↔ (if k = 2 then ((p : Int) + pw d ≤ M ∨ M ≤ p) else (M < p ∨ (p : Int) + pw d ≤ M))) (d p : Nat) : PT.Sh k M evs.length d p (pruneT evs f d p) := by
  induction d generalizing p with
  | zero =>
    unfold pruneT
    split
    · rename_i h
      have := dig_bd evs 0 p
      exact .stub 0 p _ (kind_zero ((hf p 0).1 h)) this.1 this.2
    · rename_i h
      exact .leaf p _ (kind_leaf (fun h' => h ((hf p 0).2 h'))) (evAt_le evs p 50 hs)
  | succ d ih =>
    unfold pruneT
    split
    · rename_i h
      have := dig_bd evs (d + 1) p
      exact .stub (d + 1) p _ (kind_zero ((hf p (d + 1)).1 h)) this.1 this.2
    · rename_i h
      have hn : ¬ (if k = 2 then ((p : Int) + pw (d + 1) ≤ M ∨ M ≤ p) else (M < p ∨ (p : Int) + pw (d + 1) ≤ M)) := fun h' => h ((hf p (d + 1)).2 h')
      split
      · rename_i h2
        exact .two d p _ _ (kind_two hn (by omega)) (ih p) (ih (p + pw d))
      · rename_i h2
        exact .alone d p _ (kind_alone hn (by omega)) (ih p)
/-- Whatever is left out, the digest is the tree's. -/
theorem pruneT_dg (evs : List ByteArray) (f : Nat → Nat → Bool) (d p : Nat) : (pruneT evs f d p).dg evs.length d p = dig evs d p := by
  induction d generalizing p with
  | zero => unfold pruneT dig; split <;> rfl
  | succ d ih =>
    unfold pruneT
    split
    · rfl
    · unfold dig
      split
      · rename_i h
        simp only [PT.dg, Nat.add_sub_cancel, if_pos (show (p : Int) + pw d < evs.length by omega), ih]
      · simp only [PT.dg, Nat.add_sub_cancel, ih]
theorem evAt_take (evs : List ByteArray) (m p : Nat) (h : p < m) : evAt (evs.take m) p = evAt evs p := by
  unfold evAt; rw [List.getElem?_take, if_pos h]
/-- A node all of whose events are below m is one in both versions. -/
theorem dig_full (evs : List ByteArray) (m : Nat) (hm : m ≤ evs.length) (d p : Nat) (h : p + pw d ≤ m) : dig (evs.take m) d p = dig evs d p := by
  induction d generalizing p with
  | zero => unfold dig; rw [evAt_take evs m p (by rw [pw_zero] at h; omega)]
  | succ d ih =>
    have h2 := pw_succ d
    have h3 := pw_pos d
    unfold dig
    rw [List.length_take, if_pos (by omega), if_pos (by omega), ih p (by omega), ih (p + pw d) (by omega)]
/-- Growth: as one for m it is the root of m. -/
theorem cut_dg (evs : List ByteArray) (m : Nat) (hm : m ≤ evs.length) (d p : Nat) (hp : p < m) : (pruneT evs (ruleG m) d p).dg m d p = dig (evs.take m) d p := by
  have hlen : (evs.take m).length = m := by rw [List.length_take]; omega
  have hr : ∀ q e, ruleG m q e = true ↔ (q + pw e ≤ m ∨ m ≤ q) := by
    intro q e
    unfold ruleG
    simp only [Bool.or_eq_true, decide_eq_true_eq]
    omega
  induction d generalizing p with
  | zero =>
    unfold pruneT
    rw [if_pos ((hr p 0).2 (by rw [pw_zero]; omega))]
    exact (dig_full evs m hm 0 p (by rw [pw_zero]; omega)).symm
  | succ d ih =>
    unfold pruneT
    by_cases hf : p + pw (d + 1) ≤ m
    · rw [if_pos ((hr p (d + 1)).2 (.inl hf))]
      exact (dig_full evs m hm (d + 1) p hf).symm
    · rw [if_neg (fun h => by have := (hr p (d + 1)).1 h; omega)]
      unfold dig
      rw [hlen]
      by_cases h2 : p + pw d < evs.length
      · rw [if_pos h2]
        by_cases h3 : p + pw d < m
        · rw [if_pos h3]
          simp only [PT.dg, Nat.add_sub_cancel, if_pos (show (p : Int) + pw d < m by omega), ih p hp, ih (p + pw d) h3]
        · rw [if_neg h3]
          simp only [PT.dg, Nat.add_sub_cancel, if_neg (show ¬ (p : Int) + pw d < m by omega), ih p hp]
      · rw [if_neg h2, if_neg (by omega)]
        simp only [PT.dg, Nat.add_sub_cancel, ih p hp]
theorem left_prune (evs : List ByteArray) (m : Nat) (h1 : 1 ≤ m) (k : Nat) : dep m + k ≤ dep evs.length → (pruneT evs (ruleG m) (dep m + k) 0).left k = pruneT evs (ruleG m) (dep m) 0 := by
  induction k with
  | zero => intro _; rfl
  | succ k ih =>
    intro hd
    have hpN : pw (dep m + k) < evs.length := dep_least _ _ (by omega)
    have hpm : m < pw (dep m + k + 1) := by
      have h1 := dep_spec m
      have h2 : pw (dep m) < pw (dep m + k + 1) := pw_lt (by omega)
      omega
    have e : pruneT evs (ruleG m) (dep m + (k + 1)) 0 = .two (pruneT evs (ruleG m) (dep m + k) 0) (pruneT evs (ruleG m) (dep m + k) (0 + pw (dep m + k))) := by
      rw [← Nat.add_assoc]
      show pruneT evs (ruleG m) ((dep m + k) + 1) 0 = _
      rw [pruneT, if_neg, if_pos (by omega)]
      unfold ruleG
      simp only [Bool.or_eq_true, decide_eq_true_eq]
      omega
    rw [e]
    exact ih (by omega)

theorem member_pt (evs : List ByteArray) (i : Int) (hs : ∀ s ∈ evs, s.size ≤ 50) : (memberM evs i).pt = pruneT evs (ruleM i) (dep evs.length) 0 := by
  have h := par_flat (pruneT_sh evs hs 3 i _ (ruleM_iff i) (dep evs.length) 0) []
  show (par (dep (evs.length : Int).toNat) (pruneN evs (ruleM i) (dep evs.length) 0)).1 = _
  rw [Int.toNat_natCast, ← pruneT_flat, ← List.append_nil (PT.flat _), h]
theorem growth_pt (evs : List ByteArray) (m : Int) (hs : ∀ s ∈ evs, s.size ≤ 50) : (growthM evs m).pt = pruneT evs (ruleG m) (dep evs.length) 0 := by
  have h := par_flat (pruneT_sh evs hs 2 m _ (ruleG_iff m) (dep evs.length) 0) []
  show (par (dep (evs.length : Int).toNat) (pruneN evs (ruleG m) (dep evs.length) 0)).1 = _
  rw [Int.toNat_natCast, ← pruneT_flat, ← List.append_nil (PT.flat _), h]
/-- A member proof's digest. -/
theorem member_wk (evs : List ByteArray) (i : Int) (hs : ∀ s ∈ evs, s.size ≤ 50) : wk (memberM evs i) (memberM evs i).n = dig evs (dep evs.length) 0 := by
  unfold wk
  rw [Nat.sub_self, member_pt evs i hs]
  show (pruneT evs (ruleM i) (dep evs.length) 0).dg (evs.length : Int) (dep (evs.length : Int).toNat) 0 = _
  rw [Int.toNat_natCast]
  exact pruneT_dg _ _ _ _
/-- A growth proof's digests. -/
theorem growth_wk (evs : List ByteArray) (m : Nat) (hs : ∀ s ∈ evs, s.size ≤ 50) : wk (growthM evs m) (growthM evs m).n = dig evs (dep evs.length) 0 := by
  unfold wk
  rw [Nat.sub_self, growth_pt evs m hs]
  show (pruneT evs (ruleG m) (dep evs.length) 0).dg (evs.length : Int) (dep (evs.length : Int).toNat) 0 = _
  rw [Int.toNat_natCast]
  exact pruneT_dg _ _ _ _
theorem growth_wkm (evs : List ByteArray) (m : Nat) (h1 : 1 ≤ m) (hm : m ≤ evs.length) (hs : ∀ s ∈ evs, s.size ≤ 50) : wk (growthM evs m) m = dig (evs.take m) (dep m) 0 := by
  unfold wk
  rw [growth_pt evs m hs]
  show ((pruneT evs (ruleG m) (dep evs.length) 0).left (dep (evs.length : Int).toNat - dep (m : Int).toNat)).dg m (dep (m : Int).toNat) 0 = _
  rw [Int.toNat_natCast, Int.toNat_natCast]
  have hle : dep m ≤ dep evs.length := dep_le _ _ (Nat.le_trans hm (dep_spec _))
  have := left_prune evs m h1 (dep evs.length - dep m) (by omega)
  rw [show dep m + (dep evs.length - dep m) = dep evs.length by omega] at this
  rw [this]
  exact cut_dg evs m hm (dep m) 0 (by omega)

/-- The event that a member proof tells. -/
theorem member_lvs (evs : List ByteArray) (i : Nat) (hi : i < evs.length) (d p : Nat) (h0 : p ≤ i) (h1 : i < p + pw d) : lvs (pruneN evs (ruleM i) d p) = [evAt evs i] := by
  have stubs : ∀ d p, (i < p ∨ p + pw d ≤ i) → lvs (pruneN evs (ruleM i) d p) = [] := by
    intro d p h
    have hr : ruleM i p d = true := by
      unfold ruleM
      simp only [Bool.or_eq_true, Bool.not_eq_true', decide_eq_false_iff_not]
      omega
    cases d with
    | zero => unfold pruneN; rw [if_pos hr]; rfl
    | succ d => unfold pruneN; rw [if_pos hr]; rfl
  induction d generalizing p with
  | zero =>
    rw [pw_zero] at h1
    have hp : p = i := by omega
    subst hp
    unfold pruneN
    rw [if_neg]
    · rfl
    · simp [ruleM, pw_zero]
      exact decide_eq_true (by omega)
  | succ d ih =>
    have h2 := pw_succ d
    unfold pruneN
    rw [if_neg (by
      unfold ruleM
      simp only [Bool.or_eq_true, Bool.not_eq_true', decide_eq_false_iff_not]
      omega)]
    split
    · rw [lvs_two, lvs_append]
      by_cases h : i < p + pw d
      · rw [ih p h0 h, stubs d (p + pw d) (by omega)]; rfl
      · rw [ih (p + pw d) (by omega) (by omega), stubs d p (by omega)]; rfl
    · rw [lvs_alone]
      exact ih p h0 (by omega)
end Go.Proofs.YtlndinigbppafaaGreat

/-
  The walks of what the statements begin with: known, unseen, shown.
-/
namespace Go.Proofs.YtlndinigbppafaaGreat
open Go.RowKit Go.Deep

theorem tk_of {ts : List Msg} {x : Msg} (hv : ValidM x) (hl : ts.length < 300) (ha : acc ts x = 0) : tkE ts (encV x) = 0 ∧ tkL ts (encV x) = ts ++ [x] := by
  unfold tkE tkL
  rw [decS_enc hv]
  simp only
  rw [if_neg (by omega), if_neg (by simp [ha]; omega)]
  exact ⟨ha, rfl⟩
theorem tk_no {ts : List Msg} {x : Msg} {r : Int} (hv : ValidM x) (hl : ts.length < 300) (ha : acc ts x = r) (hr : r ≠ 0) : tkE ts (encV x) = r ∧ tkL ts (encV x) = ts := by
  unfold tkE tkL
  rw [decS_enc hv]
  simp only
  rw [if_neg (by omega), if_pos (.inr (by rw [ha]; exact hr))]
  exact ⟨ha, rfl⟩
theorem acc_commit (ts : List Msg) (evs : List ByteArray) (h : versL ts = []) : acc ts (commitM evs) = 0 := by
  unfold acc commitM
  simp [h]
theorem acc_member (ts : List Msg) (evs : List ByteArray) (i : Int) (hs : ∀ s ∈ evs, s.size ≤ 50) (h : rootOf (versL ts) evs.length = some (dig evs (dep evs.length) 0)) : acc ts (memberM evs i) = 0 := by
  have hw := member_wk evs i hs
  unfold acc
  rw [if_neg (by simp [memberM]), if_neg (by simp [memberM])]
  have hn : (memberM evs i).n = evs.length := rfl
  rw [hn] at hw ⊢
  rw [h]
  simp [hw]
theorem acc_growth (ts : List Msg) (evs : List ByteArray) (m : Nat) (h1 : 1 ≤ m) (hm : m ≤ evs.length) (hs : ∀ s ∈ evs, s.size ≤ 50) (h : (versL ts).getLast? = some ((m : Int), dig (evs.take m) (dep m) 0)) : acc ts (growthM evs m) = 0 := by
  have hw := growth_wk evs m hs
  have hw2 := growth_wkm evs m h1 hm hs
  unfold acc
  rw [if_neg (by simp [growthM]), if_pos (by simp [growthM]), h]
  have hn : (growthM evs m).n = evs.length := rfl
  have hmm : (growthM evs m).m = m := rfl
  have hr : (growthM evs m).root = dig evs (dep evs.length) 0 := rfl
  rw [hn] at hw
  simp only [hmm, hn, hr, hw, hw2]
  simp

/-- The commitment of a log of the one event 'a', and the proof of its event. -/
def evA : List ByteArray := [⟨#[97]⟩]
theorem evA_small : ∀ s ∈ evA, s.size ≤ 50 := by
  intro s hs
  simp [evA] at hs
  subst hs
  decide
def cmA : Msg := commitM evA
def mbA : Msg := memberM evA 0
theorem cmA_valid : ValidM cmA := commit_valid evA (by decide) (by decide)
theorem mbA_valid : ValidM mbA := member_valid evA 0 evA_small (by decide) (by decide)
theorem enc_cmA : encV cmA = [1, 0, 1, 3, 115] := by decide
theorem enc_mbA : encV mbA = [3, 0, 0, 0, 1, 1, 1, 97] := by decide
theorem tk_cmA : tkE [] [1, 0, 1, 3, 115] = 0 ∧ tkL [] [1, 0, 1, 3, 115] = [cmA] := by
  rw [← enc_cmA]
  exact tk_of cmA_valid (by simp) (acc_commit [] evA rfl)
theorem versL_cmA : versL [cmA] = [(1, 883)] := by decide
theorem tk_mbA : tkE [cmA] [3, 0, 0, 0, 1, 1, 1, 97] = 0 ∧ tkL [cmA] [3, 0, 0, 0, 1, 1, 1, 97] = [cmA, mbA] := by
  rw [← enc_mbA]
  exact tk_of mbA_valid (by simp) (acc_member [cmA] evA 0 evA_small (by decide))
theorem txL_A : txL [cmA, mbA] = [[0, 97]] := by decide

theorem evL_mem {ts : List Msg} : ∀ e ∈ evL ts, ∃ x ∈ ts, x.kind = 3 ∧ e = (x.m, lastL x.tree) := by
  have h : ∀ (l : List Msg) (es : List Ent), SortE es → ∀ e ∈ l.foldl (fun l x => if x.kind = 3 then insE l (x.m, lastL x.tree) else l) es, e ∈ es ∨ ∃ x ∈ l, x.kind = 3 ∧ e = (x.m, lastL x.tree) := by
    intro l
    induction l with
    | nil => intro es _ e he; exact .inl he
    | cons x l ih =>
      intro es hs e he
      rw [List.foldl_cons] at he
      by_cases hk : x.kind = 3
      · rw [if_pos hk] at he
        rcases ih _ (ins_sort hs _) e he with h | ⟨y, hy, h1, h2⟩
        · rcases (ins_mem hs _ _).1 h with h | h
          · exact .inl h
          · exact .inr ⟨x, by simp, hk, h⟩
        · exact .inr ⟨y, by simp [hy], h1, h2⟩
      · rw [if_neg hk] at he
        rcases ih _ hs e he with h | ⟨y, hy, h1, h2⟩
        · exact .inl h
        · exact .inr ⟨y, by simp [hy], h1, h2⟩
  intro e he
  rcases h ts [] SortE.nil e he with h | h
  · cases h
  · exact h
theorem mem_evL {ts : List Msg} {x : Msg} (hx : x ∈ ts) (hk : x.kind = 3) : (x.m, lastL x.tree) ∈ evL ts := by
  have h : ∀ (l : List Msg) (es : List Ent), SortE es → (∀ e ∈ es, e ∈ l.foldl (fun l x => if x.kind = 3 then insE l (x.m, lastL x.tree) else l) es) ∧ (x ∈ l → (x.m, lastL x.tree) ∈ l.foldl (fun l x => if x.kind = 3 then insE l (x.m, lastL x.tree) else l) es) := by
    intro l
    induction l with
    | nil => intro es _; exact ⟨fun e he => he, fun h => by cases h⟩
    | cons y l ih =>
      intro es hs
      rw [List.foldl_cons]
      by_cases hk2 : y.kind = 3
      · rw [if_pos hk2]
        have h1 := ih _ (ins_sort hs (y.m, lastL y.tree))
        refine ⟨fun e he => h1.1 e ((ins_mem hs _ _).2 (.inl he)), fun hm => ?_⟩
        rcases List.mem_cons.1 hm with rfl | hm
        · exact h1.1 _ ((ins_mem hs _ _).2 (.inr rfl))
        · exact h1.2 hm
      · rw [if_neg hk2]
        have h1 := ih _ hs
        refine ⟨h1.1, fun hm => ?_⟩
        rcases List.mem_cons.1 hm with rfl | hm
        · exact absurd hk hk2
        · exact h1.2 hm
  exact (h ts [] SortE.nil).2 hx
theorem took_valid {ts : List Msg} (h : Took ts) : ∀ x ∈ ts, ValidM x := by
  induction h with
  | nil => intro x hx; cases hx
  | snoc ts y _ hv _ _ ih =>
    intro x hx
    rcases List.mem_append.1 hx with hx | hx
    · exact ih x hx
    · simp at hx; subst hx; exact hv
theorem last_lvs {x : Msg} (hx : ValidM x) (hk : x.kind = 3) : lastL x.tree ∈ lvs x.tree := by
  obtain ⟨a, a1, _⟩ := memb_rc (S := fun _ => True) hx hk (fun _ _ => trivial)
  unfold lastL
  rw [a1]
  simp
/-- Who knows two events of one number has two preimages of one sum. -/
theorem sound_ev {ts : List Msg} (h : Took ts) (hS : ∀ a ∈ txL ts, ∀ b ∈ txL ts, sm a = sm b → a = b) {e e' : Ent} (he : e ∈ evL ts) (he' : e' ∈ evL ts) (h1 : e.1 = e'.1) : e.2 = e'.2 := by
  obtain ⟨x, hx, kx, rfl⟩ := evL_mem e he
  obtain ⟨y, hy, ky, rfl⟩ := evL_mem e' he'
  exact sound_pure h hS hx hy kx ky h1 (last_lvs (took_valid h x hx) kx) (last_lvs (took_valid h y hy) ky)
theorem Shows.is {ts : List Msg} {w w' : World} {x y x' y' : Value} {k k' : Bool} (h : Shows ts w x y k) (h' : Shows ts w' x' y' k') : k = k' := by
  cases h with
  | no hi =>
    cases h' with
    | no _ => rfl
    | yes a b _ _ _ _ hl hs _ _ ha hb _ _ =>
      have := hi _ ha _ hb hs
      exact absurd (ba_ext this) (fun e => by subst e; exact ltB_irrefl _ hl)
  | yes a b _ _ _ _ hl hs _ _ ha hb _ _ =>
    cases h' with
    | no hi =>
      have := hi _ ha _ hb hs
      exact absurd (ba_ext this) (fun e => by subst e; exact ltB_irrefl _ hl)
    | yes _ _ _ _ _ _ _ _ _ _ _ _ _ _ => rfl
end Go.Proofs.YtlndinigbppafaaGreat

/-
  The walks of what the statements begin with: known, unseen, shown.
-/
namespace Go.Proofs.YtlndinigbppafaaGreat
open Go.RowKit Go.Deep

theorem bytes_lit (w : World) (l : List UInt8) (b n : Nat) (cur : Array Value) (hb : b = w.heap.size) (hn : n = l.length) (hc : cur = (bytes8 l).toArray) (hl : l.length ≤ 1000) : BytesC (w.alloc (.cells cur 5)) (.slice (some ⟨b, 0, none⟩) n n) l := by
  subst hb hn hc
  refine ⟨⟨_, _, rfl, fun h => (by cases h), fun _ => ⟨_, _, _, _, rfl, heap_alloc_new w _, fun j hj => ?_⟩⟩, _, _, rfl, Nat.le_refl _, by unfold maxLen; omega⟩
  rw [Nat.zero_add]
  simp [bytes8, hj]

set_option maxRecDepth 100000 in
set_option maxHeartbeats 1000000 in
theorem known_any (w : World) :
    Calls Tryz.prog 19 #[] w fun e w' => e = .returned (.bool true) ∧ Below w.heap.size w w' := by
  go_enter Tryz.func19, Tryz.ntmps19
  go_wp2_with fail
  refine (newAud_any w).mono ?_
  rintro e w1 ⟨rfl, hA1, hb1⟩
  go_wp2_with fail
  refine (rooted_any w1).mono ?_
  rintro e w2 ⟨rfl, hb2⟩
  have hA2 := hA1.below hb2
  have hB2 := below_step hb1 hb2
  clear hA1 hb1 hb2
  have hC3 := bytes_lit w2 [1, 0, 1, 3, 115] w2.heap.size 5 #[.int .u8 1, .int .u8 0, .int .u8 1, .int .u8 3, .int .u8 115] rfl rfl rfl (by decide)
  have hb3 : Below w2.heap.size w2 (w2.alloc (.cells #[.int .u8 1, .int .u8 0, .int .u8 1, .int .u8 3, .int .u8 115] 5)) := (Below.refl _ _).alloc (Nat.le_refl _) _
  have HA3 : Hid (AudAt (w2.alloc (.cells #[.int .u8 1, .int .u8 0, .int .u8 1, .int .u8 3, .int .u8 115] 5)) w.heap.size w.heap.size []) := hA2.below hb3
  have hB3 := below_step hB2 hb3
  clear hA2 hB2 hb3
  go_wp2_with fail
  generalize w2.alloc (.cells #[.int .u8 1, .int .u8 0, .int .u8 1, .int .u8 3, .int .u8 115] 5) = w3 at hC3 HA3 hB3 ⊢
  refine (take_any w3 _ _ [] _ _ HA3.out hC3).mono ?_
  rintro e w4 ⟨rfl, hA4, hK4⟩
  rw [tk_cmA.1]
  rw [tk_cmA.2] at hA4
  have hB4 := hB3.trans ((KeepsA.below hK4 hB3.size).mono (Nat.le_refl _))
  clear hC3 HA3 hB3 hK4
  go_wp2_with fail
  refine (versions_any w4 _ _ _ hA4).mono ?_
  rintro e w5 ⟨V, rfl, hV, hb5⟩
  have hB5 := hB4.trans (hb5.mono hB4.size)
  clear hA4 hB4 hb5
  rw [versL_cmA] at hV
  obtain ⟨ao, cap, rfl, hc⟩ := hV
  obtain ⟨b, o, rfl, hlt, hc⟩ := hc (by decide)
  obtain ⟨c0, c1⟩ := hc 0 (by decide)
  simp only [List.getElem_cons_zero, Nat.zero_mul, Nat.add_zero] at c0 c1
  clear hc
  go_wp2
  go_ret
  exact ⟨rfl, hB5⟩

theorem below_take {w u v : World} {n : Nat} (h : Below n w u) (hK : KeepsA n u v) (hn : n ≤ u.heap.size) : Below n w v := h.trans (KeepsA.below hK hn)

set_option maxRecDepth 100000 in
set_option maxHeartbeats 1000000 in
theorem unseen_any (w : World) :
    Calls Tryz.prog 28 #[] w fun e w' => e = .returned (.bool true) ∧ Below w.heap.size w w' := by
  go_enter Tryz.func28, Tryz.ntmps28
  go_wp2_with fail
  refine (newAud_any w).mono ?_
  rintro e w2 ⟨rfl, hA2, hB2⟩
  have hC3 := bytes_lit w2 [1, 0, 1, 3, 115] w2.heap.size 5 #[.int .u8 1, .int .u8 0, .int .u8 1, .int .u8 3, .int .u8 115] rfl rfl rfl (by decide)
  have hb3 : Below w2.heap.size w2 (w2.alloc (.cells #[.int .u8 1, .int .u8 0, .int .u8 1, .int .u8 3, .int .u8 115] 5)) := (Below.refl _ _).alloc (Nat.le_refl _) _
  have HA3 : Hid (AudAt (w2.alloc (.cells #[.int .u8 1, .int .u8 0, .int .u8 1, .int .u8 3, .int .u8 115] 5)) w.heap.size w.heap.size []) := hA2.below hb3
  have hB3 := below_step hB2 hb3
  clear hA2 hB2 hb3
  go_wp2_with fail
  generalize w2.alloc (.cells #[.int .u8 1, .int .u8 0, .int .u8 1, .int .u8 3, .int .u8 115] 5) = w3 at hC3 HA3 hB3 ⊢
  refine (take_any w3 _ _ [] _ _ HA3.out hC3).mono ?_
  rintro e w4 ⟨rfl, hA4, hK4⟩
  rw [tk_cmA.1]
  rw [tk_cmA.2] at hA4
  have hB4 := below_take hB3 hK4 hB3.size
  clear hC3 HA3 hB3 hK4
  have hC3 := bytes_lit w4 [3, 0, 0, 0, 1, 1, 1, 97] w4.heap.size 8 #[.int .u8 3, .int .u8 0, .int .u8 0, .int .u8 0, .int .u8 1, .int .u8 1, .int .u8 1, .int .u8 97] rfl rfl rfl (by decide)
  have hb3 : Below w4.heap.size w4 (w4.alloc (.cells #[.int .u8 3, .int .u8 0, .int .u8 0, .int .u8 0, .int .u8 1, .int .u8 1, .int .u8 1, .int .u8 97] 5)) := (Below.refl _ _).alloc (Nat.le_refl _) _
  have HA3 : Hid (AudAt (w4.alloc (.cells #[.int .u8 3, .int .u8 0, .int .u8 0, .int .u8 0, .int .u8 1, .int .u8 1, .int .u8 1, .int .u8 97] 5)) w.heap.size w.heap.size [cmA]) := hA4.below hb3
  have hB3 := below_step hB4 hb3
  clear hA4 hB4 hb3
  go_wp2_with fail
  generalize w4.alloc (.cells #[.int .u8 3, .int .u8 0, .int .u8 0, .int .u8 0, .int .u8 1, .int .u8 1, .int .u8 1, .int .u8 97] 5) = w5 at hC3 HA3 hB3 ⊢
  refine (take_any w5 _ _ [cmA] _ _ HA3.out hC3).mono ?_
  rintro e w6 ⟨rfl, hA6, hK6⟩
  rw [tk_mbA.1]
  rw [tk_mbA.2] at hA6
  have hB6 := below_take hB3 hK6 hB3.size
  clear hC3 HA3 hB3 hK6
  go_wp2_with fail
  refine (collision_any w6 _ _ _ hA6).mono ?_
  rintro e w7 ⟨x, y, k, rfl, hS, hb7⟩
  have hB7 := hB6.trans (hb7.mono hB6.size)
  have hS0 : Shows [cmA, mbA] w7 (.slice none 0 0) (.slice none 0 0) false := .no (by rw [txL_A]; intro a ha b hb _; simp at ha hb; rw [ha, hb])
  cases hS with
  | yes a b ax ay cx cy hl hs s1 s2 ha hb =>
    rw [txL_A] at ha hb
    simp at ha hb
    exact absurd (ba_ext (ha.trans hb.symm)) (fun e => by subst e; exact ltB_irrefl _ hl)
  | no _ =>
    clear hS0 hA6 hB6 hb7
    go_wp2
    go_ret
    exact ⟨rfl, hB7⟩

set_option maxRecDepth 100000 in
set_option maxHeartbeats 1000000 in
theorem shown_any (w : World) (b0 A : Nat) (ts : List Msg) (h : AudAt w b0 A ts) (hn : ¬ ∀ a ∈ txL ts, ∀ b ∈ txL ts, sm a = sm b → a = b) :
    Calls Tryz.prog 31 #[.pointer (some ⟨A, 0, none⟩)] w fun e w' => e = .returned (.bool true) ∧ Below w.heap.size w w' := by
  go_enter Tryz.func31, Tryz.ntmps31
  go_wp2_with fail
  refine (collision_any w _ _ _ h).mono ?_
  rintro e w1 ⟨x, y, k, rfl, hS, hb1⟩
  cases hS with
  | no hi => exact absurd hi hn
  | yes a b ax ay cx cy hl hs s1 s2 ha hb hxa hyb =>
    have ea : (⟨a.data.toList.toArray⟩ : ByteArray) = a := by simp
    have eb : (⟨b.data.toList.toArray⟩ : ByteArray) = b := by simp
    have c1 := conv_slice w1 _ ax cx hxa.1
    have c2 := conv_slice w1 _ ay cy hyb.1
    have la : a.data.toList.length = a.size := by simp
    have lb : b.data.toList.length = b.size := by simp
    rw [ea, la] at c1
    rw [eb, lb] at c2
    rw [la] at hxa
    rw [lb] at hyb
    clear la lb
    have hlt : Op.bytesLess a.toList b.toList = true := by rw [less_lt]; simpa using hl
    clear ea eb hn h ha hb
    have hrA := rowsOne w1 w1.heap.size _ _ rfl hxa.1
    have hbA : Below w1.heap.size w1 (w1.alloc (.cells #[.slice (some ax) a.size cx] 27)) := (Below.refl _ _).alloc (Nat.le_refl _) _
    have hyA : BytesAt (w1.alloc (.cells #[.slice (some ax) a.size cx] 27)) (.slice (some ay) b.size cy) b.data.toList := hyb.1.keep (keepA _ _)
    have hrB := rowsOne (w1.alloc (.cells #[.slice (some ax) a.size cx] 27)) (w1.heap.size + 1) _ _ (by simp) hyA
    go_wp2_with fail
    refine (sum_any [a.data.toList] _ _ hrA (by simp) (by simp; omega)).mono ?_
    rintro e w2 ⟨rfl, rfl⟩
    go_wp2_with fail
    refine (sum_any [b.data.toList] _ _ hrB (by simp) (by simp; omega)).mono ?_
    rintro e w3 ⟨rfl, rfl⟩
    have e2 : [b.data.toList].flatten = b.data.toList := by simp
    rw [e2]
    go_wp2
    go_ret
    exact ⟨rfl, hb1.trans (((hbA.alloc (by simp) _)).mono hb1.size)⟩
end Go.Proofs.YtlndinigbppafaaGreat

/-
  Arguments that are handed in: lists of strings and numbers, however long; five of them.
-/
namespace Go.Proofs.YtlndinigbppafaaGreat
open Go.ChangeShapes Go.WideShapes Go.ChangeAt Go.RowKit

theorem Tryz.cellsStrA : Tryz.prog.cellsOf 9 = 1 := by kernel_rfl
theorem Tryz.ownA : ownKnob Tryz.prog.godebug = none := by kernel_rfl
theorem Tryz.laidA : laidOutB Tryz.prog = true := by kernel_rfl

theorem wf64 {n : Int} (h : (Lit.int .i64 n).wf = true) : -9223372036854775808 ≤ n ∧ n ≤ 9223372036854775807 := by
  simp only [Lit.wf, Bool.and_eq_true, decide_eq_true_eq] at h
  exact h

set_option maxRecDepth 100000 in
/-- An argument that is a list of strings: what it holds. -/
theorem strings_wide {H : Type} {enc : TypeId × Value → H} {W : World} {base : Nat} {v : Value} {d : DataW H} {p : List MemPlace}
    (hok : Value.okWide Tryz.prog W .any base 22 v) (h : DataW.Trod enc Tryz.prog W 0 (fun _ => true) true 22 v d p) (hlt : ∀ x ∈ p, x.block < W.heap.size) :
    ∃ ps : List ByteArray, StringsAt W v ps ∧ ps.length ≤ maxLen ∧ ∀ s ∈ ps, s.size ≤ maxLen := by
  obtain ⟨a0, len, cap, rfl⟩ := okWide_slice Tryz.underlying22 hok
  obtain ⟨fuel, hf⟩ := h
  rcases open_strings Tryz.underlying22 Tryz.underlying9 Tryz.cellsStrA hf with ⟨hcs, hx⟩ | ⟨a, len', cap', ss, hcs, _, hl, hm, hz, hx, hcell, hws⟩
  · simp [Value.cells] at hcs
    obtain ⟨rfl, rfl, rfl⟩ := hcs
    exact ⟨[], ⟨none, 0, rfl, fun h => by simp at h⟩, by simp, fun s hs => by cases hs⟩
  · simp [Value.cells] at hcs
    obtain ⟨rfl, rfl, rfl⟩ := hcs
    simp only [Prod.mk.injEq] at hx
    obtain ⟨rfl, rfl⟩ := hx
    simp only [if_true] at hz
    refine ⟨ss.take len, ⟨some a, cap, by rw [List.length_take]; congr 1; omega, fun h => ?_⟩, ?_, fun s hs => hws s (List.mem_of_mem_take hs)⟩
    · rw [List.length_take] at h
      obtain ⟨b, off, spot⟩ := a
      have hspot : spot = none := by simpa [Addr.add] using World.cell?_spot (hcell 0 (by omega))
      subst hspot
      refine ⟨b, off, rfl, hlt (.cell b off) (MemPlace.mem_row.2 ⟨0, by omega, by simp⟩), fun j hj => ?_⟩
      rw [List.length_take] at hj
      rw [← add_plain, hcell j (by omega)]
      simp [List.getElem?_eq_getElem (show j < ss.length by omega)]
    · rw [List.length_take]; omega

section
variable {H : Type} {enc : TypeId × Value → H} {P : Program} {w : World} {base : Nat} {spare : Nat → Bool} {held : Bool}
theorem trodAll_five {t0 t1 t2 t3 t4 : TypeId} {args : Array Value} {ds : List (DataW H)} {ps : List MemPlace} (h : DataW.TrodAll enc P w base spare held [t0, t1, t2, t3, t4] args.toList ds ps) :
    ∃ v0 v1 v2 v3 v4 d0 d1 d2 d3 d4 p0 p1 p2 p3 p4, args = #[v0, v1, v2, v3, v4] ∧ ds = [d0, d1, d2, d3, d4] ∧ ps = p0 ++ (p1 ++ (p2 ++ (p3 ++ p4))) ∧ DataW.Trod enc P w base spare held t0 v0 d0 p0 ∧ DataW.Trod enc P w base spare held t1 v1 d1 p1 ∧ DataW.Trod enc P w base spare held t2 v2 d2 p2 ∧ DataW.Trod enc P w base spare held t3 v3 d3 p3 ∧ DataW.Trod enc P w base spare held t4 v4 d4 p4 := by
  obtain ⟨v0, vs, d0, ds0, p0, q0, hargs, rfl, rfl, h0, r0⟩ := trodAll_cons h
  obtain ⟨v1, vs1, d1, ds1, p1, q1, rfl, rfl, rfl, h1, r1⟩ := trodAll_cons r0
  obtain ⟨v2, vs2, d2, ds2, p2, q2, rfl, rfl, rfl, h2, r2⟩ := trodAll_cons r1
  obtain ⟨v3, vs3, d3, ds3, p3, q3, rfl, rfl, rfl, h3, r3⟩ := trodAll_cons r2
  obtain ⟨v4, vs4, d4, ds4, p4, q4, rfl, rfl, rfl, h4, r4⟩ := trodAll_cons r3
  obtain ⟨rfl, rfl, rfl⟩ := trodAll_nil r4
  exact ⟨v0, v1, v2, v3, v4, d0, d1, d2, d3, d4, p0, p1, p2, p3, p4, by cases args; simp_all, rfl, by simp, h0, h1, h2, h3, h4⟩
theorem trodAll_mk5 {t0 t1 t2 t3 t4 : TypeId} {v0 v1 v2 v3 v4 : Value} {d0 d1 d2 d3 d4 : DataW H} {p0 p1 p2 p3 p4 : List MemPlace} (h0 : DataW.Trod enc P w base spare held t0 v0 d0 p0) (h1 : DataW.Trod enc P w base spare held t1 v1 d1 p1) (h2 : DataW.Trod enc P w base spare held t2 v2 d2 p2) (h3 : DataW.Trod enc P w base spare held t3 v3 d3 p3) (h4 : DataW.Trod enc P w base spare held t4 v4 d4 p4) :
    DataW.TrodAll enc P w base spare held [t0, t1, t2, t3, t4] [v0, v1, v2, v3, v4] [d0, d1, d2, d3, d4] (p0 ++ (p1 ++ (p2 ++ (p3 ++ p4)))) := ⟨p0, _, h0, trodAll_mk4 h1 h2 h3 h4, rfl⟩
end
end Go.Proofs.YtlndinigbppafaaGreat

/-
  A call that starts no goroutine meets what is asked of one that may: nobody else is there at the return.
-/
namespace Go.Proofs.YtlndinigbppafaaGreat
open Go.Conc

theorem leaves_of_done {P : Program} {m : Machine} (h : m.othersDone = true) : ∀ g ∈ m.gs.toList.drop 1, g.Leaves P := by
  intro g hg
  refine ⟨0, ?_⟩
  unfold Machine.othersDone at h
  simp only [List.all_eq_true] at h
  have := h g hg
  show g.status = .finished
  revert this
  cases g.status <;> simp

theorem leaving_of_handed {a : Assume} {C : Checked} {os : Os} {f : FuncId} {r : Reach} {Pre : World → Array Value → Prop} {Post : World → Array Value → Value → World → Prop}
    (h : ReturnsInHanded a C os f r Pre Post) : ReturnsInLeavingWide a C os f r Pre Post :=
  fun enter => ReturnsInOpen.mono (fun _ _ _ x => ⟨x.2.1, ⟨leaves_of_done x.1.1, x.1.2⟩, x.2.2⟩) (fun _ x => x) (h enter)
end Go.Proofs.YtlndinigbppafaaGreat

/-
  What the statements of logs and auditors share: a log's messages as bytes that Take takes; a list of events in which one is put in another's place.
-/
namespace Go.Proofs.YtlndinigbppafaaGreat
open Go.RowKit Go.Deep

theorem bytesC_owns {w : World} {base : Nat} {v : Value} {n : Nat} {l : List UInt8} (h : w.ownsRow base 5 1 v n (bytes8 l)) : BytesC w v l := by
  refine ⟨BytesAt.of_owns h, ?_⟩
  have hn : l.length = n := by have := h.1; rw [bytes8_length] at this; omega
  subst hn
  rcases h.2 with ⟨rfl, h0⟩ | ⟨g, cap, cur, rfl, _, _, h1, h2, h3, _⟩
  · exact ⟨none, 0, by rw [h0], by omega, by unfold maxLen; omega⟩
  · exact ⟨_, cap, rfl, by omega, by omega⟩
theorem BytesC.keepsA {w w' : World} {b0 : Nat} {v : Value} {l : List UInt8} (h : BytesC w v l) (hK : KeepsA b0 w w') : BytesC w' v l := ⟨h.1.keep (KeepsA.keepsT hK (by decide) (by decide) (by decide) (by decide) (by decide)), h.2⟩

theorem own_set {w : World} {base g n cp i : Nat} {t : TypeId} {xs : List Value} {x : Value} (h : w.ownsRow base t 1 (.slice (some ⟨g, 0, none⟩) n cp) n xs) :
    (w.setCell ⟨g, i, none⟩ x).ownsRow base t 1 (.slice (some ⟨g, 0, none⟩) n cp) n (xs.set i x) := by
  obtain ⟨h1, h2⟩ := h
  rcases h2 with ⟨h, _⟩ | ⟨g', cap, cur, e, h3, h4, h5, h6, h7, h8⟩
  · cases h
  · simp only [Value.slice.injEq, Option.some.injEq, Addr.mk.injEq] at e
    obtain ⟨⟨rfl, _, _⟩, _, rfl⟩ := e
    refine ⟨by simpa using h1, .inr ⟨g, cp, cur.setIfInBounds i x, rfl, h3, set_heap i x h4, h5, h6, by simpa using h7, ?_⟩⟩
    rw [Array.toList_setIfInBounds, ← h8, List.take_set]
theorem owns_news {w : World} {base n cp : Nat} {t : TypeId} {xs : List Value} {ad : Addr} (h : w.ownsRow base t 1 (.slice (some ad) n cp) n xs) : ∀ j u, xs[j]? = some u → w.cell? (ad.add j) = some u := by
  intro j u hj
  obtain ⟨h1, h2⟩ := h
  rcases h2 with ⟨h, _⟩ | ⟨g', cap, cur, e, h3, h4, h5, h6, h7, h8⟩
  · cases h
  · simp only [Value.slice.injEq, Option.some.injEq] at e
    obtain ⟨rfl, _, rfl⟩ := e
    rw [show (⟨g', 0, none⟩ : Addr).add j = ⟨g', j, none⟩ by unfold Addr.add; split <;> simp_all, cell_of_row _ _ _ _ _ _ h4]
    have hjl : j < xs.length := (List.getElem?_eq_some_iff.1 hj).1
    rw [← h8, List.getElem?_take] at hj
    rw [if_pos (by omega)] at hj
    simpa using hj
theorem owns_cell {w : World} {base g n cp i : Nat} {t : TypeId} {xs : List Value} {x : Value} (h : w.ownsRow base t 1 (.slice (some ⟨g, 0, none⟩) n cp) n xs) (hx : xs[i]? = some x) : w.cell? ⟨g, i, none⟩ = some x ∧ w.frozen? ⟨g, i, none⟩ = false := by
  have h1 := owns_news h i x hx
  rw [show (⟨g, 0, none⟩ : Addr).add i = ⟨g, i, none⟩ by unfold Addr.add; split <;> simp_all] at h1
  refine ⟨h1, ?_⟩
  rcases h.2 with ⟨h, _⟩ | ⟨g', cap, cur, e, h3, h4, _⟩
  · cases h
  · simp only [Value.slice.injEq, Option.some.injEq, Addr.mk.injEq] at e
    obtain ⟨⟨rfl, _, _⟩, _, rfl⟩ := e
    unfold World.frozen?
    rw [h4]
    simp
theorem strs8_one (l : List ByteArray) : ∀ u ∈ strs8 l, u.oneCell' = true := by
  intro u hu
  unfold strs8 at hu
  obtain ⟨s, _, rfl⟩ := List.mem_map.1 hu
  rfl
theorem strs8_len (l : List ByteArray) : (strs8 l).length = l.length := by unfold strs8; simp
theorem strs8_get {l : List ByteArray} {i : Nat} (h : i < l.length) : (strs8 l)[i]? = some (.string l[i]) := by unfold strs8; simp [h]
theorem strs_owns {w : World} {base : Nat} {v : Value} {n : Nat} {l : List ByteArray} (h : w.ownsRow base 9 1 v n (strs8 l)) : StringsAt w v l := strs_of_owns h
theorem strs8_set (l : List ByteArray) (i : Nat) (s : ByteArray) : (strs8 l).set i (.string s) = strs8 (l.set i s) := by
  unfold strs8; rw [List.map_set]

theorem cut50_id {s : ByteArray} (h : s.size ≤ 50) : cut50 s = s := by unfold cut50; rw [if_neg (by omega)]
theorem keptL_same {l : List ByteArray} (h1 : 1 ≤ l.length) (h2 : l.length ≤ 60) (hs : ∀ s ∈ l, s.size ≤ 50) : keptL l = l := by
  unfold keptL
  rw [if_neg (by intro e; subst e; simp at h1), List.take_of_length_le h2]
  conv => rhs; rw [← List.map_id l]
  exact List.map_congr_left fun s h => cut50_id (hs s h)
theorem set_small {l : List ByteArray} {i : Nat} {s : ByteArray} (hs : ∀ s ∈ l, s.size ≤ 50) (h : s.size ≤ 50) : ∀ p ∈ l.set i s, p.size ≤ 50 := by
  intro p hp
  rcases List.mem_or_eq_of_mem_set hp with h' | rfl
  · exact hs p h'
  · exact h

/-- A result that is a slice of these bytes. -/
def Out (w : World) (v : Value) (l : List UInt8) : Prop := ∃ ad cp L, v = .slice (some ad) L cp ∧ L = l.length ∧ BytesC w v l
theorem out_of {w : World} {base n : Nat} {v : Value} {l : List UInt8} (h : w.ownsRow base 5 1 v n (bytes8 l)) (hl : 0 < l.length) : Out w v l := by
  have hC := bytesC_owns h
  obtain ⟨b, o, cap, rfl, _⟩ := hC.cells hl
  exact ⟨_, _, _, rfl, rfl, hC⟩

theorem commitC (w : World) (b0 B : Nat) (S : Value) (evs : List ByteArray) (n : Nat) (h : LogAt w b0 B S evs) (h1 : 1 ≤ n) (h2 : n ≤ evs.length) (hn : evs.length ≤ 60) (hs : ∀ s ∈ evs, s.size ≤ 50) :
    Calls Tryz.prog 23 #[.pointer (some ⟨B, 0, none⟩), .int .i64 n] w fun e w' => ∃ v', e = .returned (.tuple #[v', .int .i64 0]) ∧ Out w' v' (encV (commitM (evs.take n))) ∧ Below w.heap.size w w' := by
  refine (commit_ok w b0 B S evs n h h1 h2 (by omega) (fun s h => Nat.le_trans (hs s h) (by omega))).mono ?_
  rintro e w' ⟨v', he, hO, hb⟩
  rw [commitB_eq] at hO
  have hv := commit_valid (evs.take n) (by rw [List.length_take]; omega) (by rw [List.length_take]; omega)
  exact ⟨v', he, out_of hO (by have := hv.short.1; omega), hb⟩
theorem growthC (w : World) (b0 B : Nat) (S : Value) (evs : List ByteArray) (m n : Nat) (h : LogAt w b0 B S evs) (h1 : 1 ≤ m) (hm : m ≤ n) (h2 : n ≤ evs.length) (hn : evs.length ≤ 60) (hs : ∀ s ∈ evs, s.size ≤ 50) :
    Calls Tryz.prog 25 #[.pointer (some ⟨B, 0, none⟩), .int .i64 m, .int .i64 n] w fun e w' => ∃ v', e = .returned (.tuple #[v', .int .i64 0]) ∧ Out w' v' (encV (growthM (evs.take n) m)) ∧ Below w.heap.size w w' := by
  refine (growth_ok w b0 B S evs m n h (by omega) h2 (by omega) (by omega) (by omega) (fun s h => Nat.le_trans (hs s h) (by omega))).mono ?_
  rintro e w' ⟨v', he, hO, hb⟩
  rw [growthB_eq] at hO
  have hv := growth_valid (evs.take n) m (take_small hs) (by rw [List.length_take]; omega) (by rw [List.length_take]; omega)
  exact ⟨v', he, out_of hO (by have := hv.short.1; omega), hb⟩
theorem memberC (w : World) (b0 B : Nat) (S : Value) (evs : List ByteArray) (i n : Nat) (h : LogAt w b0 B S evs) (hi : i < n) (h2 : n ≤ evs.length) (hn : evs.length ≤ 60) (hs : ∀ s ∈ evs, s.size ≤ 50) :
    Calls Tryz.prog 26 #[.pointer (some ⟨B, 0, none⟩), .int .i64 i, .int .i64 n] w fun e w' => ∃ v', e = .returned (.tuple #[v', .int .i64 0]) ∧ Out w' v' (encV (memberM (evs.take n) i)) ∧ Below w.heap.size w w' := by
  refine (member_ok w b0 B S evs i n h (by omega) h2 (by omega) (by omega) (by omega) (fun s h => Nat.le_trans (hs s h) (by omega))).mono ?_
  rintro e w' ⟨v', he, hO, hb⟩
  rw [memberB_eq] at hO
  have hv := member_valid (evs.take n) i (take_small hs) (by rw [List.length_take]; omega) (by rw [List.length_take]; omega)
  exact ⟨v', he, out_of hO (by have := hv.short.1; omega), hb⟩
theorem rootC (w : World) (b0 B : Nat) (S : Value) (evs : List ByteArray) (n : Nat) (h : LogAt w b0 B S evs) (h1 : 1 ≤ n) (h2 : n ≤ evs.length) (hn : evs.length ≤ 60) (hs : ∀ s ∈ evs, s.size ≤ 50) :
    Calls Tryz.prog 33 #[.pointer (some ⟨B, 0, none⟩), .int .i64 n] w fun e w' => e = .returned (.tuple #[.int .i64 (dig (evs.take n) (dep n) 0), .int .i64 0]) ∧ Below w.heap.size w w' :=
  root_ok w b0 B S evs n h h1 h2 (by omega) (fun s h => Nat.le_trans (hs s h) (by omega))

/-- What a log's own messages do. -/
theorem tk_commit (ts : List Msg) (evs : List ByteArray) (n : Nat) (hl : ts.length < 300) (h1 : 1 ≤ n) (h2 : n ≤ evs.length) (hn : evs.length ≤ 60) (h : versL ts = []) :
    tkE ts (encV (commitM (evs.take n))) = 0 ∧ tkL ts (encV (commitM (evs.take n))) = ts ++ [commitM (evs.take n)] :=
  tk_of (commit_valid _ (by rw [List.length_take]; omega) (by rw [List.length_take]; omega)) hl (acc_commit _ _ h)
theorem versL_commit (evs : List ByteArray) (n : Nat) (h2 : n ≤ evs.length) : versL [commitM (evs.take n)] = [((n : Int), dig (evs.take n) (dep n) 0)] := by
  simp [versL, commitM, Nat.min_eq_left h2]
theorem growth_mn (evs : List ByteArray) (m n : Nat) (h2 : n ≤ evs.length) : (growthM (evs.take n) m).m = m ∧ (growthM (evs.take n) m).n = n ∧ (growthM (evs.take n) m).root = dig (evs.take n) (dep n) 0 ∧ (growthM (evs.take n) m).kind = 2 := by
  have e : (evs.take n).length = n := by rw [List.length_take]; omega
  refine ⟨rfl, ?_, ?_, rfl⟩
  · show ((evs.take n).length : Int) = n; rw [e]
  · show dig (evs.take n) (dep (evs.take n).length) 0 = _; rw [e]
theorem tk_growth (ts : List Msg) (evs : List ByteArray) (m n : Nat) (hl : ts.length < 300) (h1 : 1 ≤ m) (hm : m ≤ n) (h2 : n ≤ evs.length) (hn : evs.length ≤ 60) (hs : ∀ s ∈ evs, s.size ≤ 50) (h : (versL ts).getLast? = some ((m : Int), dig (evs.take m) (dep m) 0)) :
    tkE ts (encV (growthM (evs.take n) m)) = 0 ∧ tkL ts (encV (growthM (evs.take n) m)) = ts ++ [growthM (evs.take n) m] := by
  have e : (evs.take n).length = n := by rw [List.length_take]; omega
  have e2 : (evs.take n).take m = evs.take m := by rw [List.take_take, Nat.min_eq_left hm]
  exact tk_of (growth_valid _ _ (take_small hs) (by rw [e]; omega) (by rw [e]; omega)) hl (acc_growth _ _ _ h1 (by rw [e]; omega) (take_small hs) (by rw [e2]; exact h))
theorem tk_wrong (ts : List Msg) (evs : List ByteArray) (m n : Nat) (r : Int) (hl : ts.length < 300) (h1 : 1 ≤ m) (hm : m ≤ n) (h2 : n ≤ evs.length) (hn : evs.length ≤ 60) (hs : ∀ s ∈ evs, s.size ≤ 50) (h : (versL ts).getLast? = some ((m : Int), r)) (hr : r ≠ dig (evs.take m) (dep m) 0) :
    tkE ts (encV (growthM (evs.take n) m)) = 9 ∧ tkL ts (encV (growthM (evs.take n) m)) = ts := by
  have e : (evs.take n).length = n := by rw [List.length_take]; omega
  have e2 : (evs.take n).take m = evs.take m := by rw [List.take_take, Nat.min_eq_left hm]
  refine tk_no (growth_valid _ _ (take_small hs) (by rw [e]; omega) (by rw [e]; omega)) hl ?_ (by decide)
  have hw2 := growth_wkm (evs.take n) m h1 (by rw [e]; omega) (take_small hs)
  rw [e2] at hw2
  unfold acc
  rw [if_neg (by simp [growthM]), if_pos (by simp [growthM]), h]
  have hmm : (growthM (evs.take n) m).m = m := rfl
  simp only [hmm, hw2]
  rw [if_neg (by simp), if_pos (.inl (fun e => hr e.symm))]
theorem tk_member (ts : List Msg) (evs : List ByteArray) (i n : Nat) (hl : ts.length < 300) (hi : i < n) (h2 : n ≤ evs.length) (hn : evs.length ≤ 60) (hs : ∀ s ∈ evs, s.size ≤ 50) (h : rootOf (versL ts) n = some (dig (evs.take n) (dep n) 0)) :
    tkE ts (encV (memberM (evs.take n) i)) = 0 ∧ tkL ts (encV (memberM (evs.take n) i)) = ts ++ [memberM (evs.take n) i] := by
  have e : (evs.take n).length = n := by rw [List.length_take]; omega
  exact tk_of (member_valid _ _ (take_small hs) (by rw [e]; omega) (by rw [e]; omega)) hl (acc_member _ _ _ (take_small hs) (by rw [e]; exact h))
end Go.Proofs.YtlndinigbppafaaGreat

/-
  Liar: the plain mathematics: an event of the same sum in another's place leaves every digest; an auditor that took both proofs knows both events.
-/
namespace Go.Proofs.YtlndinigbppafaaGreat
open Go.RowKit

theorem dig_set (evs : List ByteArray) (X : Nat) (O : ByteArray) (h : sm (0 :: O.data.toList) = sm (0 :: (evAt evs X).data.toList)) (hX : X < evs.length) (d p : Nat) : dig (evs.set X O) d p = dig evs d p := by
  induction d generalizing p with
  | zero =>
    unfold dig
    by_cases e : p = X
    · subst e
      have : evAt (evs.set p O) p = O := by unfold evAt; simp [hX]
      rw [this, h]
    · have : evAt (evs.set X O) p = evAt evs p := by unfold evAt; rw [List.getElem?_set_ne (fun h => e h.symm)]
      rw [this]
  | succ d ih =>
    unfold dig
    rw [ih, ih, List.length_set]
theorem commit_set (evs : List ByteArray) (X n : Nat) (O : ByteArray) (h : sm (0 :: O.data.toList) = sm (0 :: (evAt evs X).data.toList)) (hX : X < n) (hn : n ≤ evs.length) : commitM ((evs.set X O).take n) = commitM (evs.take n) ∧ dig ((evs.set X O).take n) (dep n) 0 = dig (evs.take n) (dep n) 0 := by
  have e : (evs.take n).length = n := by rw [List.length_take]; omega
  have hd : ∀ d p, dig ((evs.set X O).take n) d p = dig (evs.take n) d p := fun d p => by
    rw [List.take_set]
    exact dig_set _ _ _ (by rw [evAt_take _ _ _ hX]; exact h) (by omega) d p
  refine ⟨?_, hd _ _⟩
  have el : ((evs.set X O).take n).length = (evs.take n).length := by simp
  unfold commitM
  rw [el, hd]
theorem ins_two {e0 e1 : Ent} (h : e0 ≠ e1) : insE (insE [] e0) e1 = [e0, e1] ∨ insE (insE [] e0) e1 = [e1, e0] := by
  have h0 : insE [] e0 = [e0] := by unfold insE hasE; simp
  rw [h0]
  have hh : hasE [e0] e1 = false := by
    cases hb : hasE [e0] e1 with
    | false => rfl
    | true =>
      exfalso
      unfold hasE at hb
      cases hp : [e0][placeE [e0] e1]? with
      | none => rw [hp] at hb; simp at hb
      | some x =>
        rw [hp] at hb
        have hx : x = e0 := by have := List.mem_of_getElem? hp; simpa using this
        subst hx
        simp at hb
        exact h ((cmpE_zero _ _).1 hb)
  unfold insE
  rw [hh]
  simp only [Bool.false_eq_true, if_false]
  rcases Nat.eq_zero_or_pos (placeE [e0] e1) with h1 | h1
  · right; rw [h1]; simp
  · left
    rw [List.take_of_length_le (by simp; omega), List.drop_of_length_le (by simp; omega)]
    rfl
theorem member_last (evs : List ByteArray) (i n : Nat) (hi : i < n) (hn : n ≤ evs.length) : lastL (memberM (evs.take n) i).tree = evAt evs i := by
  have e : (evs.take n).length = n := by rw [List.length_take]; omega
  have hp : n ≤ pw (dep n) := dep_spec n
  have h := member_lvs (evs.take n) i (by omega) (dep (evs.take n).length) 0 (by omega) (by rw [e]; omega)
  unfold lastL
  show ((lvs (pruneN (evs.take n) (ruleM i) (dep (evs.take n).length) 0)).getLast?).getD _ = _
  rw [h, ← evAt_take evs n i hi]
  rfl
theorem liar_evs (evs : List ByteArray) (X N : Nat) (O : ByteArray) (hX : X < N) (hN : N ≤ evs.length) (hne : O ≠ evAt evs X) :
    ∃ s1 s2, evL ([commitM (evs.take N), memberM (evs.take N) X] ++ [memberM ((evs.set X O).take N) X]) = [((X : Int), s1), ((X : Int), s2)] ∧ s1 ≠ s2 := by
  have h1 : evL [commitM (evs.take N), memberM (evs.take N) X] = insE [] ((X : Int), evAt evs X) := by
    rw [show [commitM (evs.take N), memberM (evs.take N) X] = [commitM (evs.take N)] ++ [memberM (evs.take N) X] from rfl, evL_snoc, if_pos (show (memberM (evs.take N) X).kind = 3 from rfl), member_last evs X N hX hN]
    rfl
  have h2 : evAt (evs.set X O) X = O := by unfold evAt; simp [show X < evs.length by omega]
  rw [evL_snoc, if_pos (show (memberM ((evs.set X O).take N) X).kind = 3 from rfl), member_last _ X N hX (by simpa using hN), h1, h2]
  rcases ins_two (e0 := ((X : Int), evAt evs X)) (e1 := ((X : Int), O)) (fun e => hne (by cases e; rfl)) with h | h
  · exact ⟨_, _, h, fun e => hne e.symm⟩
  · exact ⟨_, _, h, hne⟩
end Go.Proofs.YtlndinigbppafaaGreat

/-
  Honest: the plain mathematics: what an auditor knows that takes a log's own messages.
-/
namespace Go.Proofs.YtlndinigbppafaaGreat
open Go.RowKit

/-- The versions of a log, with its roots. -/
def vsL (evs : List ByteArray) (vs : List Nat) : List (Int × Int) := vs.map fun (m : Nat) => ((m : Int), dig (evs.take m) (dep m) 0)
/-- The events that were told, in their order. -/
def toldL (evs : List ByteArray) (tl : List Bool) : List Ent := ((List.range evs.length).filter (fun i => tl[i]?.getD false)).map (fun (i : Nat) => ((i : Int), evAt evs i))

theorem sort_pair {l : List Ent} : SortE l ↔ l.Pairwise (fun a b => cmpE a b < 0) := by
  rw [List.pairwise_iff_getElem]
  exact Iff.rfl
theorem sort_one {l1 l2 : List Ent} (h1 : l1.Pairwise (fun a b => cmpE a b < 0)) (h2 : l2.Pairwise (fun a b => cmpE a b < 0)) (h : ∀ x, x ∈ l1 ↔ x ∈ l2) : l1 = l2 := by
  have irr : ∀ a : Ent, ¬ cmpE a a < 0 := fun a ha => by have := (cmpE_zero a a).2 rfl; omega
  have asy : ∀ a b : Ent, cmpE a b < 0 → cmpE b a < 0 → False := fun a b hab hba => irr a (cmpE_trans hab hba)
  induction l1 generalizing l2 with
  | nil =>
    cases l2 with
    | nil => rfl
    | cons y l2 => have := (h y).2 (by simp); cases this
  | cons x l1 ih =>
    cases l2 with
    | nil => have := (h x).1 (by simp); cases this
    | cons y l2 =>
      rw [List.pairwise_cons] at h1 h2
      have hxy : x = y := by
        rcases List.mem_cons.1 ((h x).1 (by simp)) with e | e
        · exact e
        · rcases List.mem_cons.1 ((h y).2 (by simp)) with e' | e'
          · exact e'.symm
          · exact (asy x y (h1.1 y e') (h2.1 x e)).elim
      subst hxy
      rw [ih h1.2 h2.2 fun z => ?_]
      constructor
      · intro hz
        rcases List.mem_cons.1 ((h z).1 (by simp [hz])) with e | e
        · subst e; exact (irr z (h1.1 z hz)).elim
        · exact e
      · intro hz
        rcases List.mem_cons.1 ((h z).2 (by simp [hz])) with e | e
        · subst e; exact (irr z (h2.1 z hz)).elim
        · exact e
theorem told_sort (evs : List ByteArray) (tl : List Bool) : (toldL evs tl).Pairwise (fun a b => cmpE a b < 0) := by
  unfold toldL
  rw [List.pairwise_map]
  refine List.Pairwise.imp (R := (· < ·)) ?_ ((List.pairwise_lt_range).filter _)
  intro a b hab
  rw [cmpE_lt]
  left
  show (a : Int) < (b : Int)
  omega
theorem told_mem (evs : List ByteArray) (tl : List Bool) (x : Ent) : x ∈ toldL evs tl ↔ ∃ i, i < evs.length ∧ tl[i]? = some true ∧ x = ((i : Int), evAt evs i) := by
  unfold toldL
  simp only [List.mem_map, List.mem_filter, List.mem_range]
  constructor
  · rintro ⟨i, ⟨h1, h2⟩, rfl⟩
    refine ⟨i, h1, ?_, rfl⟩
    cases h : tl[i]? with
    | none => rw [h] at h2; simp at h2
    | some b => rw [h] at h2; simp at h2; rw [h2]
  · rintro ⟨i, h1, h2, rfl⟩
    exact ⟨i, ⟨h1, by rw [h2]; rfl⟩, rfl⟩
theorem told_ins (evs : List ByteArray) (tl : List Bool) (m : Nat) (hm : m < evs.length) (hl : tl.length = evs.length) : insE (toldL evs tl) ((m : Int), evAt evs m) = toldL evs (tl.set m true) := by
  have hs := sort_pair.2 (told_sort evs tl)
  refine sort_one (sort_pair.1 (ins_sort hs _)) (told_sort _ _) fun x => ?_
  rw [ins_mem hs, told_mem, told_mem]
  constructor
  · rintro (⟨i, h1, h2, rfl⟩ | rfl)
    · refine ⟨i, h1, ?_, rfl⟩
      rw [List.getElem?_set]
      split
      · simp; omega
      · exact h2
    · exact ⟨m, hm, by rw [List.getElem?_set, if_pos rfl, if_pos (by omega)], rfl⟩
  · rintro ⟨i, h1, h2, rfl⟩
    rw [List.getElem?_set] at h2
    split at h2
    · rename_i e; subst e; exact .inr rfl
    · exact .inl ⟨i, h1, h2, rfl⟩
theorem told_none (evs : List ByteArray) (k : Nat) : toldL evs (List.replicate k false) = [] := by
  apply List.eq_nil_iff_forall_not_mem.2
  intro x hx
  obtain ⟨i, _, h, _⟩ := (told_mem _ _ _).1 hx
  rw [List.getElem?_replicate] at h
  split at h <;> simp at h

/-- How many of the first k were told. -/
def cntT (tl : List Bool) (k : Nat) : Nat := ((List.range k).filter (fun i => tl[i]?.getD false)).length
theorem cntT_yes {tl : List Bool} {k : Nat} (h : tl[k]? = some true) : cntT tl (k + 1) = cntT tl k + 1 := by
  unfold cntT
  rw [List.range_succ, List.filter_append, List.length_append]
  simp [h]
theorem cntT_no {tl : List Bool} {k : Nat} (h : tl[k]? = some false) : cntT tl (k + 1) = cntT tl k := by
  unfold cntT
  rw [List.range_succ, List.filter_append, List.length_append]
  simp [h]
theorem cntT_len (evs : List ByteArray) (tl : List Bool) : (toldL evs tl).length = cntT tl evs.length := by unfold toldL cntT; simp
theorem told_at (evs : List ByteArray) (tl : List Bool) (k : Nat) (hk : k < evs.length) (h : tl[k]? = some true) : (toldL evs tl)[cntT tl k]? = some ((k : Int), evAt evs k) := by
  unfold toldL cntT
  obtain ⟨r, hr⟩ : ∃ r, evs.length = k + (r + 1) := ⟨evs.length - k - 1, by omega⟩
  rw [hr, List.range_add, List.filter_append, List.map_append, List.getElem?_append_right (by simp)]
  rw [List.length_map, Nat.sub_self, List.range_succ_eq_map, List.map_cons, List.filter_cons]
  simp [h]

/-- What is known so far. -/
structure HonI (evs : List ByteArray) (ts : List Msg) (vs : List Nat) (tl : List Bool) (N c : Nat) : Prop where
  vers : versL ts = vsL evs vs
  last : vs.getLast? = some N
  bd : ∀ m ∈ vs, 1 ≤ m ∧ m ≤ evs.length
  few : ts.length ≤ c
  evE : evL ts = toldL evs tl
  tlen : tl.length = evs.length
  vlen : vs.length ≤ c
theorem HonI.start (evs : List ByteArray) (N : Nat) (h1 : 1 ≤ N) (h2 : N ≤ evs.length) : HonI evs [commitM (evs.take N)] [N] (List.replicate evs.length false) N 1 := by
  refine ⟨versL_commit evs N h2, rfl, by simp; omega, by simp, ?_, by simp, by simp⟩
  rw [told_none]
  rfl
theorem HonI.n {evs : List ByteArray} {ts : List Msg} {vs : List Nat} {tl : List Bool} {N c : Nat} (h : HonI evs ts vs tl N c) : 1 ≤ N ∧ N ≤ evs.length := h.bd N (List.mem_of_getLast? h.last)
theorem HonI.lastV {evs : List ByteArray} {ts : List Msg} {vs : List Nat} {tl : List Bool} {N c : Nat} (h : HonI evs ts vs tl N c) : (versL ts).getLast? = some ((N : Int), dig (evs.take N) (dep N) 0) := by
  rw [h.vers]
  unfold vsL
  rw [List.getLast?_map, h.last]
  rfl
theorem HonI.grow {evs : List ByteArray} {ts : List Msg} {vs : List Nat} {tl : List Bool} {N c M : Nat} (h : HonI evs ts vs tl N c) (h1 : N ≤ M) (h2 : M ≤ evs.length) : HonI evs (ts ++ [growthM (evs.take M) N]) (if N < M then vs ++ [M] else vs) tl M (c + 1) := by
  obtain ⟨g1, g2, g3, g4⟩ := growth_mn evs N M h2
  have hN := h.n
  have hev : evL (ts ++ [growthM (evs.take M) N]) = toldL evs tl := by
    rw [evL_snoc, if_neg (by rw [g4]; decide)]
    exact h.evE
  have hfew : (ts ++ [growthM (evs.take M) N]).length ≤ c + 1 := by have := h.few; simp; omega
  by_cases hlt : N < M
  · rw [if_pos hlt]
    refine ⟨?_, by simp, ?_, hfew, hev, h.tlen, by have := h.vlen; simp; omega⟩
    · rw [versL_snoc, if_pos (.inr ⟨g4, by rw [g1, g2]; omega⟩), h.vers, g2, g3]
      unfold vsL
      rw [List.map_append]
      rfl
    · intro m hm
      rcases List.mem_append.1 hm with hm | hm
      · exact h.bd m hm
      · simp at hm; subst hm; omega
  · rw [if_neg hlt]
    have hMN : M = N := by omega
    refine ⟨?_, by rw [hMN]; exact h.last, h.bd, hfew, hev, h.tlen, by have := h.vlen; omega⟩
    rw [versL_snoc, if_neg (by rw [g4, g1, g2]; omega), List.append_nil]
    exact h.vers
theorem rootOf_vs (evs : List ByteArray) (vs : List Nat) (v : Nat) (h : v ∈ vs) : rootOf (vsL evs vs) v = some (dig (evs.take v) (dep v) 0) := by
  unfold rootOf vsL
  induction vs with
  | nil => cases h
  | cons m vs ih =>
    rw [List.map_cons]
    by_cases e : m = v
    · subst e; simp
    · have hf : (((m : Int), dig (evs.take m) (dep m) 0).1 == (v : Int)) = false := by simp; omega
      rw [List.find?_cons_of_neg (by simpa using hf)]
      exact ih ((List.mem_cons.1 h).resolve_left (fun h => e h.symm))
theorem HonI.member {evs : List ByteArray} {ts : List Msg} {vs : List Nat} {tl : List Bool} {N c m v : Nat} (h : HonI evs ts vs tl N c) (hv : v ∈ vs) (hm : m < v) : HonI evs (ts ++ [memberM (evs.take v) m]) vs (tl.set m true) N (c + 1) := by
  have hvb := h.bd v hv
  refine ⟨?_, h.last, h.bd, by have := h.few; simp; omega, ?_, by simp [h.tlen], by have := h.vlen; omega⟩
  · rw [versL_snoc, if_neg (by simp [memberM]), List.append_nil]
    exact h.vers
  · rw [evL_snoc, if_pos (show (memberM (evs.take v) m).kind = 3 from rfl), member_last evs m v hm hvb.2, h.evE]
    exact told_ins evs tl m (by omega) h.tlen
end Go.Proofs.YtlndinigbppafaaGreat

/-
  The walk of the statements' seen.
-/
namespace Go.Proofs.YtlndinigbppafaaGreat
open Go.RowKit Go.Deep

/-- The slice v holds these truths. -/
def BoolsAt (w : World) (v : Value) (tl : List Bool) : Prop :=
  ∃ b cap cur, v = .slice (some ⟨b, 0, none⟩) tl.length cap ∧ w.heap[b]? = some (.cells cur 4 (0, 0)) ∧ ∀ j (h : j < tl.length), cur[j]? = some (.bool tl[j])
theorem BoolsAt.keep {w w' : World} {v : Value} {tl : List Bool} (h : BoolsAt w v tl) (hb : KeepsT 4 w w') : BoolsAt w' v tl := by
  obtain ⟨b, cap, cur, rfl, h1, h2⟩ := h
  exact ⟨b, cap, cur, rfl, hb _ _ _ h1, h2⟩
theorem BoolsAt.below {w w' : World} {v : Value} {tl : List Bool} (h : BoolsAt w v tl) (hb : Below w.heap.size w w') : BoolsAt w' v tl := h.keep (KeepsT.of_below hb (Nat.le_refl _))
theorem BoolsAt.cell {w : World} {b n cap : Nat} {tl : List Bool} (h : BoolsAt w (.slice (some ⟨b, 0, none⟩) n cap) tl) (j : Nat) (hj : j < tl.length) : w.cell? ⟨b, j, none⟩ = some (.bool tl[j]) ∧ w.frozen? ⟨b, j, none⟩ = false := by
  obtain ⟨b', cap', cur, e, h1, h2⟩ := h
  simp only [Value.slice.injEq, Option.some.injEq, Addr.mk.injEq] at e
  obtain ⟨⟨rfl, _, _⟩, _, rfl⟩ := e
  refine ⟨by rw [cell_of_row _ _ _ _ _ _ h1]; exact h2 j hj, ?_⟩
  unfold World.frozen?
  rw [h1]
  simp
theorem IntsAt.below {w w' : World} {v : Value} {ks : List Int} (h : IntsAt w v ks) (hb : Below w.heap.size w w') : IntsAt w' v ks := h.keep (KeepsT.of_below hb (Nat.le_refl _))
/-- The numbers of versions. -/
def natI (vs : List Nat) : List Int := vs.map (fun (m : Nat) => (m : Int))
theorem natI_len (vs : List Nat) : (natI vs).length = vs.length := by unfold natI; simp
theorem vsL_len (evs : List ByteArray) (vs : List Nat) : (vsL evs vs).length = vs.length := by unfold vsL; simp
/-- A row of versions, number by number. -/
def NatsAt (w : World) (v : Value) (vs : List Nat) : Prop :=
  ∃ b cap, v = .slice (some ⟨b, 0, none⟩) vs.length cap ∧ vs.length ≤ cap ∧ cap ≤ maxLen ∧ b < w.heap.size ∧ ∀ j (h : j < vs.length), w.cell? ⟨b, j, none⟩ = some (.int .i64 (vs[j] : Nat))

set_option maxRecDepth 100000 in
set_option maxHeartbeats 2000000 in
theorem seen_any (w : World) (b0 A b1 B : Nat) (S Vv o Tv : Value) (evs : List ByteArray) (ts : List Msg) (vs : List Nat) (tl : List Bool) (N c : Nat) (hA : AudAt w b0 A ts) (hL : LogAt w b1 B S evs) (hV : NatsAt w Vv vs) (hO : StringsAt w o evs) (hT : BoolsAt w Tv tl) (hI : HonI evs ts vs tl N c) (hc : c ≤ 300) (hK1 : 1 ≤ evs.length) (hK2 : evs.length ≤ 60) (hle : ∀ s ∈ evs, s.size ≤ 50) :
    Calls Tryz.prog 27 #[.pointer (some ⟨A, 0, none⟩), .pointer (some ⟨B, 0, none⟩), Vv, o, Tv] w fun e w' => e = .returned (.bool true) ∧ Below w.heap.size w w' := by
  have HI : Hid (HonI evs ts vs tl N c) := hI
  have HLE : Hid (∀ s ∈ evs, s.size ≤ 50) := hle
  have hvl := hI.vlen
  have htl := hI.tlen
  have hvp : 1 ≤ vs.length := by
    have := List.length_pos_of_mem (List.mem_of_getLast? hI.last)
    omega
  obtain ⟨vb, vc, rfl, hvc1, hvc2, hvb, hvcell⟩ := hV
  obtain ⟨oa, oc, rfl, hocell⟩ := hO
  obtain ⟨ob, oo, rfl, hob, hocell⟩ := hocell (by omega)
  have HT : Hid (BoolsAt w Tv tl) := hT
  obtain ⟨tb, tc, tcur, rfl, htb, -⟩ := id hT
  have htb := lt_of_heap htb
  have HTL : Hid (tl.length = evs.length) := htl
  rw [htl] at HT ⊢
  clear hI hle htl hT
  go_enter Tryz.func27, Tryz.ntmps27
  go_wp2_with fail
  refine (versions_any w _ _ _ hA).mono ?_
  rintro e w1 ⟨V, rfl, hV, hb1⟩
  rw [HI.out.vers] at hV
  obtain ⟨va, vac, rfl, hc1⟩ := hV
  obtain ⟨vb2, vo2, rfl, hlt2, hc1⟩ := hc1 (by rw [vsL_len]; omega)
  have hcv : ∀ j (h : j < vs.length), w1.cell? ⟨vb2, vo2 + j * 2, none⟩ = some (.int .i64 (vs[j] : Nat)) ∧ w1.cell? ⟨vb2, vo2 + j * 2 + 1, none⟩ = some (.int .i64 (dig (evs.take vs[j]) (dep vs[j]) 0)) := fun j h => by
    have := hc1 j (by rw [vsL_len]; exact h)
    simpa [vsL] using this
  have HCV : Hid _ := hcv
  have HVC : Hid _ := hvcell
  have HOC : Hid _ := hocell
  rw [vsL_len]
  have hA1 := hA.below hb1
  have HL1 : Hid (LogAt w1 b1 B S evs) := hL.below hb1
  have HA : Hid (AudAt w1 b0 A ts) := hA1
  have HB1 : Hid (Below w.heap.size w w1) := hb1
  have hs1 := hb1.size
  clear hc1 hcv hvcell hocell hA hA1 hL hb1
  go_wp2
  go_loopw [12] (fun i wr => ∃ k : Nat, k ≤ vs.length ∧ i = .int .i64 k ∧ Below w1.heap.size w1 wr) (fun i _ => vs.length - (intOf i).toNat)
  case atStart => exact ⟨0, Nat.zero_le _, rfl, Below.refl _ _⟩
  case round =>
    obtain ⟨k, hk, rfl, hbr⟩ := hrel
    have hbrs := hbr.size
    by_cases hlt : k < vs.length
    · have hltI : (k : Int) < (vs.length : Int) := by omega
      have cv := (hbr.cell (p := ⟨vb, k, none⟩) (by show vb < _; omega)).trans ((HB1.out.cell (p := ⟨vb, k, none⟩) hvb).trans (HVC.out k hlt))
      obtain ⟨c0, c1⟩ := HCV.out k hlt
      have c0 := cell_keep c0 hbr
      have c1 := cell_keep c1 hbr
      have hbd := HI.out.bd vs[k] (List.getElem_mem hlt)
      generalize vs[k] = M at *
      go_wp2_with fail
      refine (rootC wr b1 B S evs M (HL1.out.below hbr) hbd.1 hbd.2 hK2 HLE.out).mono ?_
      rintro e w2 ⟨rfl, hb2⟩
      have c0 := cell_keep c0 hb2
      have c1 := cell_keep c1 hb2
      have cv := cell_keep cv hb2
      have hbr2 := below_step hbr hb2
      generalize dig (evs.take M) (dep M) 0 = R at *
      clear hb2 hbr
      go_wp2
      go_quiet (fail)
      go_wp2
      go_roundw
      case rel => exact ⟨k + 1, by omega, by go_num, below_drewN hbr2 nq⟩
      case measure => simp [intOf]; omega
    · have hkk : k = vs.length := by omega
      subst hkk
      go_wp2_with fail
      refine (events_any wr _ _ _ (HA.out.below hbr)).mono ?_
      rintro e w2 ⟨V, rfl, hV, hb2⟩
      have hbr2 := below_step hbr hb2
      rw [HI.out.evE] at hV
      obtain ⟨ea, ec, rfl, hec⟩ := hV
      have hel : (toldL evs tl).length ≤ evs.length := by
        rw [cntT_len]; unfold cntT
        exact Nat.le_trans (List.length_filter_le _ _) (by simp)
      have HEC : Hid _ := hec
      have HCL : Hid ((toldL evs tl).length = cntT tl evs.length) := cntT_len evs tl
      have hbw2 := HB1.out.trans (hbr2.mono hs1)
      clear hec hb2 hbr hbr2
      go_wp2
      go_loopw [16, 17] (fun a i wr => ∃ k : Nat, k ≤ evs.length ∧ i = .int .i64 k ∧ a = .int .i64 (cntT tl k : Nat) ∧ Below w2.heap.size w2 wr) (fun _ i _ => evs.length - (intOf i).toNat)
      case atStart => exact ⟨0, Nat.zero_le _, rfl, rfl, Below.refl _ _⟩
      case round =>
        obtain ⟨k, hk, rfl, rfl, hbr⟩ := hrel
        have hbw := hbw2.trans (hbr.mono hbw2.size)
        by_cases hlt : k < evs.length
        · have hltI : (k : Int) < (evs.length : Int) := by omega
          have ct := (hbw.cell (p := ⟨tb, k, none⟩) htb).trans (HT.out.cell k (by rw [HTL.out]; exact hlt)).1
          have ca := (hbw.cell (p := ⟨ob, oo + k, none⟩) hob).trans (HOC.out k hlt)
          cases hb : tl[k]'(by rw [HTL.out]; exact hlt) with
          | false =>
            have HS : Hid (cntT tl (k + 1) = cntT tl k) := cntT_no (by rw [List.getElem?_eq_getElem (by rw [HTL.out]; exact hlt), hb])
            rw [hb] at ct
            go_wp2
            go_roundw
            case rel => exact ⟨k + 1, by omega, by go_num, by rw [HS.out], hbr⟩
            case measure => simp [intOf]; omega
          | true =>
            have hb2 : tl[k]? = some true := by rw [List.getElem?_eq_getElem (by rw [HTL.out]; exact hlt), hb]
            have HS : Hid (cntT tl (k + 1) = cntT tl k + 1) := cntT_yes hb2
            have hat := told_at evs tl k hlt hb2
            obtain ⟨hcl, hat⟩ := List.getElem?_eq_some_iff.1 hat
            obtain ⟨eb, eo, rfl, heb, hec⟩ := HEC.out (by omega)
            obtain ⟨e0, e1⟩ := hec _ hcl
            rw [hat] at e0 e1
            have hev : evAt evs k = evs[k] := by unfold evAt; simp [hlt]
            simp only [hev] at e0 e1
            have e0 := cell_keep e0 hbr
            have e1 := cell_keep e1 hbr
            rw [hb] at ct
            have hclI : ((cntT tl k : Nat) : Int) < ((toldL evs tl).length : Int) := by omega
            clear hec hat hb2 hev
            generalize evs[k] = s at *
            go_wp2
            go_quiet (fail)
            go_wp2
            go_roundw
            case rel => exact ⟨k + 1, by omega, by go_num, by rw [HS.out]; go_num, below_drewN hbr nq⟩
            case measure => simp [intOf]; omega
        · have hkk : k = evs.length := by omega
          subst hkk
          rw [HCL.out]
          go_wp2
          go_ret
          exact ⟨rfl, hbw⟩
end Go.Proofs.YtlndinigbppafaaGreat

/-
  Honest: what lies in memory between two messages.
-/
namespace Go.Proofs.YtlndinigbppafaaGreat
open Go.RowKit Go.Deep

/-- An argument that is a list of numbers. -/
def NumsIn (w : World) (v : Value) (l : List Int) : Prop :=
  ∃ ao cap, v = .slice ao l.length cap ∧ (0 < l.length → ∃ b o, ao = some ⟨b, o, none⟩ ∧ b < w.heap.size ∧ ∀ j (h : j < l.length), w.cell? ⟨b, o + j, none⟩ = some (.int .i64 l[j])) ∧ ∀ x ∈ l, -9223372036854775808 ≤ x ∧ x ≤ 9223372036854775807

theorem Tryz.infoBool : (Tryz.prog.info? 4).map (fun i => (i.zero, i.size, i.bytes)) = some (some (.bool false), 1, 1) := by kernel_rfl
theorem bools_made (u : World) (b n : Nat) (hb : b = u.heap.size) : BoolsAt (u.alloc (.cells (madeCells #[.bool false] n) 4)) (.slice (some ⟨b, 0, none⟩) n n) (List.replicate n false) := by
  subst hb
  refine ⟨_, n, _, by rw [List.length_replicate], heap_alloc_new u _, fun j hj => ?_⟩
  rw [List.length_replicate] at hj
  rw [← Array.getElem?_toList, toList_madeCells_one]
  simp [hj]
theorem natI_append (a b : List Nat) : natI (a ++ b) = natI a ++ natI b := by unfold natI; rw [List.map_append]
theorem nats_owns {w : World} {base : Nat} {v : Value} {vs : List Nat} (h : w.ownsRow base 3 1 v vs.length (cellsI (natI vs))) (hp : 1 ≤ vs.length) : NatsAt w v vs := by
  rcases h.2 with ⟨rfl, h0⟩ | ⟨g, cap, cur, rfl, h1, h2, h3, h4, h5, h6⟩
  · omega
  · refine ⟨g, cap, rfl, h3, h4, lt_of_heap h2, fun j hj => ?_⟩
    have hx : (cellsI (natI vs))[j]? = some (.int .i64 (vs[j] : Nat)) := by unfold cellsI natI; simp [hj]
    rw [cell_of_row _ _ _ _ _ _ h2]
    rw [← h6, List.getElem?_take] at hx
    split at hx
    · simpa using hx
    · cases hx

structure MemW (w2 wr : World) (A b2 T : Nat) (Vv : Value) (n : Nat) (ts : List Msg) (vs : List Nat) (tl : List Bool) : Prop where
  aud : AudAt wr A A ts
  vers : wr.ownsRow b2 3 1 Vv vs.length (cellsI (natI vs))
  told : BoolsAt wr (.slice (some ⟨T, 0, none⟩) n n) tl
  below : Below A w2 wr
  lo : A ≤ b2 ∧ A ≤ T ∧ b2 ≤ wr.heap.size

theorem MemW.keep {w2 wr wr' : World} {A b2 T n : Nat} {Vv : Value} {ts : List Msg} {vs : List Nat} {tl : List Bool} (h : MemW w2 wr A b2 T Vv n ts vs tl) (hb : Below wr.heap.size wr wr') : MemW w2 wr' A b2 T Vv n ts vs tl :=
  ⟨h.aud.below hb, owns_below h.vers hb, h.told.below hb, h.below.trans (hb.mono (by have := h.aud.lt; omega)), ⟨h.lo.1, h.lo.2.1, Nat.le_trans h.lo.2.2 hb.size⟩⟩
theorem owns_keepT {w w' : World} {t : TypeId} {base size n : Nat} {v : Value} {xs : List Value} (h : w.ownsRow base t size v n xs) (hk : KeepsT t w w') : w'.ownsRow base t size v n xs := by
  refine ⟨h.1, ?_⟩
  rcases h.2 with h | ⟨g, cap, cur, rfl, q1, q2, q3⟩
  · exact .inl h
  · exact .inr ⟨g, cap, cur, rfl, q1, hk _ _ _ q2, q3⟩
/-- Behind a Take. -/
theorem MemW.took {w2 wr wr' : World} {A b2 T n : Nat} {Vv : Value} {ts ts' : List Msg} {vs : List Nat} {tl : List Bool} (h : MemW w2 wr A b2 T Vv n ts vs tl) (hK : KeepsA A wr wr') (hA : AudAt wr' A A ts') : MemW w2 wr' A b2 T Vv n ts' vs tl :=
  ⟨hA, owns_keepT h.vers (KeepsA.keepsT hK (by decide) (by decide) (by decide) (by decide) (by decide)), h.told.keep (KeepsA.keepsT hK (by decide) (by decide) (by decide) (by decide) (by decide)), h.below.trans (KeepsA.below hK (by have := h.aud.lt; omega)), ⟨h.lo.1, h.lo.2.1, Nat.le_trans h.lo.2.2 hK.size⟩⟩
/-- Only blocks of one type were changed, which is none of an auditor's. -/
theorem AudAt.onlyT {S : Nat → Prop} {w w' : World} {A : Nat} {ts : List Msg} (h : AudAt w A A ts) (ho : Only S w w') (t : TypeId) (hS : ∀ k, S k → ∃ cur fr, w.heap[k]? = some (.cells cur t fr)) (h1 : t ≠ 47) (h2 : t ≠ 89) (h3 : t ≠ 82) (h4 : t ≠ 167) (h5 : t ≠ 9) : AudAt w' A A ts := by
  have key : ∀ t', t ≠ t' → KeepsT t' w w' := fun t' ht => Only.keepsT ho fun k cur fr e hk => by
    obtain ⟨cur', fr', e'⟩ := hS k hk
    rw [e] at e'
    simp only [Option.some.injEq, Obj.cells.injEq] at e'
    exact ht e'.2.1.symm
  exact h.keep (key _ h1) (key _ h2) (key _ h3) (key _ h4) (key _ h5)
/-- Behind the append of a version's number. -/
theorem MemW.app {w2 wr w' : World} {A b2 T M g cp n : Nat} {Vv : Value} {ts : List Msg} {vs vs' : List Nat} {tl : List Bool} {X : Obj} (h : MemW w2 wr A b2 T Vv n ts vs tl) (hv : vs' = vs ++ [M])
    (hown : w'.ownsRow b2 3 1 (.slice (some ⟨g, 0, none⟩) (vs.length + 1) cp) (vs.length + 1) (cellsI (natI vs) ++ [.int .i64 (M : Int)])) (hgrow : (wr.alloc X).grownBy w' Vv.ownBlock) : MemW w2 w' A b2 T (.slice (some ⟨g, 0, none⟩) (vs.length + 1) cp) n ts vs' tl := by
  have hb : Below wr.heap.size wr (wr.alloc X) := (Below.refl _ _).alloc (Nat.le_refl _) _
  have h1 := h.keep hb
  have ho := Only.of_grown hgrow
  have hS : ∀ k, some k = Vv.ownBlock → ∃ cur fr, (wr.alloc X).heap[k]? = some (.cells cur 3 fr) := fun k hk => by
    obtain ⟨_, _, cur, hc⟩ := owns_lt h1.vers hk.symm
    exact ⟨cur, _, hc⟩
  subst hv
  refine ⟨h1.aud.onlyT ho 3 hS (by decide) (by decide) (by decide) (by decide) (by decide), ?_, ?_, ?_, ⟨h.lo.1, h.lo.2.1, Nat.le_trans h1.lo.2.2 hgrow.size⟩⟩
  · rw [natI_append, cellsI_append, List.length_append]
    exact hown
  · refine h1.told.keep (Only.keepsT ho fun k cur fr e hk => ?_)
    obtain ⟨cur', fr', e'⟩ := hS k hk
    rw [e] at e'
    simp only [Option.some.injEq, Obj.cells.injEq] at e'
    exact absurd e'.2.1 (by decide)
  · refine h1.below.trans (Only.below ho (by have := h1.aud.lt; omega) fun k hk hs => ?_)
    have := (h1.vers.lt k hs.symm).1
    have := h.lo.1
    omega
/-- Behind the mark of an event. -/
theorem MemW.mark {w2 wr : World} {A b2 T m n : Nat} {Vv : Value} {ts : List Msg} {vs : List Nat} {tl : List Bool} (h : MemW w2 wr A b2 T Vv n ts vs tl) : MemW w2 (wr.setCell ⟨T, m, none⟩ (.bool true)) A b2 T Vv n ts vs (tl.set m true) := by
  obtain ⟨hA, hO, hT, hb, hlo⟩ := h
  obtain ⟨b', cap', cur, e, hh, hc⟩ := hT
  simp only [Value.slice.injEq, Option.some.injEq, Addr.mk.injEq] at e
  obtain ⟨⟨rfl, _, _⟩, el, ec⟩ := e
  have ho := Only.of_set wr T m (.bool true)
  have hS : ∀ k, k = T → ∃ cur fr, wr.heap[k]? = some (.cells cur 4 fr) := fun k hk => by subst hk; exact ⟨_, _, hh⟩
  refine ⟨hA.onlyT ho 4 hS (by decide) (by decide) (by decide) (by decide) (by decide), ?_, ?_, hb.setCell hlo.2.1 _, ⟨hlo.1, hlo.2.1, by simpa [World.setCell] using hlo.2.2⟩⟩
  · refine owns_only hO ho fun b hb e => ?_
    obtain ⟨_, _, cur', hc'⟩ := owns_lt hO hb
    rw [e, hh] at hc'
    simp at hc'
  · refine ⟨T, n, cur.setIfInBounds m (.bool true), by rw [List.length_set, el], set_heap m _ hh, fun j hj => ?_⟩
    rw [List.length_set] at hj
    have := hc j hj
    rw [Array.getElem?_setIfInBounds]
    by_cases e : m = j
    · subst e
      rw [if_pos rfl, if_pos (Array.getElem?_eq_some_iff.1 this).1]
      simp
    · rw [if_neg e, this]
      simp [e]
/-- Ahead of the first message. -/
theorem MemW.start {w2 w5 : World} {A n N : Nat} {ts : List Msg} (hA : AudAt w5 A A ts) (hb : Below A w2 w5) : MemW w2 ((w5.alloc (.cells #[.int .i64 (N : Int)] 3)).alloc (.cells (madeCells #[.bool false] n) 4)) A w5.heap.size (w5.heap.size + 1) (.slice (some ⟨w5.heap.size, 0, none⟩) 1 1) n ts [N] (List.replicate n false) := by
  have h1 : Below w5.heap.size w5 (w5.alloc (.cells #[.int .i64 (N : Int)] 3)) := (Below.refl _ _).alloc (Nat.le_refl _) _
  have h2 : Below (w5.alloc (.cells #[.int .i64 (N : Int)] 3)).heap.size (w5.alloc (.cells #[.int .i64 (N : Int)] 3)) ((w5.alloc (.cells #[.int .i64 (N : Int)] 3)).alloc (.cells (madeCells #[.bool false] n) 4)) := (Below.refl _ _).alloc (Nat.le_refl _) _
  have h3 := below_step h1 h2
  have hl := hA.lt
  refine ⟨hA.below h3, owns_below ⟨rfl, .inr ⟨w5.heap.size, 1, _, rfl, Nat.le_refl _, heap_alloc_new w5 _, by simp, by unfold maxLen; omega, rfl, rfl⟩⟩ h2, bools_made _ _ _ (by simp), hb.trans (h3.mono (by omega)), ⟨by omega, by omega, h3.size⟩⟩
end Go.Proofs.YtlndinigbppafaaGreat
