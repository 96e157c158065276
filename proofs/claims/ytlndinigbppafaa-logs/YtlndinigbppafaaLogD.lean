/-
  The walks of strings.Clone, and of the program's NewLog.
-/
import Derived.Test.YtlndinigbppafaaLogB
import Derived.Lib.BufferWrite
import Derived.Lib.UnsafeStr
import Derived.Laws.MakeOwn
import Derived.Deep.RegionLaw
import Derived.Deep.AppendLies
namespace Go.Proofs.Ytlndinigbppafaa
open Go.RowKit

theorem Try.ptrByte : Try.prog.cellsOf 5 = 1 := by kernel_rfl

set_option maxRecDepth 100000 in
set_option maxHeartbeats 1000000 in
theorem cloneLite_any (s : ByteArray) (w : World) (hs : s.size ≤ 1000000) :
    Calls Try.prog 72 #[.string s] w fun e w' => e = .returned (.string s) ∧ Below w.heap.size w w' := by
  by_cases h0 : s.size = 0
  · obtain rfl : s = ⟨#[]⟩ := by
      apply ByteArray.ext
      exact Array.eq_empty_of_size_eq_zero h0
    go_enter Try.func72, Try.ntmps72
    go_wp2
    go_ret
    exact ⟨rfl, Below.refl _ _⟩
  · obtain ⟨i0, hi, hz0, hz1, hz2⟩ := info_parts Try.infoByte
    have hinfo : (Try.prog.info? 5).map (·.size) = some 1 := by rw [hi]; simp [hz1]
    -- the new row, and what the copy makes of it
    obtain ⟨Z, hZ⟩ : ∃ Z, Z = madeCells (Value.int .u8 0).cells (((s.size : Nat) : Int).toNat * i0.size) := ⟨_, rfl⟩
    have hZs : Z.size = s.size := by rw [hZ, size_madeCells, hz1]; simp
    have hmk : ∀ u : World, (Instr.makeSlice 24 (.int .i64 (s.size : Int)) (.int .i64 (s.size : Int))).run Try.prog u = .ok (.slice (some ⟨u.heap.size, 0, none⟩) s.size s.size) (u.alloc (.cells Z 5)) := fun u => by
      have h := run_make (P := Try.prog) u 24 5 i0 (.int .u8 0) Try.underlying24 hi hz0 .i64 .i64 (s.size : Int) (s.size : Int) (by omega) (by omega) (by rw [hz2]; omega) (by omega)
      rw [← hZ] at h
      simpa using h
    clear hZ
    have hcp := Lib.run_copy_row_string (P := Try.prog) (w.alloc (.cells Z 5)) 24 9 3 5 w.heap.size 0 s.size s.size s Z 5 Try.underlying24 hinfo (heap_alloc_new w _) (Nat.le_refl _) (by omega)
    obtain ⟨Y, hY⟩ : ∃ Y, Y = (Z.toList.take 0 ++ Lib.byteCells s.data.toList ++ Z.toList.drop (0 + s.size)).toArray := ⟨_, rfl⟩
    rw [← hY] at hcp
    have hYl : Y.toList = Lib.byteCells s.data.toList := by
      rw [hY, List.toList_toArray, List.take_zero, List.nil_append, List.drop_of_length_le (by rw [Array.length_toList]; omega), List.append_nil]
    have hYs : Y.size = s.size := by rw [← Array.length_toList, hYl, Lib.byteCells_length, ← Lib.size_eq]
    have hgY : ((w.alloc (.cells Z 5)).setRow w.heap.size Y).heap[w.heap.size]? = some (.cells Y 5 (0, 0)) := setRow_heap _ _ Z _ 5 (0, 0) (heap_alloc_new w _)
    have hne : s.data.toList ≠ [] := fun e => h0 (by rw [Lib.size_eq, e]; rfl)
    have hUS := Lib.run_unsafeString_row (P := Try.prog) ((w.alloc (.cells Z 5)).setRow w.heap.size Y) 134 3 9 5 Try.underlying134 Try.ptrByte w.heap.size Y.size (by unfold World.shape?; rw [hgY]) s.data.toList hne (by rw [← Lib.size_eq]; omega) (by rw [← Lib.size_eq]; omega)
      (fun j x hx => Lib.cells_of_row hgY Y.size j _ (by rw [List.take_of_length_le (by rw [Array.length_toList]; exact Nat.le_refl _), hYl]; simp [Lib.byteCells, hx]))
    rw [← Lib.size_eq] at hUS
    clear hY
    go_enter Try.func72, Try.ntmps72
    go_wp2
    go_ret
    have hb1 : Below w.heap.size w (w.alloc (.cells Z 5)) := (Below.refl _ w).alloc (Nat.le_refl _) _
    have hb2 : Below w.heap.size (w.alloc (.cells Z 5)) ((w.alloc (.cells Z 5)).setRow w.heap.size Y) := ⟨rfl, rfl, rfl, by simp, fun k hk => setRow_other _ _ _ _ (by omega)⟩
    exact ⟨rfl, Lib.below_freeze (hb1.trans hb2) (p := ⟨w.heap.size, 0, none⟩) (Nat.le_refl _) _⟩

set_option maxRecDepth 100000 in
set_option maxHeartbeats 400000 in
theorem clone_any (s : ByteArray) (w : World) (hs : s.size ≤ 1000000) :
    Calls Try.prog 55 #[.string s] w fun e w' => e = .returned (.string s) ∧ Below w.heap.size w w' := by
  go_enter Try.func55, Try.ntmps55
  go_wp2_with (go_at_call 72; refine (cloneLite_any _ _ hs).mono ?_; rintro e w' ⟨rfl, hb⟩)
  go_ret
  exact ⟨rfl, hb⟩

set_option maxRecDepth 100000 in
set_option maxHeartbeats 400000 in
theorem newLog_any (w : World) :
    Calls Try.prog 30 #[] w fun e w' => e = .returned (.pointer (some ⟨w.heap.size, 0, none⟩)) ∧ LogAt w' w.heap.size w.heap.size (.slice none 0 0) [] ∧ Below w.heap.size w w' ∧ w'.heap.size = w.heap.size + 1 := by
  go_enter Try.func30, Try.ntmps30
  go_wp2
  go_ret
  refine ⟨rfl, ⟨Nat.le_refl _, ?_, World.ownsRow_nil _ _ _ _⟩, (Below.refl _ _).alloc (Nat.le_refl _) _, by simp⟩
  exact heap_alloc_new w _
end Go.Proofs.Ytlndinigbppafaa

/-
  The walk of the program's Append.
-/
namespace Go.Proofs.Ytlndinigbppafaa
open Go.RowKit

theorem Try.infoStr : (Try.prog.info? 9).map (fun i => (i.zero, i.size, i.bytes)) = some (some (.string ByteArray.empty), 1, 16) := by kernel_rfl

theorem LogAt.drew {w : World} {b0 B : Nat} {S : Value} {evs : List ByteArray} (h : LogAt w b0 B S evs) : LogAt w.drew b0 B S evs := h.below ((Below.refl _ _).drew)
theorem log_row_ne {w : World} {b0 B : Nat} {S : Value} {evs : List ByteArray} (h : LogAt w b0 B S evs) : some B ≠ S.ownBlock := by
  intro e
  rcases h.2.2.2 with ⟨rfl, _⟩ | ⟨g, cap, cur, rfl, _, hgg, _⟩
  · simp [Value.ownBlock] at e
  · simp [Value.ownBlock] at e
    subst e
    have := h.2.1
    rw [hgg] at this
    simp at this

theorem strs8_append (evs : List ByteArray) (s : ByteArray) : strs8 (evs ++ [s]) = strs8 evs ++ [.string s] := by unfold strs8; rw [List.map_append]; rfl

/-- What is left behind an append. -/
theorem log_appended {w0 w1 w2 : World} {b0 B g cap2 : Nat} {S : Value} {evs : List ByteArray} {s : ByteArray} {X : Obj} (h : LogAt w0 b0 B S evs) (hb1 : Below w0.drew.heap.size w0.drew w1)
    (hown2 : w2.ownsRow b0 9 1 (.slice (some ⟨g, 0, none⟩) (evs.length + 1) cap2) (evs.length + 1) (strs8 evs ++ [.string s])) (hgrow : (w1.alloc X).grownBy w2 S.ownBlock) (hat : S.ownBlock = some g ∨ g = (w1.alloc X).heap.size) :
    LogAt (w2.setCell ⟨B, 1, none⟩ (.slice (some ⟨g, 0, none⟩) (evs.length + 1) cap2)) b0 B (.slice (some ⟨g, 0, none⟩) (evs.length + 1) cap2) (evs ++ [s]) ∧ Frame2 w0 (w2.setCell ⟨B, 1, none⟩ (.slice (some ⟨g, 0, none⟩) (evs.length + 1) cap2)) B S.ownBlock := by
  have hne := log_row_ne h
  have hBlt := lt_of_heap h.2.1
  have hs1 : w0.heap.size ≤ w1.heap.size := hb1.size
  have hgB : g ≠ B := by
    rcases hat with hat | hat
    · intro e; rw [hat, e] at hne; exact hne rfl
    · rw [hat]; simp; omega
  have h1 := h.drew.below hb1
  have hB2 : w2.heap[B]? = some (.cells #[.pointer (some ⟨B, 0, none⟩), S] 88 (0, 0)) := by
    rw [hgrow.block B (by simp; omega) hne, Below.heap_alloc _ _ _ (by omega)]
    exact h1.2.1
  have hother : ∀ k, k ≠ B → (w2.setCell ⟨B, 1, none⟩ (.slice (some ⟨g, 0, none⟩) (evs.length + 1) cap2)).heap[k]? = w2.heap[k]? := fun k hk => Below.heap_setCell _ _ _ _ hk
  refine ⟨⟨h.1, ?_, ?_⟩, ⟨?_, ?_, ?_, ?_, fun k hk hkB hkr => ?_⟩⟩
  · simp [World.setCell, Array.getElem?_modify, hB2]
  · rw [List.length_append, strs8_append]
    obtain ⟨o1, o2⟩ := hown2
    refine ⟨o1, ?_⟩
    rcases o2 with o2 | ⟨g', cp, cur, e, q1, q2, q3⟩
    · exact .inl o2
    · simp only [Value.slice.injEq, Option.some.injEq, Addr.mk.injEq] at e
      obtain ⟨⟨rfl, _, _⟩, _, rfl⟩ := e
      exact .inr ⟨g, _, cur, rfl, q1, by rw [hother g hgB]; exact q2, q3⟩
  · exact hgrow.os.trans hb1.os
  · exact hgrow.tape.trans hb1.tape
  · exact hgrow.output.trans hb1.output
  · have := hgrow.size
    simp at this
    simp [World.setCell]
    omega
  · rw [hother k hkB, hgrow.block k (by simp; omega) hkr, Below.heap_alloc _ _ _ (by omega)]
    exact hb1.block k hk

theorem own_at {w0 w1 : World} {X : Obj} {g n cap2 : Nat} {S : Value} (hb1 : Below w0.drew.heap.size w0.drew w1) (hat : S.ownBlock = some g ∨ g = (w1.alloc X).heap.size) :
    (Value.slice (some ⟨g, 0, none⟩) n cap2).ownBlock = S.ownBlock ∨ ∃ g', (Value.slice (some ⟨g, 0, none⟩) n cap2).ownBlock = some g' ∧ w0.heap.size ≤ g' := by
  rcases hat with h | h
  · left; rw [h]; rfl
  · right
    refine ⟨g, rfl, ?_⟩
    have : w0.heap.size ≤ w1.heap.size := hb1.size
    rw [h]; simp; omega

set_option maxRecDepth 100000 in
set_option maxHeartbeats 1000000 in
theorem append_ok (w : World) (b0 B : Nat) (S : Value) (evs : List ByteArray) (s : ByteArray) (h : LogAt w b0 B S evs) (hs : s.size ≤ 50) (hn : evs.length < 500) (hb0 : b0 ≤ w.heap.size) :
    Calls Try.prog 37 #[.pointer (some ⟨B, 0, none⟩), .string s] w fun e w' => ∃ S', e = .returned (.tuple #[.int .i64 evs.length, .int .i64 0]) ∧ LogAt w' b0 B S' (evs ++ [s]) ∧ Frame2 w w' B S.ownBlock ∧ (S'.ownBlock = S.ownBlock ∨ ∃ g, S'.ownBlock = some g ∧ w.heap.size ≤ g) := by
  obtain ⟨i0, hi, hz0, hz1, hz2⟩ := info_parts Try.infoStr
  have hm := h.evs
  have hz : w.frozen? ⟨B, 1, none⟩ = false := by unfold World.frozen?; rw [h.2.1]; rfl
  obtain ⟨ao, cap, rfl, hc, _⟩ := id h.slice
  have hne := log_row_ne h
  go_enter Try.func37, Try.ntmps37
  go_wp2_with (go_at_call 54; refine (closed_any _ _ _ _ _ h).mono ?_; rintro e w0 ⟨rfl, rfl⟩)
  go_region_law (first
    | (go_simp; go_at_call 55; refine (clone_any _ _ (by omega)).mono ?_; rintro e w1 ⟨rfl, hb1⟩; have h1 := h.drew.below hb1; have c1 := h1.evs; have z1 : w1.frozen? ⟨B, 1, none⟩ = false := (by unfold World.frozen?; rw [h1.2.1]; rfl); have hB1 : B < w1.heap.size := lt_of_heap h1.2.1; have hs1 : b0 ≤ w1.heap.size := Nat.le_trans hb0 hb1.size)
    | (refine step_append_lies _ rfl (.tmp 24) (.tmp 27) 22 rfl b0 9 i0 (.string ByteArray.empty) 1 16 Try.underlying22 hi hz0 hz1 hz2 rfl (by decide) (.slice ao evs.length cap) evs.length (strs8 evs) (by simp [Act.eval]) (h1.2.2.alloc _) ⟨w1.heap.size, 0, none⟩ 1 1 [.string s] (by simp [Act.eval]) rfl (World.news_of_block (heap_alloc_new w1 _)) (by intro u hu; simp at hu; subst hu; rfl) (by decide) (by unfold maxLen; omega) (by omega) (by simp; omega) _ rfl ?_; intro g cap2 w2 hown2 hgrow hat hlt; have c2 : w2.cell? ⟨B, 1, none⟩ = some (.slice ao evs.length cap) := (hgrow.cell_far ⟨B, 1, none⟩ (by simp; omega) hne).trans (cell_keep c1 ((Below.refl _ _).alloc (Nat.le_refl _) _)); have z2 : w2.frozen? ⟨B, 1, none⟩ = false := (hgrow.frozen_far ⟨B, 1, none⟩ (by simp; omega) hne).trans (frozen_keep c1 z1 ((Below.refl _ _).alloc (Nat.le_refl _) _))))
  all_goals have R := log_appended h hb1 hown2 hgrow hat
  all_goals have hat2 := own_at (cap2 := cap2) (n := evs.length + 1) (S := .slice ao evs.length cap) hb1 hat
  all_goals clear hown2 hgrow hat h1 z1 c1
  all_goals go_wp2
  all_goals go_ret2
  all_goals exact ⟨_, by simp, R.1, R.2, hat2⟩
end Go.Proofs.Ytlndinigbppafaa

/-
  The walks of Append where it is refused, and of the statements' pick.
-/
namespace Go.Proofs.Ytlndinigbppafaa
open Go.RowKit

set_option maxRecDepth 100000 in
set_option maxHeartbeats 400000 in
theorem append_long (w : World) (b0 B : Nat) (S : Value) (evs : List ByteArray) (s : ByteArray) (h : LogAt w b0 B S evs) (hs : 50 < s.size) (hm : s.size ≤ maxLen) :
    Calls Try.prog 37 #[.pointer (some ⟨B, 0, none⟩), .string s] w fun e w' => e = .returned (.tuple #[.int .i64 0, .int .i64 2]) ∧ w' = w := by
  unfold maxLen at hm
  go_enter Try.func37, Try.ntmps37
  go_wp2_with (go_at_call 54; refine (closed_any _ _ _ _ _ h).mono ?_; rintro e w0 ⟨rfl, rfl⟩)
  go_ret2
  exact ⟨rfl, rfl⟩
set_option maxRecDepth 100000 in
set_option maxHeartbeats 400000 in
theorem append_many (w : World) (b0 B : Nat) (S : Value) (evs : List ByteArray) (s : ByteArray) (h : LogAt w b0 B S evs) (hs : s.size ≤ 50) (hn : 500 ≤ evs.length) (hn2 : evs.length ≤ 1000) :
    Calls Try.prog 37 #[.pointer (some ⟨B, 0, none⟩), .string s] w fun e w' => e = .returned (.tuple #[.int .i64 0, .int .i64 3]) ∧ w' = w := by
  have hm := h.evs
  obtain ⟨ao, cap, rfl, hc, _⟩ := id h.slice
  go_enter Try.func37, Try.ntmps37
  go_wp2_with (go_at_call 54; refine (closed_any _ _ _ _ _ h).mono ?_; rintro e w0 ⟨rfl, rfl⟩)
  go_ret2
  exact ⟨rfl, rfl⟩

/-- Which of n things a raw number speaks of. -/
def pickZ (c n : Int) : Int := (if c < 0 then -(c + 1) else c) % n
theorem pickZ_bd (c n : Int) (h : 0 < n) : 0 ≤ pickZ c n ∧ pickZ c n < n := ⟨Int.emod_nonneg _ (by omega), Int.emod_lt_of_pos _ h⟩

set_option maxRecDepth 100000 in
set_option maxHeartbeats 400000 in
theorem pick_any (c n : Int) (w : World) (h0 : -9223372036854775808 ≤ c) (h1 : c ≤ 9223372036854775807) (hn : 0 < n) (hn2 : n ≤ 1000000) :
    Calls Try.prog 21 #[.int .i64 c, .int .i64 n] w fun e w' => e = .returned (.int .i64 (pickZ c n)) ∧ w' = w := by
  by_cases hc : c < 0
  · have HP : Hid (pickZ c n = (-(c + 1)) % n) := by show pickZ c n = _; unfold pickZ; rw [if_pos hc]
    go_enter Try.func21, Try.ntmps21
    go_wp2
    go_ret
    exact ⟨ret_int (by rw [HP.out, ← Int.neg_tmod, Int.tmod_eq_emod_of_nonneg (by omega)]), rfl⟩
  · have HP : Hid (pickZ c n = c % n) := by show pickZ c n = _; unfold pickZ; rw [if_neg hc]
    go_enter Try.func21, Try.ntmps21
    go_wp2
    go_ret
    exact ⟨ret_int (by rw [HP.out]), rfl⟩

/-- '[]byte' of a row of one byte that was laid for it: the mark behind its end. -/
theorem conv_same (u : World) (b : Nat) (x : Value) (hb : b = u.heap.size) : (convert 24 24 (.slice (some ⟨b, 0, none⟩) 1 1)).run Try.prog (u.alloc (.cells #[x] 5)) = .ok (.slice (some ⟨b, 0, none⟩) 1 1) (u.alloc (.cells #[x] 5 (1, 2))) := by
  subst hb
  have hsh : (u.alloc (.cells #[x] 5)).shape? u.heap.size = some (5, 1) := by
    unfold World.shape?; rw [heap_alloc_new u _]; rfl
  have hfr : (u.alloc (.cells #[x] 5)).freeze ⟨u.heap.size, 1, none⟩ 1 = u.alloc (.cells #[x] 5 (1, 2)) := by
    have hm : ∀ (a : Array Obj) (y : Obj) (f : Obj → Obj), (a.push y).modify a.size f = a.push (f y) := by
      intro a y f
      apply Array.ext
      · simp
      · intro i h1 h2
        simp only [Array.getElem_modify, Array.getElem_push]
        by_cases h : a.size = i
        · subst h; simp
        · have hi : i < a.size := by simp at h1; omega
          simp [h, hi]
    unfold World.freeze
    rw [if_neg (by decide)]
    show ({ u.alloc (.cells #[x] 5) with heap := (u.heap.push (.cells #[x] 5)).modify u.heap.size _ } : World) = _
    rw [hm]
    rfl
  simp [convert, run_underlying Try.underlying24, run_underlying Try.underlying5, markStringish, hsh, hfr]
theorem byte_atF (x : Int) (w : World) (b : Nat) (fr : Nat × Nat) (h0 : 0 ≤ x) (h1 : x ≤ 255) (hb : b = w.heap.size) : BytesAt (w.alloc (.cells #[.int .u8 x] 5 fr)) (.slice (some ⟨b, 0, none⟩) 1 1) [b8 x] := by
  subst hb
  refine ⟨_, _, rfl, fun h => (by cases h), fun _ => ⟨_, _, _, _, rfl, heap_alloc_new w _, fun j hj => ?_⟩⟩
  match j, hj with
  | 0, _ => show some (Value.int .u8 x) = some (.int .u8 ((b8 x).toNat : Int)); rw [b8_nat x h0 h1]
theorem sm_0a : sm [[b8 0], [b8 97]].flatten = 883 := by decide
theorem dig_a : dig (List.take 1 ([] ++ [⟨#[97]⟩])) (dep 1) 0 = 883 := by decide

set_option maxRecDepth 100000 in
set_option maxHeartbeats 1000000 in
theorem rooted_any (w : World) :
    Calls Try.prog 19 #[] w fun e w' => e = .returned (.bool true) ∧ Below w.heap.size w w' := by
  have hc2 := conv_same
  go_enter Try.func19, Try.ntmps19
  go_wp2_with fail
  refine (newLog_any _).mono ?_
  rintro e w1 ⟨rfl, hL1, hb1, hs1⟩
  go_wp2_with fail
  refine (sum_any [[b8 0], [b8 97]] _ _ (rows2 _ _ _ _ _ _ (by simp; omega) ((byte_at 0 _ _ (by decide) (by decide) (by omega)).keep (keepA _ _)) (byte_atF 97 _ _ _ (by decide) (by decide) (by simp; omega))) (by simp) (by intro l hl; simp at hl; rcases hl with rfl | rfl <;> simp)).mono ?_
  rintro e w2 ⟨rfl, rfl⟩
  rw [sm_0a]
  go_wp2_with fail
  have hbA : Below w1.heap.size w1 (((w1.alloc (.cells #[.int .u8 0] 5)).alloc (.cells #[.int .u8 97] 5 (1, 2))).alloc (.cells #[.slice (some ⟨w.heap.size + 1, 0, none⟩) 1 1, .slice (some ⟨w.heap.size + 1 + 1, 0, none⟩) 1 1] 24)) := (((Below.refl _ _).alloc (Nat.le_refl _) _).alloc (by simp) _).alloc (by simp; omega) _
  have hLA := hL1.below hbA
  have hbw := hb1.trans (hbA.mono hb1.size)
  generalize ((w1.alloc (.cells #[.int .u8 0] 5)).alloc (.cells #[.int .u8 97] 5 (1, 2))).alloc (.cells #[.slice (some ⟨w.heap.size + 1, 0, none⟩) 1 1, .slice (some ⟨w.heap.size + 1 + 1, 0, none⟩) 1 1] 24) = wA at hLA hbw ⊢
  clear hbA hL1 hc2
  refine (append_ok wA _ _ _ [] _ hLA (by decide) (by decide) hbw.size).mono ?_
  rintro e w3 ⟨S', rfl, hL3, hF3, _⟩
  have hb3 : Below w.heap.size w w3 := hbw.trans (hF3.below (Nat.le_refl _) (fun k hk => by simp [Value.ownBlock] at hk) hbw.size)
  go_wp2_with fail
  refine (root_ok w3 _ _ _ _ 1 hL3 (by decide) (by simp) (by simp) (by intro s hs; simp at hs; subst hs; decide)).mono ?_
  rintro e w4 ⟨rfl, hb4⟩
  rw [dig_a]
  go_wp2
  go_ret
  exact ⟨rfl, hb3.trans (hb4.mono hb3.size)⟩
end Go.Proofs.Ytlndinigbppafaa

/-
  The walk of the statements' kept: a log of the first events, each cut.
-/
namespace Go.Proofs.Ytlndinigbppafaa
open Go.RowKit

/-- An event, cut to fifty bytes. -/
def cut50 (s : ByteArray) : ByteArray := if 50 < s.size then s.extract 0 50 else s
def firstB : ByteArray := ⟨#[102, 105, 114, 115, 116]⟩
/-- The events that kept keeps. -/
def keptL (ps : List ByteArray) : List ByteArray := if ps = [] then [firstB] else (ps.take 60).map cut50
theorem cut50_le (s : ByteArray) : (cut50 s).size ≤ 50 := by
  unfold cut50; split
  · simp [ByteArray.size_extract]; omega
  · omega
theorem keptL_le (ps : List ByteArray) : ∀ s ∈ keptL ps, s.size ≤ 50 := by
  intro s hs
  unfold keptL at hs
  split at hs
  · simp at hs; subst hs; decide
  · obtain ⟨p, _, rfl⟩ := List.mem_map.1 hs; exact cut50_le p
theorem keptL_len (ps : List ByteArray) : 1 ≤ (keptL ps).length ∧ (keptL ps).length ≤ 60 := by
  unfold keptL; split
  · simp
  · rename_i h
    have : 0 < ps.length := List.length_pos_iff.2 h
    rw [List.length_map, List.length_take]; omega
theorem keptL_get (ps : List ByteArray) (k : Nat) (h : k < (keptL ps).length) : (keptL ps)[k] = if hp : k < ps.length then cut50 ps[k] else firstB := by
  by_cases hps : ps = []
  · subst hps
    have e : keptL [] = [firstB] := rfl
    have hk : k = 0 := by rw [e] at h; simpa using h
    subst hk
    simp [keptL]
  · have e : keptL ps = (ps.take 60).map cut50 := by unfold keptL; rw [if_neg hps]
    have hl : k < ps.length := by rw [e, List.length_map, List.length_take] at h; omega
    rw [dif_pos hl]
    simp only [e, List.getElem_map, List.getElem_take]

theorem log_grown {w w' : World} {b0 B : Nat} {S : Value} {evs : List ByteArray} {row : Option Nat} (h : LogAt w b0 B S evs) (hg : w.grownBy w' row) (hB : row ≠ some B) (hr : ∀ g, S.ownBlock = some g → row ≠ some g) : LogAt w' b0 B S evs := by
  refine ⟨h.1, ?_, ?_⟩
  · rw [hg.block B (lt_of_heap h.2.1) (fun e => hB e.symm)]; exact h.2.1
  · refine h.2.2.kept hg ?_
    cases hS : S.ownBlock with
    | none => left; rfl
    | some g => right; exact fun e => hr g hS e.symm
theorem row_ne_log {w : World} {b0 b1 B n : Nat} {S o : Value} {evs : List ByteArray} {xs : List Value} (h : LogAt w b0 B S evs) (ho : w.ownsRow b1 9 1 o n xs) : o.ownBlock ≠ some B := by
  intro e
  rcases ho.2 with ⟨rfl, _⟩ | ⟨g, cap, cur, rfl, _, hgg, _⟩
  · simp [Value.ownBlock] at e
  · simp [Value.ownBlock] at e
    subst e
    have := h.2.1
    rw [hgg] at this
    simp at this

/-- Behind the log's append the other row stands. -/
theorem kept_mid {wr w2 : World} {b0 B k : Nat} {S S' o : Value} {evs : List ByteArray} {xs : List Value} (hL : LogAt wr b0 B S evs) (hO : wr.ownsRow b0 9 1 o k xs) (hD : ∀ g, o.ownBlock = some g → S.ownBlock ≠ some g)
    (hF : Frame2 wr w2 B S.ownBlock) (hat : S'.ownBlock = S.ownBlock ∨ ∃ g, S'.ownBlock = some g ∧ wr.heap.size ≤ g) : w2.ownsRow b0 9 1 o k xs ∧ (∀ g, o.ownBlock = some g → S'.ownBlock ≠ some g) := by
  refine ⟨owns_frame2 hO hF (row_ne_log hL hO) hD, fun g hg => ?_⟩
  rcases hat with hat | ⟨g', hat, hge⟩
  · rw [hat]; exact hD g hg
  · rw [hat]
    intro e
    have := (hO.lt g hg).2
    simp at e
    omega
/-- Behind the other row's append the log stands. -/
theorem kept_end {w2 w3 : World} {X : Obj} {b0 B k n g cp : Nat} {S' o : Value} {evs' : List ByteArray} {xs : List Value} (hL2 : LogAt w2 b0 B S' evs') (hO2 : w2.ownsRow b0 9 1 o k xs) (hD2 : ∀ g, o.ownBlock = some g → S'.ownBlock ≠ some g)
    (hgrow : (w2.alloc X).grownBy w3 o.ownBlock) (hat : o.ownBlock = some g ∨ g = w2.heap.size + 1) : LogAt w3 b0 B S' evs' ∧ ∀ g', (Value.slice (some ⟨g, 0, none⟩) n cp).ownBlock = some g' → S'.ownBlock ≠ some g' := by
  have hLA := hL2.below ((Below.refl _ _).alloc (Nat.le_refl _) X)
  refine ⟨log_grown hLA hgrow (row_ne_log hL2 hO2) (fun g' hg' e => hD2 g' e hg'), fun g' hg' => ?_⟩
  have : g = g' := by simpa [Value.ownBlock] using hg'
  subst this
  rcases hat with hat | hat
  · exact hD2 g hat
  · intro e
    have h1 := (hL2.2.2.lt g e).2
    rw [hat] at h1
    omega

set_option maxRecDepth 100000 in
set_option maxHeartbeats 2000000 in
theorem kept_any (ps : List ByteArray) (v : Value) (w : World) (hv : StringsAt w v ps) (hn : ps.length ≤ 9223372036854775807) (hp : ∀ p ∈ ps, p.size ≤ 9223372036854775807) :
    Calls Try.prog 20 #[v] w fun e w' => ∃ (B : Nat) (S o : Value), e = .returned (.tuple #[.pointer (some ⟨B, 0, none⟩), o, .bool true]) ∧ LogAt w' w.heap.size B S (keptL ps) ∧ w'.ownsRow w.heap.size 9 1 o (keptL ps).length (strs8 (keptL ps)) ∧ (∀ g, o.ownBlock = some g → S.ownBlock ≠ some g) ∧ Below w.heap.size w w' := by
  obtain ⟨i0, hi, hz0, hz1, hz2⟩ := info_parts Try.infoStr
  obtain ⟨ao, cap, rfl, hcell⟩ := hv
  have hK1 := (keptL_len ps).1
  have hK2 := (keptL_len ps).2
  go_enter Try.func20, Try.ntmps20
  go_wp2_with fail
  refine (newLog_any _).mono ?_
  rintro e w1 ⟨rfl, hL1, hb1, hs1⟩
  have HS1 : Hid (w1.heap.size = w.heap.size + 1) := hs1
  clear hs1
  go_wp2
  go_loopw [6, 7] (fun o i wr => ∃ (k : Nat) (S : Value), k ≤ (keptL ps).length ∧ i = .int .i64 k ∧ LogAt wr w.heap.size w.heap.size S ((keptL ps).take k) ∧ wr.ownsRow w.heap.size 9 1 o k (strs8 ((keptL ps).take k)) ∧ (∀ g, o.ownBlock = some g → S.ownBlock ≠ some g) ∧ Below w.heap.size w wr)
    (fun _ i _ => (keptL ps).length - (intOf i).toNat)
  case atStart => exact ⟨0, _, Nat.zero_le _, rfl, hL1, World.ownsRow_nil _ _ _ _, fun g hg => by simp [Value.ownBlock] at hg, hb1⟩
  case round =>
    obtain ⟨k, S, hk, rfl, hL, hO, hD, hB⟩ := hrel
    have hBs := hB.size
    by_cases hlt : k < (keptL ps).length
    · have HG : Hid _ := keptL_get ps k hlt
      have HT : Hid ((keptL ps).take (k + 1) = (keptL ps).take k ++ [(keptL ps)[k]]) := take_snoc _ _ hlt
      have hle := keptL_le ps _ (List.getElem_mem hlt)
      have hl2 : ((keptL ps).take k).length = k := by rw [List.length_take]; omega
      by_cases hpk : k < ps.length
      · have hk60 : k < 60 := by omega
        obtain ⟨b, o, rfl, hbB, hcl⟩ := hcell (by omega)
        have hck := (hB.cell (p := ⟨b, o + k, none⟩) hbB).trans (hcl k hpk)
        have hsz := hp _ (List.getElem_mem hpk)
        by_cases h50 : 50 < ps[k].size
        · have h50i : (50 : Int) < (ps[k].size : Int) := by omega
          have HX : Hid ((keptL ps)[k] = ps[k].extract 0 50) := by show _ = _; rw [HG.out, dif_pos hpk]; unfold cut50; rw [if_pos h50]
          clear hcl hcell
          go_wp2_with fail
          refine (append_ok wr _ _ S ((keptL ps).take k) (ps[k].extract 0 50) hL (by rw [← HX.out]; exact hle) (by omega) hBs).mono ?_
          rintro e w2 ⟨S', rfl, hL2, hF2, hat2⟩
          rw [← HX.out, ← HT.out] at hL2
          obtain ⟨hO2, hD2⟩ := kept_mid hL hO hD hF2 hat2
          have hB2 : Below w.heap.size w w2 := hB.trans (hF2.below (Nat.le_refl _) (fun g hg => (hL.2.2.lt g hg).1) hBs)
          have hB2s := hB2.size
          rw [hl2]
          clear hL hO hD hF2 hat2 hB hBs hck
          go_wp2_with (at_builtin; refine wpList_append_lies _ rfl (.tmp 54) (.tmp 56) 22 rfl w.heap.size 9 i0 (.string ByteArray.empty) 1 16 Try.underlying22 hi hz0 hz1 hz2 rfl (by decide) _ _ _ rfl (hO2.alloc _) ⟨w2.heap.size, 0, none⟩ 1 1 [.string (ps[k].extract 0 50)] rfl rfl (World.news_of_block (heap_alloc_new w2 _)) (by intro u hu; simp at hu; subst hu; rfl) (by decide) (by unfold maxLen; omega) (by omega) (by simp; omega) _ rfl ?_)
          intro g cp w3 hown3 hgrow hat hlt3
          obtain ⟨hL3, hD3⟩ := kept_end (n := k + 1) (cp := cp) hL2 hO2 hD2 hgrow hat
          have hB3 := (hB2.alloc hB2s _).grown hgrow (by simp; omega) (fun g hg => (hO2.lt g hg).1)
          have hown4 : w3.ownsRow w.heap.size 9 1 (.slice (some ⟨g, 0, none⟩) (k + 1) cp) (k + 1) (strs8 ((keptL ps).take (k + 1))) := by rw [HT.out, strs8_append, HX.out]; exact hown3
          clear hown3 hgrow hat hL2 hO2 hD2 hB2
          go_wp2
          go_roundw
          case rel => exact ⟨k + 1, S', by omega, by go_num, hL3, hown4, hD3, hB3⟩
          case measure => simp [intOf]; omega
        · have h50i : (ps[k].size : Int) ≤ 50 := by omega
          have HX : Hid ((keptL ps)[k] = ps[k]) := by show _ = _; rw [HG.out, dif_pos hpk]; unfold cut50; rw [if_neg h50]
          clear hcl hcell
          go_wp2_with fail
          refine (append_ok wr _ _ S ((keptL ps).take k) ps[k] hL (by rw [← HX.out]; exact hle) (by omega) hBs).mono ?_
          rintro e w2 ⟨S', rfl, hL2, hF2, hat2⟩
          rw [← HX.out, ← HT.out] at hL2
          obtain ⟨hO2, hD2⟩ := kept_mid hL hO hD hF2 hat2
          have hB2 : Below w.heap.size w w2 := hB.trans (hF2.below (Nat.le_refl _) (fun g hg => (hL.2.2.lt g hg).1) hBs)
          have hB2s := hB2.size
          rw [hl2]
          clear hL hO hD hF2 hat2 hB hBs hck
          go_wp2_with (at_builtin; refine wpList_append_lies _ rfl (.tmp 54) (.tmp 56) 22 rfl w.heap.size 9 i0 (.string ByteArray.empty) 1 16 Try.underlying22 hi hz0 hz1 hz2 rfl (by decide) _ _ _ rfl (hO2.alloc _) ⟨w2.heap.size, 0, none⟩ 1 1 [.string ps[k]] rfl rfl (World.news_of_block (heap_alloc_new w2 _)) (by intro u hu; simp at hu; subst hu; rfl) (by decide) (by unfold maxLen; omega) (by omega) (by simp; omega) _ rfl ?_)
          intro g cp w3 hown3 hgrow hat hlt3
          obtain ⟨hL3, hD3⟩ := kept_end (n := k + 1) (cp := cp) hL2 hO2 hD2 hgrow hat
          have hB3 := (hB2.alloc hB2s _).grown hgrow (by simp; omega) (fun g hg => (hO2.lt g hg).1)
          have hown4 : w3.ownsRow w.heap.size 9 1 (.slice (some ⟨g, 0, none⟩) (k + 1) cp) (k + 1) (strs8 ((keptL ps).take (k + 1))) := by rw [HT.out, strs8_append, HX.out]; exact hown3
          clear hown3 hgrow hat hL2 hO2 hD2 hB2
          go_wp2
          go_roundw
          case rel => exact ⟨k + 1, S', by omega, by go_num, hL3, hown4, hD3, hB3⟩
          case measure => simp [intOf]; omega
      · have hps : ps = [] := by
          rcases Nat.eq_zero_or_pos ps.length with h | h
          · exact List.eq_nil_of_length_eq_zero h
          · exfalso
            have e : keptL ps = (ps.take 60).map cut50 := by unfold keptL; rw [if_neg (List.ne_nil_of_length_pos h)]
            rw [e, List.length_map, List.length_take] at hlt; omega
        have hk0 : k = 0 := by
          have e : keptL ps = [firstB] := by unfold keptL; rw [if_pos hps]
          rw [e] at hlt; simpa using hlt
        have HX : Hid ((keptL ps)[k] = ⟨#[102, 105, 114, 115, 116]⟩) := by show _ = _; rw [HG.out, dif_neg hpk]; rfl
        have hck : True := trivial
        have hpl : ps.length ≤ k := by omega
        have hk1 : (k : Int) < 1 := by omega
        clear hcell hps hk0
        go_wp2_with fail
        refine (append_ok wr _ _ S ((keptL ps).take k) ⟨#[102, 105, 114, 115, 116]⟩ hL (by rw [← HX.out]; exact hle) (by omega) hBs).mono ?_
        rintro e w2 ⟨S', rfl, hL2, hF2, hat2⟩
        rw [← HX.out, ← HT.out] at hL2
        obtain ⟨hO2, hD2⟩ := kept_mid hL hO hD hF2 hat2
        have hB2 : Below w.heap.size w w2 := hB.trans (hF2.below (Nat.le_refl _) (fun g hg => (hL.2.2.lt g hg).1) hBs)
        have hB2s := hB2.size
        rw [hl2]
        clear hL hO hD hF2 hat2 hB hBs hck
        go_wp2_with (at_builtin; refine wpList_append_lies _ rfl (.tmp 54) (.tmp 56) 22 rfl w.heap.size 9 i0 (.string ByteArray.empty) 1 16 Try.underlying22 hi hz0 hz1 hz2 rfl (by decide) _ _ _ rfl (hO2.alloc _) ⟨w2.heap.size, 0, none⟩ 1 1 [.string ⟨#[102, 105, 114, 115, 116]⟩] rfl rfl (World.news_of_block (heap_alloc_new w2 _)) (by intro u hu; simp at hu; subst hu; rfl) (by decide) (by unfold maxLen; omega) (by omega) (by simp; omega) _ rfl ?_)
        intro g cp w3 hown3 hgrow hat hlt3
        obtain ⟨hL3, hD3⟩ := kept_end (n := k + 1) (cp := cp) hL2 hO2 hD2 hgrow hat
        have hB3 := (hB2.alloc hB2s _).grown hgrow (by simp; omega) (fun g hg => (hO2.lt g hg).1)
        have hown4 : w3.ownsRow w.heap.size 9 1 (.slice (some ⟨g, 0, none⟩) (k + 1) cp) (k + 1) (strs8 ((keptL ps).take (k + 1))) := by rw [HT.out, strs8_append, HX.out]; exact hown3
        clear hown3 hgrow hat hL2 hO2 hD2 hB2
        go_wp2
        go_roundw
        case rel => exact ⟨k + 1, S', by omega, by go_num, hL3, hown4, hD3, hB3⟩
        case measure => simp [intOf]; omega
    · have hkl : k = (keptL ps).length := by omega
      subst hkl
      rw [List.take_length] at hL hO
      have hx : ¬ ((keptL ps).length < ps.length ∧ (keptL ps).length < 60) ∧ ¬ (keptL ps).length < 1 := by
        refine ⟨fun ⟨h1, h2⟩ => ?_, by omega⟩
        have e : keptL ps = (ps.take 60).map cut50 := by unfold keptL; rw [if_neg (List.ne_nil_of_length_pos (by omega))]
        rw [e, List.length_map, List.length_take] at h1 h2; omega
      obtain ⟨g, cp, rfl, _, _⟩ := hO.form (by omega)
      by_cases hx1 : (keptL ps).length < ps.length
      · have hx2 : 60 ≤ (keptL ps).length := by omega
        clear hx hcell
        go_wp2_with (go_at_call 38; refine (len_log _ _ _ _ _ hL).mono ?_; rintro e w4 ⟨rfl, rfl⟩)
        go_ret3
        exact ⟨_, S, _, by simp, hL, hO, hD, hB⟩
      · clear hx hcell
        go_wp2_with (go_at_call 38; refine (len_log _ _ _ _ _ hL).mono ?_; rintro e w4 ⟨rfl, rfl⟩)
        go_ret3
        exact ⟨_, S, _, by simp, hL, hO, hD, hB⟩
end Go.Proofs.Ytlndinigbppafaa
