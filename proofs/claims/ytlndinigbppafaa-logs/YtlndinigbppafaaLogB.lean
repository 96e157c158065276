/-
  The walks of the program's log: what is read of it.
-/
import Derived.Test.YtlndinigbppafaaLogA
import Derived.LaidEql
namespace Go.Proofs.Ytlndinigbppafaa
open Go.RowKit

/-- Strings as cells. -/
def strs8 (evs : List ByteArray) : List Value := evs.map Value.string
/-- A log that NewLog made, with these events: its own block, its row of events. -/
def LogAt (w : World) (b0 B : Nat) (S : Value) (evs : List ByteArray) : Prop :=
  b0 ≤ B ∧ w.heap[B]? = some (.cells #[.pointer (some ⟨B, 0, none⟩), S] 88 (0, 0)) ∧ w.ownsRow b0 9 1 S evs.length (strs8 evs)

theorem LogAt.below {w w' : World} {b0 B : Nat} {S : Value} {evs : List ByteArray} (h : LogAt w b0 B S evs) (hb : Below w.heap.size w w') : LogAt w' b0 B S evs := by
  obtain ⟨h0, h1, h2⟩ := h
  exact ⟨h0, by rw [hb.block B (lt_of_heap h1)]; exact h1, owns_below h2 hb⟩
theorem LogAt.made {w : World} {b0 B : Nat} {S : Value} {evs : List ByteArray} (h : LogAt w b0 B S evs) : w.cell? ⟨B, 0, none⟩ = some (.pointer (some ⟨B, 0, none⟩)) := by
  rw [cell_of_row _ _ _ _ _ _ h.2.1]; rfl
theorem LogAt.evs {w : World} {b0 B : Nat} {S : Value} {evs : List ByteArray} (h : LogAt w b0 B S evs) : w.cell? ⟨B, 1, none⟩ = some S := by
  rw [cell_of_row _ _ _ _ _ _ h.2.1]; rfl
/-- Its events, and the first n of them. -/
theorem LogAt.slice {w : World} {b0 B : Nat} {S : Value} {evs : List ByteArray} (h : LogAt w b0 B S evs) : ∃ ao cap, S = .slice ao evs.length cap ∧ evs.length ≤ cap ∧ cap ≤ maxLen ∧ ∀ n, n ≤ evs.length → StringsAt w (.slice ao n cap) (evs.take n) := by
  obtain ⟨_, _, h2, h3⟩ := h
  rcases h3 with ⟨rfl, h0⟩ | ⟨g, cap, cur, rfl, _, hgg, hle, hmax, _, htake⟩
  · refine ⟨none, 0, by rw [h0], by omega, by decide, fun n hn => ⟨none, 0, by rw [List.length_take]; congr 1; omega, fun hl => ?_⟩⟩
    rw [List.length_take] at hl; omega
  · refine ⟨_, cap, rfl, hle, hmax, fun n hn => ⟨_, cap, by rw [List.length_take]; congr 1; omega, fun _ => ⟨g, 0, rfl, lt_of_heap hgg, fun j hj => ?_⟩⟩⟩
    rw [List.length_take] at hj
    rw [cell_of_row _ _ _ _ _ _ hgg, Nat.zero_add]
    have h1 : (strs8 evs)[j]? = some (.string evs[j]) := by simp [strs8, show j < evs.length by omega]
    rw [← htake, List.getElem?_take, if_pos (by omega)] at h1
    simpa using h1

theorem Try.infoLog : (Try.prog.info? 88).map (fun i => i.size) = some 2 := by kernel_rfl
theorem same_ptr (d : Nat) (w : World) (a : Addr) : (Op.equalIn (d + 1) 48 (.pointer (some a)) (.pointer (some a))).run Try.prog w = .ok true w := by
  obtain ⟨i, hi, _⟩ : ∃ i, Try.prog.info? 88 = some i ∧ i.size = 2 := by
    have h := Try.infoLog
    cases e : Try.prog.info? 88 with
    | none => rw [e] at h; cases h
    | some i => rw [e] at h; exact ⟨i, rfl, by simpa using h⟩
  simp [Op.equalIn, run_underlying Try.underlying48, sizeOf, typeInfo, hi, run_sameAddr_same]
theorem neq_self (w : World) (a : Addr) : (binOp .neq 48 (.pointer (some a)) (.pointer (some a))).run Try.prog w = .ok (.bool false) w := by
  have h : (Op.equal 48 (.pointer (some a)) (.pointer (some a))).run Try.prog w = .ok true w := same_ptr 9999 w a
  simp only [binOp]
  simp [h]

set_option maxRecDepth 100000 in
set_option maxHeartbeats 400000 in
theorem closed_any (w : World) (b0 B : Nat) (S : Value) (evs : List ByteArray) (h : LogAt w b0 B S evs) :
    Calls Try.prog 54 #[.pointer (some ⟨B, 0, none⟩)] w fun e w' => e = .returned (.bool false) ∧ w' = w := by
  have hm := h.made
  have hne := neq_self w ⟨B, 0, none⟩
  go_enter Try.func54, Try.ntmps54
  go_wp2
  go_ret
  exact ⟨rfl, rfl⟩

set_option maxRecDepth 100000 in
set_option maxHeartbeats 400000 in
theorem len_log (w : World) (b0 B : Nat) (S : Value) (evs : List ByteArray) (h : LogAt w b0 B S evs) :
    Calls Try.prog 38 #[.pointer (some ⟨B, 0, none⟩)] w fun e w' => e = .returned (.int .i64 evs.length) ∧ w' = w := by
  have hm := h.evs
  obtain ⟨ao, cap, rfl, hc, _⟩ := h.slice
  go_enter Try.func38, Try.ntmps38
  go_wp2_with (go_at_call 54; refine (closed_any _ _ _ _ _ h).mono ?_; rintro e w' ⟨rfl, rfl⟩)
  go_ret
  exact ⟨rfl, rfl⟩

set_option maxRecDepth 100000 in
set_option maxHeartbeats 400000 in
theorem check_ok (w : World) (b0 B : Nat) (S : Value) (evs : List ByteArray) (n : Int) (h : LogAt w b0 B S evs) (h1 : 1 ≤ n) (h2 : n ≤ evs.length) :
    Calls Try.prog 42 #[.pointer (some ⟨B, 0, none⟩), .int .i64 n] w fun e w' => e = .returned (.int .i64 0) ∧ w' = w := by
  have hm := h.evs
  obtain ⟨ao, cap, rfl, hc, _⟩ := h.slice
  go_enter Try.func42, Try.ntmps42
  go_wp2_with (go_at_call 54; refine (closed_any _ _ _ _ _ h).mono ?_; rintro e w' ⟨rfl, rfl⟩)
  go_ret
  exact ⟨rfl, rfl⟩

set_option maxRecDepth 100000 in
set_option maxHeartbeats 400000 in
theorem check_no (w : World) (b0 B : Nat) (S : Value) (evs : List ByteArray) (n : Int) (h : LogAt w b0 B S evs) (h1 : n < 1 ∨ (evs.length : Int) < n) :
    Calls Try.prog 42 #[.pointer (some ⟨B, 0, none⟩), .int .i64 n] w fun e w' => e = .returned (.int .i64 1) ∧ w' = w := by
  have hm := h.evs
  obtain ⟨ao, cap, rfl, hc, _⟩ := h.slice
  by_cases hn : n < 1
  · go_enter Try.func42, Try.ntmps42
    go_wp2_with (go_at_call 54; refine (closed_any _ _ _ _ _ h).mono ?_; rintro e w' ⟨rfl, rfl⟩)
    go_ret
    exact ⟨rfl, rfl⟩
  · have hn2 : (evs.length : Int) < n := by omega
    have hn3 : 1 ≤ n := by omega
    go_enter Try.func42, Try.ntmps42
    go_wp2_with (go_at_call 54; refine (closed_any _ _ _ _ _ h).mono ?_; rintro e w' ⟨rfl, rfl⟩)
    go_ret
    exact ⟨rfl, rfl⟩

set_option maxRecDepth 100000 in
set_option maxHeartbeats 400000 in
theorem version_any (w : World) (b0 B : Nat) (S : Value) (evs : List ByteArray) (n : Nat) (N : Int) (eN : N = n) (h : LogAt w b0 B S evs) (h1 : 1 ≤ n) (h2 : n ≤ evs.length) (hn : evs.length ≤ 65535) (hs : ∀ s ∈ evs, s.size ≤ 255) :
    Calls Try.prog 44 #[.pointer (some ⟨B, 0, none⟩), .int .i64 N] w fun e w' => e = .returned (treeV (evs.take n) (dep n) 0) ∧ Below w.heap.size w w' := by
  subst eN
  have hm := h.evs
  obtain ⟨ao, cap, rfl, hc, hmax, hS⟩ := h.slice
  have hv := hS n h2
  have hnc : (n : Int) ≤ (cap : Int) := by omega
  have hl : (evs.take n).length = n := by rw [List.length_take]; omega
  clear hS
  go_enter Try.func44, Try.ntmps44
  go_wp2_with fail
  refine (Build_any (evs.take n) _ _ (by omega) (by omega) (fun s hm => by have := hs s (List.mem_of_mem_take hm); omega) hv).mono ?_
  rintro e w1 ⟨rfl, hb⟩
  rw [hl]
  go_wp2
  go_ret
  exact ⟨rfl, hb⟩
end Go.Proofs.Ytlndinigbppafaa

/-
  The walks of the program's log: Root, Commitment, Member, Growth.
-/
namespace Go.Proofs.Ytlndinigbppafaa
open Go.RowKit

theorem take_small {evs : List ByteArray} {n m : Nat} (hs : ∀ s ∈ evs, s.size ≤ m) : ∀ s ∈ evs.take n, s.size ≤ m := fun s h => hs s (List.mem_of_mem_take h)

set_option maxRecDepth 100000 in
set_option maxHeartbeats 400000 in
theorem root_no (w : World) (b0 B : Nat) (S : Value) (evs : List ByteArray) (n : Int) (h : LogAt w b0 B S evs) (hn : n < 1 ∨ (evs.length : Int) < n) :
    Calls Try.prog 25 #[.pointer (some ⟨B, 0, none⟩), .int .i64 n] w fun e w' => e = .returned (.tuple #[.int .i64 0, .int .i64 1]) ∧ w' = w := by
  go_enter Try.func25, Try.ntmps25
  go_wp2_with (go_at_call 42; refine (check_no _ _ _ _ _ _ h hn).mono ?_; rintro e w' ⟨rfl, rfl⟩)
  go_ret2
  exact ⟨rfl, rfl⟩

set_option maxRecDepth 100000 in
set_option maxHeartbeats 1000000 in
theorem root_ok (w : World) (b0 B : Nat) (S : Value) (evs : List ByteArray) (n : Nat) (h : LogAt w b0 B S evs) (h1 : 1 ≤ n) (h2 : n ≤ evs.length) (hn : evs.length ≤ 65535) (hs : ∀ s ∈ evs, s.size ≤ 255) :
    Calls Try.prog 25 #[.pointer (some ⟨B, 0, none⟩), .int .i64 n] w fun e w' => e = .returned (.tuple #[.int .i64 (dig (evs.take n) (dep n) 0), .int .i64 0]) ∧ Below w.heap.size w w' := by
  have hV := treeV_node (evs.take n) (dep n) 0
  generalize dig (evs.take n) (dep n) 0 = g at hV ⊢
  go_enter Try.func25, Try.ntmps25
  go_wp2_with fail
  refine (check_ok _ _ _ _ _ n h (by omega) (by omega)).mono ?_
  rintro e w' ⟨rfl, rfl⟩
  go_wp2_with fail
  refine (version_any _ _ _ _ _ n _ rfl h h1 h2 hn hs).mono ?_
  rintro e w1 ⟨rfl, hb1⟩
  rcases digest_call hV with ⟨x, y, z, hVe⟩ | ⟨x, y, z, hVe⟩ | ⟨x, y, z, u, hVe⟩
  all_goals rw [hVe]
  all_goals clear hVe hV
  all_goals go_wp2_with (first
    | (go_at_call 132; refine (leafDigest_any _ _ _ _ _).mono ?_; rintro e w' ⟨rfl, rfl⟩)
    | (go_at_call 137; refine (aloneDigest_any _ _ _ _ _).mono ?_; rintro e w' ⟨rfl, rfl⟩)
    | (go_at_call 143; refine (twoDigest_any _ _ _ _ _ _).mono ?_; rintro e w' ⟨rfl, rfl⟩))
  all_goals go_ret2
  all_goals exact ⟨rfl, hb1.alloc hb1.size _⟩

set_option maxRecDepth 100000 in
set_option maxHeartbeats 400000 in
theorem commit_no (w : World) (b0 B : Nat) (S : Value) (evs : List ByteArray) (n : Int) (h : LogAt w b0 B S evs) (hn : n < 1 ∨ (evs.length : Int) < n) :
    Calls Try.prog 36 #[.pointer (some ⟨B, 0, none⟩), .int .i64 n] w fun e w' => e = .returned (.tuple #[.slice none 0 0, .int .i64 1]) ∧ w' = w := by
  go_enter Try.func36, Try.ntmps36
  go_wp2_with (go_at_call 42; refine (check_no _ _ _ _ _ _ h hn).mono ?_; rintro e w' ⟨rfl, rfl⟩)
  go_ret2
  exact ⟨rfl, rfl⟩
set_option maxRecDepth 100000 in
set_option maxHeartbeats 400000 in
theorem member_no (w : World) (b0 B : Nat) (S : Value) (evs : List ByteArray) (i n : Int) (h : LogAt w b0 B S evs) (hn : n < 1 ∨ (evs.length : Int) < n) :
    Calls Try.prog 23 #[.pointer (some ⟨B, 0, none⟩), .int .i64 i, .int .i64 n] w fun e w' => e = .returned (.tuple #[.slice none 0 0, .int .i64 1]) ∧ w' = w := by
  go_enter Try.func23, Try.ntmps23
  go_wp2_with (go_at_call 42; refine (check_no _ _ _ _ _ _ h hn).mono ?_; rintro e w' ⟨rfl, rfl⟩)
  go_ret2
  exact ⟨rfl, rfl⟩
set_option maxRecDepth 100000 in
set_option maxHeartbeats 400000 in
theorem growth_no (w : World) (b0 B : Nat) (S : Value) (evs : List ByteArray) (m n : Int) (h : LogAt w b0 B S evs) (hn : n < 1 ∨ (evs.length : Int) < n) :
    Calls Try.prog 22 #[.pointer (some ⟨B, 0, none⟩), .int .i64 m, .int .i64 n] w fun e w' => e = .returned (.tuple #[.slice none 0 0, .int .i64 1]) ∧ w' = w := by
  go_enter Try.func22, Try.ntmps22
  go_wp2_with (go_at_call 42; refine (check_no _ _ _ _ _ _ h hn).mono ?_; rintro e w' ⟨rfl, rfl⟩)
  go_ret2
  exact ⟨rfl, rfl⟩
set_option maxRecDepth 100000 in
set_option maxHeartbeats 400000 in
theorem member_no2 (w : World) (b0 B : Nat) (S : Value) (evs : List ByteArray) (i n : Int) (h : LogAt w b0 B S evs) (h1 : 1 ≤ n) (h2 : n ≤ evs.length) (hi : i < 0 ∨ n ≤ i) :
    Calls Try.prog 23 #[.pointer (some ⟨B, 0, none⟩), .int .i64 i, .int .i64 n] w fun e w' => e = .returned (.tuple #[.slice none 0 0, .int .i64 1]) ∧ w' = w := by
  by_cases hi0 : i < 0
  · go_enter Try.func23, Try.ntmps23
    go_wp2_with (go_at_call 42; refine (check_ok _ _ _ _ _ _ h h1 h2).mono ?_; rintro e w' ⟨rfl, rfl⟩)
    go_ret2
    exact ⟨rfl, rfl⟩
  · have hi1 : n ≤ i := by omega
    have hi2 : 0 ≤ i := by omega
    go_enter Try.func23, Try.ntmps23
    go_wp2_with (go_at_call 42; refine (check_ok _ _ _ _ _ _ h h1 h2).mono ?_; rintro e w' ⟨rfl, rfl⟩)
    go_ret2
    exact ⟨rfl, rfl⟩
set_option maxRecDepth 100000 in
set_option maxHeartbeats 400000 in
theorem growth_no2 (w : World) (b0 B : Nat) (S : Value) (evs : List ByteArray) (m n : Int) (h : LogAt w b0 B S evs) (h1 : 1 ≤ n) (h2 : n ≤ evs.length) (hi : m < 1 ∨ n < m) :
    Calls Try.prog 22 #[.pointer (some ⟨B, 0, none⟩), .int .i64 m, .int .i64 n] w fun e w' => e = .returned (.tuple #[.slice none 0 0, .int .i64 1]) ∧ w' = w := by
  by_cases hi0 : m < 1
  · go_enter Try.func22, Try.ntmps22
    go_wp2_with (go_at_call 42; refine (check_ok _ _ _ _ _ _ h h1 h2).mono ?_; rintro e w' ⟨rfl, rfl⟩)
    go_ret2
    exact ⟨rfl, rfl⟩
  · have hi1 : n < m := by omega
    have hi2 : 1 ≤ m := by omega
    go_enter Try.func22, Try.ntmps22
    go_wp2_with (go_at_call 42; refine (check_ok _ _ _ _ _ _ h h1 h2).mono ?_; rintro e w' ⟨rfl, rfl⟩)
    go_ret2
    exact ⟨rfl, rfl⟩

set_option maxRecDepth 100000 in
set_option maxHeartbeats 1000000 in
theorem member_ok (w : World) (b0 B : Nat) (S : Value) (evs : List ByteArray) (i : Int) (n : Nat) (h : LogAt w b0 B S evs) (h1 : 1 ≤ n) (h2 : n ≤ evs.length) (hi0 : 0 ≤ i) (hi1 : i < n) (hn : evs.length ≤ 65535) (hs : ∀ s ∈ evs, s.size ≤ 255) :
    Calls Try.prog 23 #[.pointer (some ⟨B, 0, none⟩), .int .i64 i, .int .i64 n] w fun e w' => ∃ v', e = .returned (.tuple #[v', .int .i64 0]) ∧ w'.ownsRow w.heap.size 5 1 v' (memberB (evs.take n) i).length (bytes8 (memberB (evs.take n) i)) ∧ Below w.heap.size w w' := by
  have hl : (evs.take n).length = n := by rw [List.length_take]; omega
  have hP := prunes_tree (evs.take n) (dep n) (dep_le _ 16 (by rw [pw_16]; omega)) 0 (by have : pw (dep n) ≤ 65536 := pw_le (e := 16) (dep_le _ 16 (by rw [pw_16]; omega)); omega)
  have HP : Hid (Prunes (treeV (evs.take n) (dep n) 0) (fun f => pruneN (evs.take n) f (dep (evs.take n).length) 0)) := by rw [hl]; exact hP
  clear hP
  have HL : Hid ((evs.take n).length = n) := hl
  clear hl
  go_enter Try.func23, Try.ntmps23
  go_wp2_with fail
  refine (check_ok _ _ _ _ _ n h (by omega) (by omega)).mono ?_
  rintro e w' ⟨rfl, rfl⟩
  go_wp2_with fail
  refine (version_any _ _ _ _ _ n _ rfl h h1 h2 hn hs).mono ?_
  rintro e w1 ⟨rfl, hb1⟩
  go_wp2_with fail
  refine (member_any (evs.take n) _ i n _ HP.out ⟨hi0, by omega⟩ (by rw [HL.out]) (by rw [HL.out]; omega) (take_small hs)).mono ?_
  rintro e w2 ⟨v2, rfl, hO2, hb2⟩
  go_wp2
  go_ret2
  exact ⟨_, rfl, owns_base hO2 hb1.size, hb1.trans (hb2.mono hb1.size)⟩

set_option maxRecDepth 100000 in
set_option maxHeartbeats 1000000 in
theorem growth_ok (w : World) (b0 B : Nat) (S : Value) (evs : List ByteArray) (m : Int) (n : Nat) (h : LogAt w b0 B S evs) (h1 : 1 ≤ n) (h2 : n ≤ evs.length) (hi0 : 1 ≤ m) (hi1 : m ≤ n) (hn : evs.length ≤ 65535) (hs : ∀ s ∈ evs, s.size ≤ 255) :
    Calls Try.prog 22 #[.pointer (some ⟨B, 0, none⟩), .int .i64 m, .int .i64 n] w fun e w' => ∃ v', e = .returned (.tuple #[v', .int .i64 0]) ∧ w'.ownsRow w.heap.size 5 1 v' (growthB (evs.take n) m).length (bytes8 (growthB (evs.take n) m)) ∧ Below w.heap.size w w' := by
  have hl : (evs.take n).length = n := by rw [List.length_take]; omega
  have hP := prunes_tree (evs.take n) (dep n) (dep_le _ 16 (by rw [pw_16]; omega)) 0 (by have : pw (dep n) ≤ 65536 := pw_le (e := 16) (dep_le _ 16 (by rw [pw_16]; omega)); omega)
  have HP : Hid (Prunes (treeV (evs.take n) (dep n) 0) (fun f => pruneN (evs.take n) f (dep (evs.take n).length) 0)) := by rw [hl]; exact hP
  have HV : Hid (NodeV (dig (evs.take n) (dep (evs.take n).length) 0) (treeV (evs.take n) (dep n) 0)) := by rw [hl]; exact treeV_node _ _ _
  clear hP
  have HL : Hid ((evs.take n).length = n) := hl
  clear hl
  go_enter Try.func22, Try.ntmps22
  go_wp2_with fail
  refine (check_ok _ _ _ _ _ n h (by omega) (by omega)).mono ?_
  rintro e w' ⟨rfl, rfl⟩
  go_wp2_with fail
  refine (version_any _ _ _ _ _ n _ rfl h h1 h2 hn hs).mono ?_
  rintro e w1 ⟨rfl, hb1⟩
  go_wp2_with fail
  refine (growth_any (evs.take n) _ m n _ HP.out HV.out ⟨by omega, by omega⟩ (by rw [HL.out]) (by rw [HL.out]; omega) (take_small hs)).mono ?_
  rintro e w2 ⟨v2, rfl, hO2, hb2⟩
  go_wp2
  go_ret2
  exact ⟨_, rfl, owns_base hO2 hb1.size, hb1.trans (hb2.mono hb1.size)⟩

set_option maxRecDepth 100000 in
set_option maxHeartbeats 1000000 in
theorem commit_ok (w : World) (b0 B : Nat) (S : Value) (evs : List ByteArray) (n : Nat) (h : LogAt w b0 B S evs) (h1 : 1 ≤ n) (h2 : n ≤ evs.length) (hn : evs.length ≤ 65535) (hs : ∀ s ∈ evs, s.size ≤ 255) :
    Calls Try.prog 36 #[.pointer (some ⟨B, 0, none⟩), .int .i64 n] w fun e w' => ∃ v', e = .returned (.tuple #[v', .int .i64 0]) ∧ w'.ownsRow w.heap.size 5 1 v' (commitB (evs.take n)).length (bytes8 (commitB (evs.take n))) ∧ Below w.heap.size w w' := by
  have hl : (evs.take n).length = n := by rw [List.length_take]; omega
  have HM : Hid (commitB (evs.take n) = encM 1 0 n (dig (evs.take n) (dep n) 0) []) := by show commitB _ = _; unfold commitB; rw [hl]
  have hV := treeV_node (evs.take n) (dep n) 0
  have hd := dig_bd (evs.take n) (dep n) 0
  clear hl
  generalize dig (evs.take n) (dep n) 0 = g at hV hd HM
  go_enter Try.func36, Try.ntmps36
  go_wp2_with fail
  refine (check_ok _ _ _ _ _ n h (by omega) (by omega)).mono ?_
  rintro e w' ⟨rfl, rfl⟩
  go_wp2_with fail
  refine (version_any _ _ _ _ _ n _ rfl h h1 h2 hn hs).mono ?_
  rintro e w1 ⟨rfl, hb1⟩
  have hs1 := hb1.size
  rcases digest_call hV with ⟨x, y, z, hVe⟩ | ⟨x, y, z, hVe⟩ | ⟨x, y, z, u, hVe⟩
  all_goals rw [hVe]
  all_goals clear hVe hV
  all_goals go_wp2_with (first
    | (go_at_call 132; refine (leafDigest_any _ _ _ _ _).mono ?_; rintro e w' ⟨rfl, rfl⟩)
    | (go_at_call 137; refine (aloneDigest_any _ _ _ _ _).mono ?_; rintro e w' ⟨rfl, rfl⟩)
    | (go_at_call 143; refine (twoDigest_any _ _ _ _ _ _).mono ?_; rintro e w' ⟨rfl, rfl⟩))
  all_goals refine (wireMessage_any 1 0 n g _ [] _ ⟨none, 0, rfl, fun _ => rfl, fun hl => (by simp at hl)⟩ ⟨by omega, by omega, by omega, hd, by simp, fun x hx => (by cases hx)⟩ (by omega)).mono ?_
  all_goals rintro e w3 ⟨v3, rfl, hO3, hb3⟩
  all_goals rw [← HM.out] at hO3
  all_goals go_wp2
  all_goals go_ret2
  all_goals exact ⟨_, rfl, owns_base hO3 (by simp; omega), ((hb1.alloc hs1 _).alloc (by simp; omega) _).trans (hb3.mono (by simp; omega))⟩
end Go.Proofs.Ytlndinigbppafaa
