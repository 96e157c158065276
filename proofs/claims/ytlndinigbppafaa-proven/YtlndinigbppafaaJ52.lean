/-
  Texts of ours, joined: LogB, ChM, CanE, RefA, RefB, LogD, LwA, Dec, ScanA, LwB, LwC.
-/
import Derived.Test.YtlndinigbppafaaLogA
import Derived.LaidEql
import Derived.Test.YtlndinigbppafaaJ41
import Derived.Test.YtlndinigbppafaaJ46
import Derived.BigQuiet
import Derived.Lib.BufferWrite
import Derived.Lib.UnsafeStr
import Derived.Laws.MakeOwn
import Derived.Deep.RegionLaw
import Derived.Deep.AppendLies
import Derived.Handy
import Derived.OneCell
import Derived.StillTailTactics
/-
  The walks of the program's log: what is read of it.
-/
namespace Go.Proofs.Ytlndinigbppafaa
open Go.RowKit

/-- Strings as cells. -/
def strs8 (evs : List ByteArray) : List Value := evs.map Value.string
/-- A log that NewLog made, with these events: its own block, its row of events. -/
def LogAt (w : World) (b0 B : Nat) (S : Value) (evs : List ByteArray) : Prop :=
  b0 ≤ B ∧ w.heap[B]? = some (.cells #[.pointer (some ⟨B, 0, none⟩), S] 88 (0, 0)) ∧ w.ownsRow b0 9 1 S evs.length (strs8 evs)

theorem LogAt.below {w w' : World} {b0 B : Nat} {S : Value} {evs : List ByteArray} (h : LogAt w b0 B S evs) (hb : Below w.heap.size w w') : LogAt w' b0 B S evs := by
  obtain ⟨h0, h1, h2⟩ := h
  exact ⟨h0, by rw [hb.block B (lt_of_heap h1)]; exact h1, owns_below h2 hb⟩
theorem LogAt.made {w : World} {b0 B : Nat} {S : Value} {evs : List ByteArray} (h : LogAt w b0 B S evs) : w.cell? ⟨B, 0, none⟩ = some (.pointer (some ⟨B, 0, none⟩)) := by
  rw [cell_of_row _ _ _ _ _ _ h.2.1]; rfl
theorem LogAt.evs {w : World} {b0 B : Nat} {S : Value} {evs : List ByteArray} (h : LogAt w b0 B S evs) : w.cell? ⟨B, 1, none⟩ = some S := by
  rw [cell_of_row _ _ _ _ _ _ h.2.1]; rfl
/-- Its events, and the first n of them. -/
theorem LogAt.slice {w : World} {b0 B : Nat} {S : Value} {evs : List ByteArray} (h : LogAt w b0 B S evs) : ∃ ao cap, S = .slice ao evs.length cap ∧ evs.length ≤ cap ∧ cap ≤ maxLen ∧ ∀ n, n ≤ evs.length → StringsAt w (.slice ao n cap) (evs.take n) := by
  obtain ⟨_, _, h2, h3⟩ := h
  rcases h3 with ⟨rfl, h0⟩ | ⟨g, cap, cur, rfl, _, hgg, hle, hmax, _, htake⟩
  · refine ⟨none, 0, by rw [h0], by omega, by decide, fun n hn => ⟨none, 0, by rw [List.length_take]; congr 1; omega, fun hl => ?_⟩⟩
    rw [List.length_take] at hl; omega
  · refine ⟨_, cap, rfl, hle, hmax, fun n hn => ⟨_, cap, by rw [List.length_take]; congr 1; omega, fun _ => ⟨g, 0, rfl, lt_of_heap hgg, fun j hj => ?_⟩⟩⟩
    rw [List.length_take] at hj
    rw [cell_of_row _ _ _ _ _ _ hgg, Nat.zero_add]
    have h1 : (strs8 evs)[j]? = some (.string evs[j]) := by simp [strs8, show j < evs.length by omega]
    rw [← htake, List.getElem?_take, if_pos (by omega)] at h1
    simpa using h1

theorem Try.infoLog : (Try.prog.info? 88).map (fun i => i.size) = some 2 := by kernel_rfl
theorem same_ptr (d : Nat) (w : World) (a : Addr) : (Op.equalIn (d + 1) 48 (.pointer (some a)) (.pointer (some a))).run Try.prog w = .ok true w := by
  obtain ⟨i, hi, _⟩ : ∃ i, Try.prog.info? 88 = some i ∧ i.size = 2 := by
    have h := Try.infoLog
    cases e : Try.prog.info? 88 with
    | none => rw [e] at h; cases h
    | some i => rw [e] at h; exact ⟨i, rfl, by simpa using h⟩
  simp [Op.equalIn, run_underlying Try.underlying48, sizeOf, typeInfo, hi, run_sameAddr_same]
theorem neq_self (w : World) (a : Addr) : (binOp .neq 48 (.pointer (some a)) (.pointer (some a))).run Try.prog w = .ok (.bool false) w := by
  have h : (Op.equal 48 (.pointer (some a)) (.pointer (some a))).run Try.prog w = .ok true w := same_ptr 9999 w a
  simp only [binOp]
  simp [h]

set_option maxRecDepth 100000 in
set_option maxHeartbeats 400000 in
theorem closed_any (w : World) (b0 B : Nat) (S : Value) (evs : List ByteArray) (h : LogAt w b0 B S evs) :
    Calls Try.prog 54 #[.pointer (some ⟨B, 0, none⟩)] w fun e w' => e = .returned (.bool false) ∧ w' = w := by
  have hm := h.made
  have hne := neq_self w ⟨B, 0, none⟩
  go_enter Try.func54, Try.ntmps54
  go_wp2
  go_ret
  exact ⟨rfl, rfl⟩

set_option maxRecDepth 100000 in
set_option maxHeartbeats 400000 in
theorem len_log (w : World) (b0 B : Nat) (S : Value) (evs : List ByteArray) (h : LogAt w b0 B S evs) :
    Calls Try.prog 38 #[.pointer (some ⟨B, 0, none⟩)] w fun e w' => e = .returned (.int .i64 evs.length) ∧ w' = w := by
  have hm := h.evs
  obtain ⟨ao, cap, rfl, hc, _⟩ := h.slice
  go_enter Try.func38, Try.ntmps38
  go_wp2_with (go_at_call 54; refine (closed_any _ _ _ _ _ h).mono ?_; rintro e w' ⟨rfl, rfl⟩)
  go_ret
  exact ⟨rfl, rfl⟩

set_option maxRecDepth 100000 in
set_option maxHeartbeats 400000 in
theorem check_ok (w : World) (b0 B : Nat) (S : Value) (evs : List ByteArray) (n : Int) (h : LogAt w b0 B S evs) (h1 : 1 ≤ n) (h2 : n ≤ evs.length) :
    Calls Try.prog 42 #[.pointer (some ⟨B, 0, none⟩), .int .i64 n] w fun e w' => e = .returned (.int .i64 0) ∧ w' = w := by
  have hm := h.evs
  obtain ⟨ao, cap, rfl, hc, _⟩ := h.slice
  go_enter Try.func42, Try.ntmps42
  go_wp2_with (go_at_call 54; refine (closed_any _ _ _ _ _ h).mono ?_; rintro e w' ⟨rfl, rfl⟩)
  go_ret
  exact ⟨rfl, rfl⟩

set_option maxRecDepth 100000 in
set_option maxHeartbeats 400000 in
theorem check_no (w : World) (b0 B : Nat) (S : Value) (evs : List ByteArray) (n : Int) (h : LogAt w b0 B S evs) (h1 : n < 1 ∨ (evs.length : Int) < n) :
    Calls Try.prog 42 #[.pointer (some ⟨B, 0, none⟩), .int .i64 n] w fun e w' => e = .returned (.int .i64 1) ∧ w' = w := by
  have hm := h.evs
  obtain ⟨ao, cap, rfl, hc, _⟩ := h.slice
  by_cases hn : n < 1
  · go_enter Try.func42, Try.ntmps42
    go_wp2_with (go_at_call 54; refine (closed_any _ _ _ _ _ h).mono ?_; rintro e w' ⟨rfl, rfl⟩)
    go_ret
    exact ⟨rfl, rfl⟩
  · have hn2 : (evs.length : Int) < n := by omega
    have hn3 : 1 ≤ n := by omega
    go_enter Try.func42, Try.ntmps42
    go_wp2_with (go_at_call 54; refine (closed_any _ _ _ _ _ h).mono ?_; rintro e w' ⟨rfl, rfl⟩)
    go_ret
    exact ⟨rfl, rfl⟩

set_option maxRecDepth 100000 in
set_option maxHeartbeats 400000 in
theorem version_any (w : World) (b0 B : Nat) (S : Value) (evs : List ByteArray) (n : Nat) (N : Int) (eN : N = n) (h : LogAt w b0 B S evs) (h1 : 1 ≤ n) (h2 : n ≤ evs.length) (hn : evs.length ≤ 65535) (hs : ∀ s ∈ evs, s.size ≤ 255) :
    Calls Try.prog 44 #[.pointer (some ⟨B, 0, none⟩), .int .i64 N] w fun e w' => e = .returned (treeV (evs.take n) (dep n) 0) ∧ Below w.heap.size w w' := by
  subst eN
  have hm := h.evs
  obtain ⟨ao, cap, rfl, hc, hmax, hS⟩ := h.slice
  have hv := hS n h2
  have hnc : (n : Int) ≤ (cap : Int) := by omega
  have hl : (evs.take n).length = n := by rw [List.length_take]; omega
  clear hS
  go_enter Try.func44, Try.ntmps44
  go_wp2_with fail
  refine (Build_any (evs.take n) _ _ (by omega) (by omega) (fun s hm => by have := hs s (List.mem_of_mem_take hm); omega) hv).mono ?_
  rintro e w1 ⟨rfl, hb⟩
  rw [hl]
  go_wp2
  go_ret
  exact ⟨rfl, hb⟩
end Go.Proofs.Ytlndinigbppafaa

/-
  The walks of the program's log: Root, Commitment, Member, Growth.
-/
namespace Go.Proofs.Ytlndinigbppafaa
open Go.RowKit

theorem take_small {evs : List ByteArray} {n m : Nat} (hs : ∀ s ∈ evs, s.size ≤ m) : ∀ s ∈ evs.take n, s.size ≤ m := fun s h => hs s (List.mem_of_mem_take h)

set_option maxRecDepth 100000 in
set_option maxHeartbeats 400000 in
theorem root_no (w : World) (b0 B : Nat) (S : Value) (evs : List ByteArray) (n : Int) (h : LogAt w b0 B S evs) (hn : n < 1 ∨ (evs.length : Int) < n) :
    Calls Try.prog 25 #[.pointer (some ⟨B, 0, none⟩), .int .i64 n] w fun e w' => e = .returned (.tuple #[.int .i64 0, .int .i64 1]) ∧ w' = w := by
  go_enter Try.func25, Try.ntmps25
  go_wp2_with (go_at_call 42; refine (check_no _ _ _ _ _ _ h hn).mono ?_; rintro e w' ⟨rfl, rfl⟩)
  go_ret2
  exact ⟨rfl, rfl⟩

set_option maxRecDepth 100000 in
set_option maxHeartbeats 1000000 in
theorem root_ok (w : World) (b0 B : Nat) (S : Value) (evs : List ByteArray) (n : Nat) (h : LogAt w b0 B S evs) (h1 : 1 ≤ n) (h2 : n ≤ evs.length) (hn : evs.length ≤ 65535) (hs : ∀ s ∈ evs, s.size ≤ 255) :
    Calls Try.prog 25 #[.pointer (some ⟨B, 0, none⟩), .int .i64 n] w fun e w' => e = .returned (.tuple #[.int .i64 (dig (evs.take n) (dep n) 0), .int .i64 0]) ∧ Below w.heap.size w w' := by
  have hV := treeV_node (evs.take n) (dep n) 0
  generalize dig (evs.take n) (dep n) 0 = g at hV ⊢
  go_enter Try.func25, Try.ntmps25
  go_wp2_with fail
  refine (check_ok _ _ _ _ _ n h (by omega) (by omega)).mono ?_
  rintro e w' ⟨rfl, rfl⟩
  go_wp2_with fail
  refine (version_any _ _ _ _ _ n _ rfl h h1 h2 hn hs).mono ?_
  rintro e w1 ⟨rfl, hb1⟩
  rcases digest_call hV with ⟨x, y, z, hVe⟩ | ⟨x, y, z, hVe⟩ | ⟨x, y, z, u, hVe⟩
  all_goals rw [hVe]
  all_goals clear hVe hV
  all_goals go_wp2_with (first
    | (go_at_call 132; refine (leafDigest_any _ _ _ _ _).mono ?_; rintro e w' ⟨rfl, rfl⟩)
    | (go_at_call 137; refine (aloneDigest_any _ _ _ _ _).mono ?_; rintro e w' ⟨rfl, rfl⟩)
    | (go_at_call 143; refine (twoDigest_any _ _ _ _ _ _).mono ?_; rintro e w' ⟨rfl, rfl⟩))
  all_goals go_ret2
  all_goals exact ⟨rfl, hb1.alloc hb1.size _⟩

set_option maxRecDepth 100000 in
set_option maxHeartbeats 400000 in
theorem commit_no (w : World) (b0 B : Nat) (S : Value) (evs : List ByteArray) (n : Int) (h : LogAt w b0 B S evs) (hn : n < 1 ∨ (evs.length : Int) < n) :
    Calls Try.prog 36 #[.pointer (some ⟨B, 0, none⟩), .int .i64 n] w fun e w' => e = .returned (.tuple #[.slice none 0 0, .int .i64 1]) ∧ w' = w := by
  go_enter Try.func36, Try.ntmps36
  go_wp2_with (go_at_call 42; refine (check_no _ _ _ _ _ _ h hn).mono ?_; rintro e w' ⟨rfl, rfl⟩)
  go_ret2
  exact ⟨rfl, rfl⟩
set_option maxRecDepth 100000 in
set_option maxHeartbeats 400000 in
theorem member_no (w : World) (b0 B : Nat) (S : Value) (evs : List ByteArray) (i n : Int) (h : LogAt w b0 B S evs) (hn : n < 1 ∨ (evs.length : Int) < n) :
    Calls Try.prog 23 #[.pointer (some ⟨B, 0, none⟩), .int .i64 i, .int .i64 n] w fun e w' => e = .returned (.tuple #[.slice none 0 0, .int .i64 1]) ∧ w' = w := by
  go_enter Try.func23, Try.ntmps23
  go_wp2_with (go_at_call 42; refine (check_no _ _ _ _ _ _ h hn).mono ?_; rintro e w' ⟨rfl, rfl⟩)
  go_ret2
  exact ⟨rfl, rfl⟩
set_option maxRecDepth 100000 in
set_option maxHeartbeats 400000 in
theorem growth_no (w : World) (b0 B : Nat) (S : Value) (evs : List ByteArray) (m n : Int) (h : LogAt w b0 B S evs) (hn : n < 1 ∨ (evs.length : Int) < n) :
    Calls Try.prog 22 #[.pointer (some ⟨B, 0, none⟩), .int .i64 m, .int .i64 n] w fun e w' => e = .returned (.tuple #[.slice none 0 0, .int .i64 1]) ∧ w' = w := by
  go_enter Try.func22, Try.ntmps22
  go_wp2_with (go_at_call 42; refine (check_no _ _ _ _ _ _ h hn).mono ?_; rintro e w' ⟨rfl, rfl⟩)
  go_ret2
  exact ⟨rfl, rfl⟩
set_option maxRecDepth 100000 in
set_option maxHeartbeats 400000 in
theorem member_no2 (w : World) (b0 B : Nat) (S : Value) (evs : List ByteArray) (i n : Int) (h : LogAt w b0 B S evs) (h1 : 1 ≤ n) (h2 : n ≤ evs.length) (hi : i < 0 ∨ n ≤ i) :
    Calls Try.prog 23 #[.pointer (some ⟨B, 0, none⟩), .int .i64 i, .int .i64 n] w fun e w' => e = .returned (.tuple #[.slice none 0 0, .int .i64 1]) ∧ w' = w := by
  by_cases hi0 : i < 0
  · go_enter Try.func23, Try.ntmps23
    go_wp2_with (go_at_call 42; refine (check_ok _ _ _ _ _ _ h h1 h2).mono ?_; rintro e w' ⟨rfl, rfl⟩)
    go_ret2
    exact ⟨rfl, rfl⟩
  · have hi1 : n ≤ i := by omega
    have hi2 : 0 ≤ i := by omega
    go_enter Try.func23, Try.ntmps23
    go_wp2_with (go_at_call 42; refine (check_ok _ _ _ _ _ _ h h1 h2).mono ?_; rintro e w' ⟨rfl, rfl⟩)
    go_ret2
    exact ⟨rfl, rfl⟩
set_option maxRecDepth 100000 in
set_option maxHeartbeats 400000 in
theorem growth_no2 (w : World) (b0 B : Nat) (S : Value) (evs : List ByteArray) (m n : Int) (h : LogAt w b0 B S evs) (h1 : 1 ≤ n) (h2 : n ≤ evs.length) (hi : m < 1 ∨ n < m) :
    Calls Try.prog 22 #[.pointer (some ⟨B, 0, none⟩), .int .i64 m, .int .i64 n] w fun e w' => e = .returned (.tuple #[.slice none 0 0, .int .i64 1]) ∧ w' = w := by
  by_cases hi0 : m < 1
  · go_enter Try.func22, Try.ntmps22
    go_wp2_with (go_at_call 42; refine (check_ok _ _ _ _ _ _ h h1 h2).mono ?_; rintro e w' ⟨rfl, rfl⟩)
    go_ret2
    exact ⟨rfl, rfl⟩
  · have hi1 : n < m := by omega
    have hi2 : 1 ≤ m := by omega
    go_enter Try.func22, Try.ntmps22
    go_wp2_with (go_at_call 42; refine (check_ok _ _ _ _ _ _ h h1 h2).mono ?_; rintro e w' ⟨rfl, rfl⟩)
    go_ret2
    exact ⟨rfl, rfl⟩

set_option maxRecDepth 100000 in
set_option maxHeartbeats 1000000 in
theorem member_ok (w : World) (b0 B : Nat) (S : Value) (evs : List ByteArray) (i : Int) (n : Nat) (h : LogAt w b0 B S evs) (h1 : 1 ≤ n) (h2 : n ≤ evs.length) (hi0 : 0 ≤ i) (hi1 : i < n) (hn : evs.length ≤ 65535) (hs : ∀ s ∈ evs, s.size ≤ 255) :
    Calls Try.prog 23 #[.pointer (some ⟨B, 0, none⟩), .int .i64 i, .int .i64 n] w fun e w' => ∃ v', e = .returned (.tuple #[v', .int .i64 0]) ∧ w'.ownsRow w.heap.size 5 1 v' (memberB (evs.take n) i).length (bytes8 (memberB (evs.take n) i)) ∧ Below w.heap.size w w' := by
  have hl : (evs.take n).length = n := by rw [List.length_take]; omega
  have hP := prunes_tree (evs.take n) (dep n) (dep_le _ 16 (by rw [pw_16]; omega)) 0 (by have : pw (dep n) ≤ 65536 := pw_le (e := 16) (dep_le _ 16 (by rw [pw_16]; omega)); omega)
  have HP : Hid (Prunes (treeV (evs.take n) (dep n) 0) (fun f => pruneN (evs.take n) f (dep (evs.take n).length) 0)) := by rw [hl]; exact hP
  clear hP
  have HL : Hid ((evs.take n).length = n) := hl
  clear hl
  go_enter Try.func23, Try.ntmps23
  go_wp2_with fail
  refine (check_ok _ _ _ _ _ n h (by omega) (by omega)).mono ?_
  rintro e w' ⟨rfl, rfl⟩
  go_wp2_with fail
  refine (version_any _ _ _ _ _ n _ rfl h h1 h2 hn hs).mono ?_
  rintro e w1 ⟨rfl, hb1⟩
  go_wp2_with fail
  refine (member_any (evs.take n) _ i n _ HP.out ⟨hi0, by omega⟩ (by rw [HL.out]) (by rw [HL.out]; omega) (take_small hs)).mono ?_
  rintro e w2 ⟨v2, rfl, hO2, hb2⟩
  go_wp2
  go_ret2
  exact ⟨_, rfl, owns_base hO2 hb1.size, hb1.trans (hb2.mono hb1.size)⟩

set_option maxRecDepth 100000 in
set_option maxHeartbeats 1000000 in
theorem growth_ok (w : World) (b0 B : Nat) (S : Value) (evs : List ByteArray) (m : Int) (n : Nat) (h : LogAt w b0 B S evs) (h1 : 1 ≤ n) (h2 : n ≤ evs.length) (hi0 : 1 ≤ m) (hi1 : m ≤ n) (hn : evs.length ≤ 65535) (hs : ∀ s ∈ evs, s.size ≤ 255) :
    Calls Try.prog 22 #[.pointer (some ⟨B, 0, none⟩), .int .i64 m, .int .i64 n] w fun e w' => ∃ v', e = .returned (.tuple #[v', .int .i64 0]) ∧ w'.ownsRow w.heap.size 5 1 v' (growthB (evs.take n) m).length (bytes8 (growthB (evs.take n) m)) ∧ Below w.heap.size w w' := by
  have hl : (evs.take n).length = n := by rw [List.length_take]; omega
  have hP := prunes_tree (evs.take n) (dep n) (dep_le _ 16 (by rw [pw_16]; omega)) 0 (by have : pw (dep n) ≤ 65536 := pw_le (e := 16) (dep_le _ 16 (by rw [pw_16]; omega)); omega)
  have HP : Hid (Prunes (treeV (evs.take n) (dep n) 0) (fun f => pruneN (evs.take n) f (dep (evs.take n).length) 0)) := by rw [hl]; exact hP
  have HV : Hid (NodeV (dig (evs.take n) (dep (evs.take n).length) 0) (treeV (evs.take n) (dep n) 0)) := by rw [hl]; exact treeV_node _ _ _
  clear hP
  have HL : Hid ((evs.take n).length = n) := hl
  clear hl
  go_enter Try.func22, Try.ntmps22
  go_wp2_with fail
  refine (check_ok _ _ _ _ _ n h (by omega) (by omega)).mono ?_
  rintro e w' ⟨rfl, rfl⟩
  go_wp2_with fail
  refine (version_any _ _ _ _ _ n _ rfl h h1 h2 hn hs).mono ?_
  rintro e w1 ⟨rfl, hb1⟩
  go_wp2_with fail
  refine (growth_any (evs.take n) _ m n _ HP.out HV.out ⟨by omega, by omega⟩ (by rw [HL.out]) (by rw [HL.out]; omega) (take_small hs)).mono ?_
  rintro e w2 ⟨v2, rfl, hO2, hb2⟩
  go_wp2
  go_ret2
  exact ⟨_, rfl, owns_base hO2 hb1.size, hb1.trans (hb2.mono hb1.size)⟩

set_option maxRecDepth 100000 in
set_option maxHeartbeats 1000000 in
theorem commit_ok (w : World) (b0 B : Nat) (S : Value) (evs : List ByteArray) (n : Nat) (h : LogAt w b0 B S evs) (h1 : 1 ≤ n) (h2 : n ≤ evs.length) (hn : evs.length ≤ 65535) (hs : ∀ s ∈ evs, s.size ≤ 255) :
    Calls Try.prog 36 #[.pointer (some ⟨B, 0, none⟩), .int .i64 n] w fun e w' => ∃ v', e = .returned (.tuple #[v', .int .i64 0]) ∧ w'.ownsRow w.heap.size 5 1 v' (commitB (evs.take n)).length (bytes8 (commitB (evs.take n))) ∧ Below w.heap.size w w' := by
  have hl : (evs.take n).length = n := by rw [List.length_take]; omega
  have HM : Hid (commitB (evs.take n) = encM 1 0 n (dig (evs.take n) (dep n) 0) []) := by show commitB _ = _; unfold commitB; rw [hl]
  have hV := treeV_node (evs.take n) (dep n) 0
  have hd := dig_bd (evs.take n) (dep n) 0
  clear hl
  generalize dig (evs.take n) (dep n) 0 = g at hV hd HM
  go_enter Try.func36, Try.ntmps36
  go_wp2_with fail
  refine (check_ok _ _ _ _ _ n h (by omega) (by omega)).mono ?_
  rintro e w' ⟨rfl, rfl⟩
  go_wp2_with fail
  refine (version_any _ _ _ _ _ n _ rfl h h1 h2 hn hs).mono ?_
  rintro e w1 ⟨rfl, hb1⟩
  have hs1 := hb1.size
  rcases digest_call hV with ⟨x, y, z, hVe⟩ | ⟨x, y, z, hVe⟩ | ⟨x, y, z, u, hVe⟩
  all_goals rw [hVe]
  all_goals clear hVe hV
  all_goals go_wp2_with (first
    | (go_at_call 132; refine (leafDigest_any _ _ _ _ _).mono ?_; rintro e w' ⟨rfl, rfl⟩)
    | (go_at_call 137; refine (aloneDigest_any _ _ _ _ _).mono ?_; rintro e w' ⟨rfl, rfl⟩)
    | (go_at_call 143; refine (twoDigest_any _ _ _ _ _ _).mono ?_; rintro e w' ⟨rfl, rfl⟩))
  all_goals refine (wireMessage_any 1 0 n g _ [] _ ⟨none, 0, rfl, fun _ => rfl, fun hl => (by simp at hl)⟩ ⟨by omega, by omega, by omega, hd, by simp, fun x hx => (by cases hx)⟩ (by omega)).mono ?_
  all_goals rintro e w3 ⟨v3, rfl, hO3, hb3⟩
  all_goals rw [← HM.out] at hO3
  all_goals go_wp2
  all_goals go_ret2
  all_goals exact ⟨_, rfl, owns_base hO3 (by simp; omega), ((hb1.alloc hs1 _).alloc (by simp; omega) _).trans (hb3.mono (by simp; omega))⟩
end Go.Proofs.Ytlndinigbppafaa

/-
  The call of member in company: from its contract in the lone walk (text LogA).
-/
namespace Go.Proofs.Ytlndinigbppafaa
open Go.Sim Go.Conc

theorem treeV_vr (evs : List ByteArray) (R : BR) : ∀ d p, VR Try.prog R (treeV evs d p) (treeV evs d p)
  | 0, p => by
    unfold treeV
    refine .iface _ (by rw [Try.types_size]; decide) (.agg rfl ?_)
    exact ((((VRs.nil.push (.int _ _)).push (.int _ _)).push (.int _ _)).push (.string _)).2
  | d + 1, p => by
    unfold treeV
    split
    · refine .iface _ (by rw [Try.types_size]; decide) (.agg rfl ?_)
      exact (((((VRs.nil.push (.int _ _)).push (.int _ _)).push (.int _ _)).push (treeV_vr evs R d p)).push (treeV_vr evs R d (p + pw d))).2
    · refine .iface _ (by rw [Try.types_size]; decide) (.agg rfl ?_)
      exact ((((VRs.nil.push (.int _ _)).push (.int _ _)).push (.int _ _)).push (treeV_vr evs R d p)).2

/-- A row of bytes, whosever. -/
def RowB (l : List UInt8) (V : Value) (W : World) : Prop := W.ownsRow 0 5 1 V l.length (bytes8 l)

theorem RowB.tp {l : List UInt8} {v : Value} {w : World} (τ : Nat → Question → Nat) (h : RowB l v w) : RowB l v (w.tp τ) := h

theorem take_vr {R : BR} {x X : Array Value} (h : VRs Try.prog R x X) {l : List UInt8} {n : Nat} (e : x.toList.take n = bytes8 l) : X.toList.take n = bytes8 l := by
  rw [← e]
  apply List.ext_getElem?
  intro j
  rw [List.getElem?_take, List.getElem?_take]
  split
  · rename_i hj
    rw [Array.getElem?_toList, Array.getElem?_toList]
    cases hx : x[j]? with
    | none =>
      have := h.1
      rw [Array.getElem?_eq_none_iff] at hx ⊢
      omega
    | some v =>
      obtain ⟨V, hV, hv⟩ := h.get hx
      have hm : (x.toList.take n)[j]? = some v := by rw [List.getElem?_take, if_pos hj, Array.getElem?_toList, hx]
      rw [e] at hm
      unfold bytes8 at hm
      rw [List.getElem?_map, Option.map_eq_some_iff] at hm
      obtain ⟨b, _, rfl⟩ := hm
      cases hv
      exact hV
  · rfl

theorem postB {l : List UInt8} {R : BR} {O : Nat → Prop} {v V : Value} {w W : World} (hv : VR Try.prog R v V) (hw : WR Try.prog NoShd R w W) (h : RowB l v w) (hO : ∀ b B, R b B → O B) : PostAt (RowB l) O V W := by
  intro W' hW
  obtain ⟨h1, h2⟩ := h
  refine ⟨h1, ?_⟩
  rcases h2 with ⟨rfl, hn⟩ | ⟨g, cap, cur, rfl, _, hg, hn, hc, hs, ht⟩
  · cases hv
    exact .inl ⟨rfl, hn⟩
  · cases hv with
    | slice _ _ ha =>
      rename_i A
      obtain ⟨hR, ho, _, hsp⟩ := ha
      obtain ⟨o, O', e1, e2, hor⟩ := hw.dom _ _ hR
      rw [hg] at e1
      cases e1
      cases hor with
      | @cells _ C t _ Fz hvs hfz _ =>
        have hF := hfz (fun x => x)
        subst hF
        refine .inr ⟨A.block, cap, C, ?_, Nat.zero_le _, ?_, hn, hc, by rw [← hvs.1]; exact hs, take_vr hvs ht⟩
        · obtain ⟨b, o, sp⟩ := A
          simp only at ho hsp
          rw [← ho, hsp]
        · rw [hW _ (hO _ _ hR)]; exact e2

/-- Such a row, in plain data. -/
def RowP (l : List UInt8) (V : Value) (W : World) : Prop := RowB l V W ∧ ∃ D, Vs D V ∧ Pl D W
theorem postP {l : List UInt8} {R : BR} {O : Nat → Prop} {v V : Value} {w W : World} (hv : VR Try.prog R v V) (hw : WR Try.prog NoShd R w W) (h : RowB l v w) (hO : ∀ b B, R b B → O B) : PostAt (RowP l) O V W :=
  fun W' hW => ⟨postB hv hw h hO W' hW, ranR R, vr_ran hv, pl_ran hw fun b B hb => hW B (hO b B hb)⟩

theorem memberC_tree (evs : List ByteArray) (i : Nat) (hi : i ≤ 65535) (hn : evs.length ≤ 65535) (hs : ∀ s ∈ evs, s.size ≤ 255) (bc bv bi bn c : Nat) :
    MemberC bc bv bi bn c (treeV evs (dep evs.length) 0) i evs.length (RowP (memberB evs i)) := by
  have hd : dep evs.length ≤ 16 := dep_le _ 16 (by rw [pw_16]; omega)
  have hp := prunes_tree evs (dep evs.length) hd 0 (by have := pw_le hd; rw [pw_16] at this; omega)
  refine memberC_of zeroOK bodiesOK (Q := RowB (memberB evs i)) (fun R => treeV_vr evs R _ _) (fun v w τ h => h.tp τ) (fun w _ => ?_) postP
  refine (member_any evs _ i evs.length w hp ⟨by omega, by omega⟩ rfl hn hs).mono fun e w' h => ?_
  obtain ⟨v', rfl, h1, _⟩ := h
  obtain ⟨a, b⟩ := h1
  refine ⟨a, b.imp id fun ⟨g, cap, cur, x1, x2, x3⟩ => ⟨g, cap, cur, x1, Nat.zero_le _, x3⟩⟩
end Go.Proofs.Ytlndinigbppafaa

/-
  Log.Proofs, called by goroutine 0 alone.
-/
namespace Go.Proofs.Ytlndinigbppafaa
open Go.Sim Go.Conc Go.Fi

def r24_0 : Array Oper :=
  #[{ dst := some 4, op := .assign (.const (.slice none 0 0)), type := 23, pos := "log.go:91", after := #[], guard := none },
    { dst := some 5, op := .assign (.const (.int .i64 0)), type := 52, pos := "log.go:91", after := #[{ on := 0, ground := .chain }], guard := none }]
def r24_1 : Array Oper :=
  #[{ dst := some 7, op := .move (.tmp 0), type := 48, pos := "log.go:92", after := #[], guard := none },
    { dst := some 8, op := .move (.tmp 1), type := 3, pos := "log.go:92", after := #[], guard := none },
    { dst := some 9, op := .call { callee := .value (.func 42), args := #[.tmp 7, .tmp 8], argTypes := #[48, 3] }, type := 52, pos := "log.go:92", after := #[{ on := 0, ground := .data }, { on := 1, ground := .data }], guard := none },
    { dst := some 6, op := .assign (.tmp 9), type := 52, pos := "log.go:92", after := #[{ on := 2, ground := .data }, { on := 2, ground := .chain }, { on := 0, ground := .phase }, { on := 1, ground := .phase }, { on := 2, ground := .phase }], guard := none }]
def r24_2 : Array Oper :=
  #[{ dst := some 10, op := .move (.tmp 6), type := 52, pos := "log.go:92", after := #[], guard := none },
    { dst := some 11, op := .binOp .neq 52 (.tmp 10) (.const (.int .i64 0)) 52, type := 4, pos := "log.go:92", after := #[{ on := 0, ground := .data }], guard := none }]
def r24_3 : Array Oper :=
  #[{ dst := some 12, op := .move (.tmp 6), type := 52, pos := "log.go:93", after := #[{ on := 1, ground := .gcOnly .lateStores }], guard := none },
    { dst := some 4, op := .assign (.const (.slice none 0 0)), type := 23, pos := "log.go:93", after := #[{ on := 0, ground := .textOnly .lateStores }], guard := none },
    { dst := some 5, op := .assign (.tmp 12), type := 52, pos := "log.go:93", after := #[{ on := 0, ground := .data }, { on := 1, ground := .chain }, { on := 0, ground := .phase }, { on := 1, ground := .phase }], guard := none }]
def r24_4 : Array Oper :=
  #[{ dst := some 13, op := .move (.tmp 0), type := 48, pos := "log.go:95", after := #[], guard := none },
    { dst := some 14, op := .move (.tmp 1), type := 3, pos := "log.go:95", after := #[], guard := none },
    { dst := some 15, op := .call { callee := .value (.func 44), args := #[.tmp 13, .tmp 14], argTypes := #[48, 3] }, type := 84, pos := "log.go:95", after := #[{ on := 0, ground := .data }, { on := 1, ground := .data }], guard := none },
    { dst := some 16, op := .move (.tmp 1), type := 3, pos := "log.go:95", after := #[], guard := none },
    { dst := some 17, op := .call { callee := .value (.func 46), args := #[.tmp 15, .tmp 16], argTypes := #[84, 3] }, type := 23, pos := "log.go:95", after := #[{ on := 2, ground := .data }, { on := 3, ground := .data }, { on := 2, ground := .chain }], guard := none },
    { dst := some 4, op := .assign (.tmp 17), type := 23, pos := "log.go:95", after := #[{ on := 4, ground := .data }, { on := 4, ground := .chain }, { on := 0, ground := .phase }, { on := 1, ground := .phase }, { on := 2, ground := .phase }, { on := 3, ground := .phase }, { on := 4, ground := .phase }], guard := none },
    { dst := some 5, op := .assign (.const (.int .i64 0)), type := 52, pos := "log.go:95", after := #[{ on := 5, ground := .chain }, { on := 0, ground := .phase }, { on := 1, ground := .phase }, { on := 2, ground := .phase }, { on := 3, ground := .phase }, { on := 4, ground := .phase }, { on := 5, ground := .phase }], guard := none }]
def c24 : Code := .seq (.region 0 r24_0 false) (.seq (.seq (.region 1 r24_1 false) (.seq (.region 2 r24_2 false) (.cond (.tmp 11) (.seq (.region 3 r24_3 false) .ret) .skip))) (.seq (.region 4 r24_4 false) .ret))
theorem body24 : Try.f24.body = some c24 := rfl

/-- What was there stands. -/
structure Bel (w w' : World) : Prop where
  os : w'.os = w.os
  output : w'.output = w.output
  size : w.heap.size ≤ w'.heap.size
  keep : ∀ b, b < w.heap.size → w'.heap[b]? = w.heap[b]?
theorem Bel.refl (w : World) : Bel w w := ⟨rfl, rfl, Nat.le_refl _, fun _ _ => rfl⟩
theorem Bel.trans {a b c : World} (h : Bel a b) (k : Bel b c) : Bel a c := ⟨k.os.trans h.os, k.output.trans h.output, Nat.le_trans h.size k.size, fun x hx => (k.keep x (Nat.lt_of_lt_of_le hx h.size)).trans (h.keep x hx)⟩
theorem Bel.tp {w w' : World} (h : Bel w w') (τ : Nat → Question → Nat) : Bel w (w'.tp τ) := ⟨h.os, h.output, h.size, h.keep⟩
theorem Bel.of {w w' : World} {τ : Nat → Question → Nat} (h : Go.RowKit.Below (w.tp τ).heap.size (w.tp τ) w') : Bel w w' := ⟨h.os, h.output, h.size, h.block⟩
theorem Sf.bel {D : Nat → Prop} {w w' : World} (h : Sf D w) (hb : Bel w w') : Sf D w' := h.keep hb.size hb.keep

theorem treeV_cells (evs : List ByteArray) (d p : Nat) : (treeV evs d p).cells = #[treeV evs d p] := by
  cases d with
  | zero => rfl
  | succ d => unfold treeV; split <;> rfl
theorem rowB_sl {l : List UInt8} {V : Value} {w : World} (h : RowB l V w) : Sl V := by
  obtain ⟨_, h2⟩ := h
  rcases h2 with ⟨rfl, _⟩ | ⟨g, cap, cur, rfl, _⟩
  · exact ⟨rfl, rfl⟩
  · exact ⟨rfl, rfl⟩

section
variable {Gl : Array Goroutine → World → Option (Nat × Nat) → Trace → Prop}
variable {k : List Item} {cs : List Frame} {ops : Array Oper} {i : Nat} {rest : List Nat} {b₀ : Frame} {a₀ : Act} {w : World}

theorem Can.logProofs {D : Nat → Prop} {b0 B n : Nat} {S : Value} {evs : List ByteArray} (hlog : LogAt w b0 B S evs) (h1 : 1 ≤ n) (h2 : n ≤ evs.length) (hn : evs.length ≤ 65535) (hs : ∀ s ∈ evs, s.size ≤ 255)
    (hlv : Vs D (.pointer (some ⟨B, 0, none⟩))) (hw : Sf D w)
    (hK : ∀ (D' : Nat → Prop) (w' : World) (ga : Nat) (vs : List Value), (∀ b, D b → D' b) → Sf D' w' → Vs D' (.slice (some ⟨ga, 0, none⟩) n n) → Bel w w' → vs.length = n → w.heap.size ≤ ga → w'.heap[ga]? = some (.cells vs.toArray 24) → (∀ (j : Nat) (V : Value), vs[j]? = some V → RowB (memberB (evs.take n) j) V w') →
      Can Gl n (G (b₀.at (a₀.put ((ops[i]?).bind (·.dst)) (.tuple #[.slice (some ⟨ga, 0, none⟩) n n, .int .i64 0])) (.inRegion ops rest :: k)) cs) w') :
    Can Gl 0 (G ((base 24).at (⟨#[.pointer (some ⟨B, 0, none⟩), .int .i64 n, undef, undef, undef, undef, undef, undef, undef, undef, undef, undef, undef, undef, undef, undef, undef, undef], []⟩ : Act) [.code c24]) (b₀.at a₀ (.inRegion ops (i :: rest) :: k) :: cs)) w := by
  generalize hl : Value.pointer (some ⟨B, 0, none⟩) = lv at hlv ⊢
  have hk : (base 24).kind ≠ .early := by intro h; cases h
  refine Can.seq (Can.region (a' := (⟨#[lv, .int .i64 n, undef, undef, .slice none 0 0, .int .i64 0, undef, undef, undef, undef, undef, undef, undef, undef, undef, undef, undef, undef], []⟩ : Act)) hk rfl ?_)
  refine Can.seq (Can.seq (Can.into (Can.pures (l := [0, 1]) (rest := [2, 3]) (a' := (⟨#[lv, .int .i64 n, undef, undef, .slice none 0 0, .int .i64 0, undef, lv, .int .i64 n, undef, undef, undef, undef, undef, undef, undef, undef, undef], []⟩ : Act)) hk rfl ?_)))
  refine Can.callS (o := r24_1[2]) (vs := [lv, .int .i64 n]) (Q := fun v w' => v = .int .i64 0 ∧ Bel w w') hk rfl rfl rfl Try.func42 (by simp [Try.f42, names]) rfl (by simp [Try.f42]) (by simp [Act.eval]) (fun v hv => ?_) hw (fun v w' τ q => ⟨q.1, q.2.tp τ⟩) (fun τ => ?_) ?_
  · simp at hv
    rcases hv with rfl | rfl
    · exact hlv
    · exact Vs.int _ _ _
  · show Calls _ _ #[lv, .int .i64 n] _ _
    rw [← hl]
    refine (check_ok (w.tp τ) b0 B S evs n hlog (by omega) (by omega)).mono fun e w' q => ?_
    obtain ⟨rfl, rfl⟩ := q
    exact ⟨rfl, rfl, rfl, Nat.le_refl _, fun _ _ => rfl⟩
  intro D1 v w1 s1 _ hw1 hq1
  obtain ⟨rfl, hb1⟩ := hq1
  show Can Gl 0 (G ((base 24).at (⟨#[lv, .int .i64 n, undef, undef, .slice none 0 0, .int .i64 0, undef, lv, .int .i64 n, .int .i64 0, undef, undef, undef, undef, undef, undef, undef, undef], []⟩ : Act) _) _) _
  refine Can.pures (l := [3]) (rest := []) (a' := (⟨#[lv, .int .i64 n, undef, undef, .slice none 0 0, .int .i64 0, .int .i64 0, lv, .int .i64 n, .int .i64 0, undef, undef, undef, undef, undef, undef, undef, undef], []⟩ : Act)) hk rfl (Can.out ?_)
  refine Can.seq (Can.region (a' := (⟨#[lv, .int .i64 n, undef, undef, .slice none 0 0, .int .i64 0, .int .i64 0, lv, .int .i64 n, .int .i64 0, .int .i64 0, .bool false, undef, undef, undef, undef, undef, undef], []⟩ : Act)) hk rfl ?_)
  refine Can.cond (t := false) rfl (Can.skip ?_)
  refine Can.seq (Can.into (Can.pures (l := [0, 1]) (rest := [2, 3, 4, 5, 6]) (a' := (⟨#[lv, .int .i64 n, undef, undef, .slice none 0 0, .int .i64 0, .int .i64 0, lv, .int .i64 n, .int .i64 0, .int .i64 0, .bool false, undef, lv, .int .i64 n, undef, undef, undef], []⟩ : Act)) hk rfl ?_))
  have hlog1 : LogAt w1 b0 B S evs := by
    have : LogAt (w1.tp w.tape) b0 B S evs := hlog.below ⟨hb1.os, rfl, hb1.output, hb1.size, hb1.keep⟩
    exact this
  refine Can.callS (o := r24_4[2]) (vs := [lv, .int .i64 n]) (Q := fun v w' => v = treeV (evs.take n) (dep n) 0 ∧ Bel w1 w') hk rfl rfl rfl Try.func44 (by simp [Try.f44, names]) rfl (by simp [Try.f44]) (by simp [Act.eval]) (fun v hv => ?_) hw1 (fun v w' τ q => ⟨q.1, q.2.tp τ⟩) (fun τ => ?_) ?_
  · simp at hv
    rcases hv with rfl | rfl
    · exact hlv.mono s1
    · exact Vs.int _ _ _
  · show Calls _ _ #[lv, .int .i64 n] _ _
    rw [← hl]
    refine (version_any (w1.tp τ) b0 B S evs n n rfl hlog1 h1 h2 hn hs).mono fun e w' q => ?_
    obtain ⟨rfl, q⟩ := q
    exact ⟨rfl, Bel.of q⟩
  intro D2 v w2 s2 _ hw2 hq2
  obtain ⟨rfl, hb2⟩ := hq2
  show Can Gl 0 (G ((base 24).at (⟨#[lv, .int .i64 n, undef, undef, .slice none 0 0, .int .i64 0, .int .i64 0, lv, .int .i64 n, .int .i64 0, .int .i64 0, .bool false, undef, lv, .int .i64 n, treeV (evs.take n) (dep n) 0, undef, undef], []⟩ : Act) _) _) _
  refine Can.pures (l := [3]) (rest := [4, 5, 6]) (a' := (⟨#[lv, .int .i64 n, undef, undef, .slice none 0 0, .int .i64 0, .int .i64 0, lv, .int .i64 n, .int .i64 0, .int .i64 0, .bool false, undef, lv, .int .i64 n, treeV (evs.take n) (dep n) 0, .int .i64 n, undef], []⟩ : Act)) hk rfl ?_
  refine Can.enter (o := r24_4[4]) hk rfl rfl rfl Try.func46 (by simp [Try.f46]) body46 ?_
  have e : (#[.tmp 15, .tmp 16] : Array Operand).map (⟨#[lv, .int .i64 n, undef, undef, .slice none 0 0, .int .i64 0, .int .i64 0, lv, .int .i64 n, .int .i64 0, .int .i64 0, .bool false, undef, lv, .int .i64 n, treeV (evs.take n) (dep n) 0, .int .i64 n, undef], []⟩ : Act).eval ++ Array.replicate (Try.f46.ntmps - ((#[.tmp 15, .tmp 16] : Array Operand).map (⟨#[lv, .int .i64 n, undef, undef, .slice none 0 0, .int .i64 0, .int .i64 0, lv, .int .i64 n, .int .i64 0, .int .i64 0, .bool false, undef, lv, .int .i64 n, treeV (evs.take n) (dep n) 0, .int .i64 n, undef], []⟩ : Act).eval).size) undef = #[treeV (evs.take n) (dep n) 0, .int .i64 n, undef, undef, undef, undef, undef, undef, undef, undef, undef, undef, undef, undef, undef, undef, undef, undef, undef, undef, undef, undef, undef, undef, undef, undef, undef, undef, undef, undef, undef, undef, undef, undef, undef, undef, undef, undef, undef, undef, undef, undef, undef, undef] := by
    simp [Act.eval, Try.f46]
  rw [e]
  have hlen : (evs.take n).length = n := by rw [List.length_take]; omega
  refine Can.proofs (Post := fun j => RowP (memberB (evs.take n) j)) (treeV_cells _ _ _) (by omega) hw2.glob.1 (fun _ _ _ q => rowB_sl q.1) (fun j bc bv bi bn c hj => ?_) fun w' ga vs a hB hd h4 => ?_
  · have := memberC_tree (evs.take n) j (by omega) (by omega) (take_small hs) bc bv bi bn c
    rw [hlen] at this
    exact this
  refine Can.leave1 rfl hd Try.func46 rfl ?_
  rw [h4]
  show Can Gl n (G ((base 24).at (⟨#[lv, .int .i64 n, undef, undef, .slice none 0 0, .int .i64 0, .int .i64 0, lv, .int .i64 n, .int .i64 0, .int .i64 0, .bool false, undef, lv, .int .i64 n, treeV (evs.take n) (dep n) 0, .int .i64 n, .slice (some ⟨ga, 0, none⟩) n n], []⟩ : Act) _) _) _
  refine Can.pures (l := [5, 6]) (rest := []) (a' := (⟨#[lv, .int .i64 n, undef, undef, .slice (some ⟨ga, 0, none⟩) n n, .int .i64 0, .int .i64 0, lv, .int .i64 n, .int .i64 0, .int .i64 0, .bool false, undef, lv, .int .i64 n, treeV (evs.take n) (dep n) 0, .int .i64 n, .slice (some ⟨ga, 0, none⟩) n n], []⟩ : Act)) hk rfl (Can.out (Can.ret ?_))
  refine Can.leave2 rfl rfl Try.func24 rfl ?_
  have sf1 := (hw2.keep hB.size hB.keep).plain
  have sf2 : Sf (fun b => (D2 b ∨ ∃ E, Pl E w' ∧ E b) ∨ b = ga) w' := by
    refine sf1.add (fun b hb => .inl hb) fun b hb => ?_
    rcases hb with hb | rfl
    · exact .inl hb
    · refine .inr ⟨Nat.le_trans hw2.glob.1 hB.new, _, _, _, hB.row, fun v hv => ?_⟩
      obtain ⟨j, hj, rfl⟩ := Array.mem_iff_getElem.1 hv
      obtain ⟨_, E, hE1, hE2⟩ := hB.post j _ (by rw [← List.getElem?_toArray]; exact Array.getElem?_eq_getElem hj)
      exact hE1.mono fun b hb => .inl (.inr ⟨E, hE2, hb⟩)
  exact hK _ w' ga vs (fun b hb => .inl (.inl (s2 b (s1 b hb)))) sf2 (.slice _ _ ⟨⟨rfl, .inr rfl⟩, rfl, rfl, rfl⟩) ((hb1.trans hb2).trans ⟨hB.os, hB.output, hB.size, hB.keep⟩) hB.len (Nat.le_trans (Nat.le_trans hb1.size hb2.size) hB.new) hB.row fun j V hj => (hB.post j V hj).1
end
end Go.Proofs.Ytlndinigbppafaa

/-
  The walks of the document's small functions: power, Depth, Two, kind.
-/
namespace Go.Proofs.Ytlndinigbppafaa
open Go.RowKit

set_option maxHeartbeats 400000 in
theorem power_any (d : Nat) (w : World) (hd : d ≤ 62) :
    Calls Try.prog 49 #[.int .i64 d] w fun e w' => e = .returned (.int .i64 (pw d)) ∧ w' = w := by
  go_enter Try.func49, Try.ntmps49
  go_wp2
  go_loop [0, 3] (fun i v => ∃ k : Nat, k ≤ d ∧ i = .int .i64 (d - k : Nat) ∧ v = .int .i64 (pw k)) (fun i _ => (intOf i).toNat)
  case atStart => exact ⟨0, Nat.zero_le _, by simp, rfl⟩
  case round =>
    obtain ⟨k, hk, rfl, rfl⟩ := hrel
    have HP : Hid (pw (k + 1) = 2 * pw k) := pw_succ k
    by_cases hlt : k < d
    · have hp2 : pw k ≤ 2305843009213693952 := pw_le (show k ≤ 61 by omega)
      go_wp2
      go_round
      case rel => exact ⟨k + 1, by omega, by go_num, by rw [HP.out]; go_num⟩
      case measure => simp [intOf]; omega
    · have : k = d := by omega
      subst this
      go_wp2
      go_ret
      exact ⟨rfl, rfl⟩

set_option maxHeartbeats 400000 in
theorem depth_any (n : Nat) (w : World) (hn : n ≤ 4611686018427387904) :
    Calls Try.prog 34 #[.int .i64 n] w fun e w' => e = .returned (.int .i64 (dep n)) ∧ w' = w := by
  have hle := dep_le n 62 (by rw [pw_62]; exact hn)
  go_enter Try.func34, Try.ntmps34
  go_wp2
  go_loop [3] (fun i => ∃ k : Nat, k ≤ dep n ∧ i = .int .i64 k) (fun i => dep n - (intOf i).toNat)
  case atStart => exact ⟨0, Nat.zero_le _, rfl⟩
  case round =>
    obtain ⟨k, hk, rfl⟩ := hrel
    by_cases hlt : k < dep n
    · have h2 := dep_least n k hlt
      go_wp2_with (go_at_call 49; refine (power_any k _ (by omega)).mono ?_; rintro e w' ⟨rfl, rfl⟩)
      go_round
      case rel => exact ⟨k + 1, by omega, by go_num⟩
      case measure => simp [intOf]; omega
    · have he : k = dep n := by omega
      have h1 := dep_spec n
      rw [← he] at h1
      have HE : Hid (k = dep n) := he
      clear he
      go_wp2_with (go_at_call 49; refine (power_any k _ (by omega)).mono ?_; rintro e w' ⟨rfl, rfl⟩)
      go_ret
      exact ⟨ret_int (by rw [HE.out]), rfl⟩

theorem add0' (b j : Nat) : ((⟨b, 0, none⟩ : Addr).add j) = ⟨b, j, none⟩ := by
  unfold Addr.add; split <;> simp_all

/-- 'string(..)' of a new row of bytes. -/
theorem conv_new (u : World) (l : List UInt8) :
    (convert 24 9 (.slice (some ⟨u.heap.size, 0, none⟩) l.length l.length)).run Try.prog (u.alloc (.cells (l.map fun b => Value.int .u8 b.toNat).toArray 5)) = .ok (.string ⟨l.toArray⟩) (u.alloc (.cells (l.map fun b => Value.int .u8 b.toNat).toArray 5)) := by
  refine run_convert_bytes_back _ _ _ 5 _ _ l Try.underlying24 Try.underlying5 Try.underlying9 fun j hj => ?_
  rw [show ((⟨u.heap.size, 0, none⟩ : Addr).add j) = ⟨u.heap.size, j, none⟩ from add0' u.heap.size j, World.cell?_alloc_mark]
  simp [hj]
theorem conv_two (u : World) (x y : Int) (h0 : 0 ≤ x) (h1 : x ≤ 255) (h2 : 0 ≤ y) (h3 : y ≤ 255) :
    (convert 24 9 (.slice (some ⟨u.heap.size, 0, none⟩) 2 2)).run Try.prog (u.alloc (.cells #[.int .u8 x, .int .u8 y] 5)) = .ok (.string ⟨#[b8 x, b8 y]⟩) (u.alloc (.cells #[.int .u8 x, .int .u8 y] 5)) := by
  have := conv_new u [b8 x, b8 y]
  simpa only [List.map_cons, List.map_nil, b8_nat x h0 h1, b8_nat y h2 h3, List.length_cons, List.length_nil] using this
theorem conv_one (u : World) (x : Int) (h0 : 0 ≤ x) (h1 : x ≤ 255) :
    (convert 24 9 (.slice (some ⟨u.heap.size, 0, none⟩) 1 1)).run Try.prog (u.alloc (.cells #[.int .u8 x] 5)) = .ok (.string ⟨#[b8 x]⟩) (u.alloc (.cells #[.int .u8 x] 5)) := by
  have := conv_new u [b8 x]
  simpa only [List.map_cons, List.map_nil, b8_nat x h0 h1, List.length_cons, List.length_nil] using this

/-- The same, as rules for the walk: the block by its number. -/
theorem conv_one_at (b : Nat) (u : World) (x : Int) (hb : b = u.heap.size) (h0 : 0 ≤ x) (h1 : x ≤ 255) :
    (convert 24 9 (.slice (some ⟨b, 0, none⟩) 1 1)).run Try.prog (u.alloc (.cells #[.int .u8 x] 5)) = .ok (.string ⟨#[b8 x]⟩) (u.alloc (.cells #[.int .u8 x] 5)) := by
  subst hb; exact conv_one u x h0 h1
theorem conv_two_at (b : Nat) (u : World) (x y : Int) (hb : b = u.heap.size) (h0 : 0 ≤ x) (h1 : x ≤ 255) (h2 : 0 ≤ y) (h3 : y ≤ 255) :
    (convert 24 9 (.slice (some ⟨b, 0, none⟩) 2 2)).run Try.prog (u.alloc (.cells #[.int .u8 x, .int .u8 y] 5)) = .ok (.string ⟨#[b8 x, b8 y]⟩) (u.alloc (.cells #[.int .u8 x, .int .u8 y] 5)) := by
  subst hb; exact conv_two u x y h0 h1 h2 h3

set_option maxRecDepth 100000 in
set_option maxHeartbeats 400000 in
theorem two_any (n : Int) (w : World) (h0 : 0 ≤ n) (h1 : n ≤ 65535) :
    Calls Try.prog 50 #[.int .i64 n] w fun e w' => e = .returned (.string ⟨(two8 n).toArray⟩) ∧ w' = w.alloc (.cells #[.int .u8 (n / 256 % 256), .int .u8 (n % 256)] 5) := by
  have hc := conv_two w (n / 256 % 256) (n % 256) (by omega) (by omega) (by omega) (by omega)
  go_enter Try.func50, Try.ntmps50
  go_wp2
  go_ret
  exact ⟨rfl, rfl⟩

theorem kindOf_eq (k M N : Int) (p d : Nat) (P : Int) (hP : (pw d : Int) = P) : kindOf k M N p d =
    if (if k = 2 then ((p : Int) + P ≤ M ∨ M ≤ p) else (M < p ∨ (p : Int) + P ≤ M)) then 0 else if (d : Int) = 0 then 1 else if (p : Int) + P / 2 < N then 2 else 3 := by
  subst hP
  unfold kindOf
  by_cases hd : d = 0
  · subst hd; simp
  · have h := pw_half d (by omega)
    have e : (pw d : Int) / 2 = (pw (d - 1) : Int) := by omega
    have hd' : ¬ (d : Int) = 0 := by omega
    rw [if_neg hd, if_neg hd', e]

set_option maxRecDepth 100000 in
set_option maxHeartbeats 1000000 in
theorem kind_any (k M N R : Int) (T : Value) (p d : Nat) (w : World) (hd : d ≤ 16) (hp : p ≤ 1000000) :
    Calls Try.prog 68 #[.agg #[.int .i64 k, .int .i64 M, .int .i64 N, .int .i64 R, T], .int .i64 p, .int .i64 d] w fun e w' => e = .returned (.int .i64 (kindOf k M N p d)) ∧ Below w.heap.size w w' := by
  have h16 : pw d ≤ 65536 := pw_le (e := 16) hd
  obtain ⟨P, hP⟩ : ∃ P, P = pw d := ⟨_, rfl⟩
  have HK : Hid (kindOf k M N p d = _) := kindOf_eq k M N p d P (by rw [hP])
  have HP : Hid (P = pw d) := hP
  rw [← hP] at h16
  clear hP
  have pa : ∀ w, Calls Try.prog 49 #[.int .i64 d] w fun e w' => e = .returned (.int .i64 P) ∧ w' = w := fun w => by rw [HP.out]; exact power_any d w (by omega)
  have PA := Hid.out (show Hid _ from pa)
  by_cases hk : k = 2
  · have hkb : (k == 2) = true := by simp [hk]
    have HK2 : Hid (k = 2) := hk
    clear hk
    by_cases ha : (p : Int) + P ≤ M
    · go_enter Try.func68, Try.ntmps68
      go_wp2_with (go_at_call 49; refine (PA _).mono ?_; rintro e w' ⟨rfl, rfl⟩)
      go_ret
      exact ⟨ret_int (by rw [HK.out]; rw [if_pos (by rw [if_pos HK2.out]; exact .inl ha)]), (Below.refl _ _).alloc (Nat.le_refl _) _⟩
    · by_cases hb : M ≤ p
      · go_enter Try.func68, Try.ntmps68
        go_wp2_with (go_at_call 49; refine (PA _).mono ?_; rintro e w' ⟨rfl, rfl⟩)
        go_ret
        exact ⟨ret_int (by rw [HK.out]; rw [if_pos (by rw [if_pos HK2.out]; exact .inr hb)]), (Below.refl _ _).alloc (Nat.le_refl _) _⟩
      · by_cases hd0 : (d : Int) = 0
        · have hdb : ((d : Int) == 0) = true := by simp [hd0]
          have HD : Hid ((d : Int) = 0) := hd0
          clear hd0
          go_enter Try.func68, Try.ntmps68
          go_wp2_with (go_at_call 49; refine (PA _).mono ?_; rintro e w' ⟨rfl, rfl⟩)
          go_ret
          exact ⟨ret_int (by rw [HK.out]; rw [if_neg (by simp [HK2.out]; omega), if_pos HD.out]), (Below.refl _ _).alloc (Nat.le_refl _) _⟩
        · have hdb : ((d : Int) == 0) = false := beq_eq_false_iff_ne.2 hd0
          by_cases hc : (p : Int) + P / 2 < N
          · go_enter Try.func68, Try.ntmps68
            go_wp2_with (go_at_call 49; refine (PA _).mono ?_; rintro e w' ⟨rfl, rfl⟩)
            go_ret
            exact ⟨ret_int (by rw [HK.out]; rw [if_neg (by simp [HK2.out]; omega), if_neg hd0, if_pos hc]), (Below.refl _ _).alloc (Nat.le_refl _) _⟩
          · go_enter Try.func68, Try.ntmps68
            go_wp2_with (go_at_call 49; refine (PA _).mono ?_; rintro e w' ⟨rfl, rfl⟩)
            go_ret
            exact ⟨ret_int (by rw [HK.out]; rw [if_neg (by simp [HK2.out]; omega), if_neg hd0, if_neg (by omega)]), (Below.refl _ _).alloc (Nat.le_refl _) _⟩
  · have hkb : (k == 2) = false := by simp [hk]
    have HK2 : Hid (¬ k = 2) := hk
    clear hk
    by_cases ha : M < p
    · go_enter Try.func68, Try.ntmps68
      go_wp2_with (go_at_call 49; refine (PA _).mono ?_; rintro e w' ⟨rfl, rfl⟩)
      go_ret
      exact ⟨ret_int (by rw [HK.out]; rw [if_pos (by rw [if_neg HK2.out]; exact .inl ha)]), (Below.refl _ _).alloc (Nat.le_refl _) _⟩
    · by_cases hb : (p : Int) + P ≤ M
      · go_enter Try.func68, Try.ntmps68
        go_wp2_with (go_at_call 49; refine (PA _).mono ?_; rintro e w' ⟨rfl, rfl⟩)
        go_ret
        exact ⟨ret_int (by rw [HK.out]; rw [if_pos (by rw [if_neg HK2.out]; exact .inr hb)]), (Below.refl _ _).alloc (Nat.le_refl _) _⟩
      · by_cases hd0 : (d : Int) = 0
        · have hdb : ((d : Int) == 0) = true := by simp [hd0]
          have HD : Hid ((d : Int) = 0) := hd0
          clear hd0
          go_enter Try.func68, Try.ntmps68
          go_wp2_with (go_at_call 49; refine (PA _).mono ?_; rintro e w' ⟨rfl, rfl⟩)
          go_ret
          exact ⟨ret_int (by rw [HK.out]; rw [if_neg (by simp [HK2.out]; omega), if_pos HD.out]), (Below.refl _ _).alloc (Nat.le_refl _) _⟩
        · have hdb : ((d : Int) == 0) = false := beq_eq_false_iff_ne.2 hd0
          by_cases hc : (p : Int) + P / 2 < N
          · go_enter Try.func68, Try.ntmps68
            go_wp2_with (go_at_call 49; refine (PA _).mono ?_; rintro e w' ⟨rfl, rfl⟩)
            go_ret
            exact ⟨ret_int (by rw [HK.out]; rw [if_neg (by simp [HK2.out]; omega), if_neg hd0, if_pos hc]), (Below.refl _ _).alloc (Nat.le_refl _) _⟩
          · go_enter Try.func68, Try.ntmps68
            go_wp2_with (go_at_call 49; refine (PA _).mono ?_; rintro e w' ⟨rfl, rfl⟩)
            go_ret
            exact ⟨ret_int (by rw [HK.out]; rw [if_neg (by simp [HK2.out]; omega), if_neg hd0, if_neg (by omega)]), (Below.refl _ _).alloc (Nat.le_refl _) _⟩
end Go.Proofs.Ytlndinigbppafaa

/-
  The walk of the document's Bytes: a message's bytes.
-/
namespace Go.Proofs.Ytlndinigbppafaa
open Go.RowKit

theorem str_eq {a b : ByteArray} (h : a = b) : Value.string a = .string b := by rw [h]
theorem head1 (k M N R : Int) (h : k = 1) : ({ data := #[b8 k] } ++ { data := (two8 N).toArray } ++ { data := (two8 R).toArray } : ByteArray) = ⟨(encH k M N R).toArray⟩ := by
  subst h; simp [encH, ByteArray.mk_append_mk, two8]
theorem head3 (k M N R : Int) (h : k = 3) : ({ data := #[b8 k] } ++ { data := (two8 M).toArray } ++ { data := (two8 N).toArray } : ByteArray) = ⟨(encH k M N R).toArray⟩ := by
  subst h; simp [encH, ByteArray.mk_append_mk, two8]
theorem head2 (k M N R : Int) (h1 : ¬ k = 1) (h3 : ¬ k = 3) : ({ data := #[b8 k] } ++ { data := (two8 M).toArray } ++ { data := (two8 N).toArray } ++ { data := (two8 R).toArray } : ByteArray) = ⟨(encH k M N R).toArray⟩ := by
  simp [encH, h1, h3, ByteArray.mk_append_mk, two8]

theorem node0 (l : List UInt8) (x : PN) (h : x.kind = 0) : ({ data := l.toArray } ++ { data := #[b8 x.kind] } ++ { data := (two8 x.dig).toArray } : ByteArray) = ⟨(l ++ encN x).toArray⟩ := by
  simp [encN, h, ByteArray.mk_append_mk, two8]
theorem node1 (l : List UInt8) (x : PN) (h : x.kind = 1) : ({ data := l.toArray } ++ { data := #[b8 x.kind] } ++ { data := #[b8 x.ev.size] } ++ x.ev : ByteArray) = ⟨(l ++ encN x).toArray⟩ := by
  have e : ({ data := l.toArray } ++ { data := #[b8 x.kind] } ++ { data := #[b8 x.ev.size] } : ByteArray) = ⟨(l ++ [b8 x.kind, b8 x.ev.size]).toArray⟩ := by
    simp [ByteArray.mk_append_mk]
  rw [e, mk_append, List.append_assoc]
  unfold encN
  rw [h, if_neg (by omega), if_pos rfl]
  rfl
theorem node2 (l : List UInt8) (x : PN) (h0 : ¬ x.kind = 0) (h1 : ¬ x.kind = 1) : ({ data := l.toArray } ++ { data := #[b8 x.kind] } : ByteArray) = ⟨(l ++ encN x).toArray⟩ := by
  simp [encN, h0, h1, ByteArray.mk_append_mk]

set_option maxRecDepth 100000 in
set_option maxHeartbeats 2000000 in
theorem refBytes_any (k M N R : Int) (T : Value) (ns : List PN) (w : World) (hT : NodesG w T ns) (hS : SmallM k M N R ns) :
    Calls Try.prog 52 #[.agg #[.int .i64 k, .int .i64 M, .int .i64 N, .int .i64 R, T]] w fun e w' => e = .returned (.string ⟨(encM k M N R ns).toArray⟩) ∧ Below w.heap.size w w' := by
  obtain ⟨ao, cap, rfl, _, hc⟩ := hT.cells
  obtain ⟨hk0, hk1⟩ := hS.k
  obtain ⟨hm0, hm1⟩ := hS.m
  obtain ⟨hn0, hn1⟩ := hS.n
  obtain ⟨hr0, hr1⟩ := hS.r
  have c1 := conv_one_at
  have hns := hS.len
  have cases3 : k = 1 ∨ k = 3 ∨ (¬ k = 1 ∧ ¬ k = 3) := by omega
  rcases cases3 with k1 | k3 | ⟨k1, k3⟩
  · have kb : (k != 1) = false := by simp [k1]
    have kc : (k != 3) = true := by simp [k1]
    have HE : Hid _ := head1 k M N R k1
    clear k1
    go_enter Try.func52, Try.ntmps52
    go_wp2_with (go_at_call 50; refine (two_any _ _ (by assumption) (by assumption)).mono ?_; rintro e w' ⟨rfl, rfl⟩)
    rw [HE.out]
    go_loopw [3, 4] (fun s i wr => ∃ j : Nat, j ≤ ns.length ∧ i = .int .i64 j ∧ s = .string ⟨(encH k M N R ++ encNs (ns.take j)).toArray⟩ ∧ Below (w.heap.size + 1) (w.alloc (.cells #[.int .i64 k, .int .i64 M, .int .i64 N, .int .i64 R, .slice ao ns.length cap] 42)) wr) (fun _ i _ => ns.length - (intOf i).toNat)
    case atStart => exact ⟨0, Nat.zero_le _, rfl, by simp [encNs], by repeat (first | exact Below.refl _ _ | refine Below.alloc ?_ (by simp) _)⟩
    case round =>
      obtain ⟨j, hj, rfl, rfl, hb⟩ := hrel
      have hbw : Below w.heap.size w wr := ((Below.refl _ _).alloc (Nat.le_refl _) _).trans (hb.mono (by omega))
      have hbs : w.heap.size + 1 ≤ wr.heap.size := by have := hb.size; simpa using this
      have hbx : wr.cell? ⟨w.heap.size, 4, none⟩ = some (.slice ao ns.length cap) := (hb.cell (p := ⟨w.heap.size, 4, none⟩) (by simp)).trans (by rw [World.cell?_alloc_mark]; rfl)
      have hsz := mk_size (encH k M N R ++ encNs (ns.take j))
      have hle := encHN_le ns j hS
      by_cases hlt : j < ns.length
      · obtain ⟨b, o, rfl, hbl, hcl⟩ := hc (by omega)
        obtain ⟨e0, e1, e2⟩ := hcl j hlt
        replace e0 := (hbw.cell (p := ⟨b, o + j * 3, none⟩) hbl).trans e0
        replace e1 := (hbw.cell (p := ⟨b, o + j * 3 + 1, none⟩) hbl).trans e1
        replace e2 := (hbw.cell (p := ⟨b, o + j * 3 + 2, none⟩) hbl).trans e2
        have HX : Hid (encH k M N R ++ encNs (ns.take (j + 1)) = (encH k M N R ++ encNs (ns.take j)) ++ encN ns[j]) := by rw [List.append_assoc, ← encNs_snoc ns j hlt]; exact rfl
        obtain ⟨⟨x0, x1⟩, ⟨x2, x3⟩, x4⟩ := hS.each _ (List.getElem_mem hlt)
        generalize encH k M N R ++ encNs (ns.take j) = L at *
        generalize ns[j] = x at *
        have h2l := two8_length x.dig
        have x5 : (0 : Int) ≤ (x.ev.size : Int) := by omega
        have x6 : (x.ev.size : Int) ≤ 255 := by omega
        clear hcl hc hT hS
        rcases (show x.kind = 0 ∨ x.kind = 1 ∨ (¬ x.kind = 0 ∧ ¬ x.kind = 1) by omega) with kx0 | kx1 | ⟨kx0, kx1⟩
        · have b0 : (x.kind == 0) = true := by simp [kx0]
          have b1 : (x.kind == 1) = false := by simp [kx0]
          have HN : Hid _ := node0 L x kx0
          clear kx0
          go_wp2_with (go_at_call 50; refine (two_any _ _ (by assumption) (by assumption)).mono ?_; rintro e w' ⟨rfl, rfl⟩)
          go_roundw
          case rel => exact ⟨j + 1, by omega, by go_num, by rw [HX.out, HN.out], by repeat (first | exact hb | refine Below.alloc ?_ (by first | omega | (simp; omega)) _ | refine Below.setCell ?_ (by first | omega | (simp; omega)) _)⟩
          case measure => simp [intOf]; omega
        · have b0 : (x.kind == 0) = false := by simp [kx1]
          have b1 : (x.kind == 1) = true := by simp [kx1]
          have HN : Hid _ := node1 L x kx1
          clear kx1
          go_wp2_with (go_at_call 50; refine (two_any _ _ (by assumption) (by assumption)).mono ?_; rintro e w' ⟨rfl, rfl⟩)
          go_roundw
          case rel => exact ⟨j + 1, by omega, by go_num, by rw [HX.out, HN.out], by repeat (first | exact hb | refine Below.alloc ?_ (by first | omega | (simp; omega)) _ | refine Below.setCell ?_ (by first | omega | (simp; omega)) _)⟩
          case measure => simp [intOf]; omega
        · have b0 : (x.kind == 0) = false := by simp [kx0]
          have b1 : (x.kind == 1) = false := by simp [kx1]
          have HN : Hid _ := node2 L x kx0 kx1
          clear kx0 kx1
          go_wp2_with (go_at_call 50; refine (two_any _ _ (by assumption) (by assumption)).mono ?_; rintro e w' ⟨rfl, rfl⟩)
          go_roundw
          case rel => exact ⟨j + 1, by omega, by go_num, by rw [HX.out, HN.out], by repeat (first | exact hb | refine Below.alloc ?_ (by first | omega | (simp; omega)) _ | refine Below.setCell ?_ (by first | omega | (simp; omega)) _)⟩
          case measure => simp [intOf]; omega
      · have hjl : j = ns.length := by omega
        subst hjl
        go_wp2
        go_ret
        exact ⟨by rw [List.take_length]; rfl, hbw⟩
  · have kb : (k != 1) = true := by simp [k3]
    have kc : (k != 3) = false := by simp [k3]
    have HE : Hid _ := head3 k M N R k3
    clear k3
    go_enter Try.func52, Try.ntmps52
    go_wp2_with (go_at_call 50; refine (two_any _ _ (by assumption) (by assumption)).mono ?_; rintro e w' ⟨rfl, rfl⟩)
    rw [HE.out]
    go_loopw [3, 4] (fun s i wr => ∃ j : Nat, j ≤ ns.length ∧ i = .int .i64 j ∧ s = .string ⟨(encH k M N R ++ encNs (ns.take j)).toArray⟩ ∧ Below (w.heap.size + 1) (w.alloc (.cells #[.int .i64 k, .int .i64 M, .int .i64 N, .int .i64 R, .slice ao ns.length cap] 42)) wr) (fun _ i _ => ns.length - (intOf i).toNat)
    case atStart => exact ⟨0, Nat.zero_le _, rfl, by simp [encNs], by repeat (first | exact Below.refl _ _ | refine Below.alloc ?_ (by simp) _)⟩
    case round =>
      obtain ⟨j, hj, rfl, rfl, hb⟩ := hrel
      have hbw : Below w.heap.size w wr := ((Below.refl _ _).alloc (Nat.le_refl _) _).trans (hb.mono (by omega))
      have hbs : w.heap.size + 1 ≤ wr.heap.size := by have := hb.size; simpa using this
      have hbx : wr.cell? ⟨w.heap.size, 4, none⟩ = some (.slice ao ns.length cap) := (hb.cell (p := ⟨w.heap.size, 4, none⟩) (by simp)).trans (by rw [World.cell?_alloc_mark]; rfl)
      have hsz := mk_size (encH k M N R ++ encNs (ns.take j))
      have hle := encHN_le ns j hS
      by_cases hlt : j < ns.length
      · obtain ⟨b, o, rfl, hbl, hcl⟩ := hc (by omega)
        obtain ⟨e0, e1, e2⟩ := hcl j hlt
        replace e0 := (hbw.cell (p := ⟨b, o + j * 3, none⟩) hbl).trans e0
        replace e1 := (hbw.cell (p := ⟨b, o + j * 3 + 1, none⟩) hbl).trans e1
        replace e2 := (hbw.cell (p := ⟨b, o + j * 3 + 2, none⟩) hbl).trans e2
        have HX : Hid (encH k M N R ++ encNs (ns.take (j + 1)) = (encH k M N R ++ encNs (ns.take j)) ++ encN ns[j]) := by rw [List.append_assoc, ← encNs_snoc ns j hlt]; exact rfl
        obtain ⟨⟨x0, x1⟩, ⟨x2, x3⟩, x4⟩ := hS.each _ (List.getElem_mem hlt)
        generalize encH k M N R ++ encNs (ns.take j) = L at *
        generalize ns[j] = x at *
        have h2l := two8_length x.dig
        have x5 : (0 : Int) ≤ (x.ev.size : Int) := by omega
        have x6 : (x.ev.size : Int) ≤ 255 := by omega
        clear hcl hc hT hS
        rcases (show x.kind = 0 ∨ x.kind = 1 ∨ (¬ x.kind = 0 ∧ ¬ x.kind = 1) by omega) with kx0 | kx1 | ⟨kx0, kx1⟩
        · have b0 : (x.kind == 0) = true := by simp [kx0]
          have b1 : (x.kind == 1) = false := by simp [kx0]
          have HN : Hid _ := node0 L x kx0
          clear kx0
          go_wp2_with (go_at_call 50; refine (two_any _ _ (by assumption) (by assumption)).mono ?_; rintro e w' ⟨rfl, rfl⟩)
          go_roundw
          case rel => exact ⟨j + 1, by omega, by go_num, by rw [HX.out, HN.out], by repeat (first | exact hb | refine Below.alloc ?_ (by first | omega | (simp; omega)) _ | refine Below.setCell ?_ (by first | omega | (simp; omega)) _)⟩
          case measure => simp [intOf]; omega
        · have b0 : (x.kind == 0) = false := by simp [kx1]
          have b1 : (x.kind == 1) = true := by simp [kx1]
          have HN : Hid _ := node1 L x kx1
          clear kx1
          go_wp2_with (go_at_call 50; refine (two_any _ _ (by assumption) (by assumption)).mono ?_; rintro e w' ⟨rfl, rfl⟩)
          go_roundw
          case rel => exact ⟨j + 1, by omega, by go_num, by rw [HX.out, HN.out], by repeat (first | exact hb | refine Below.alloc ?_ (by first | omega | (simp; omega)) _ | refine Below.setCell ?_ (by first | omega | (simp; omega)) _)⟩
          case measure => simp [intOf]; omega
        · have b0 : (x.kind == 0) = false := by simp [kx0]
          have b1 : (x.kind == 1) = false := by simp [kx1]
          have HN : Hid _ := node2 L x kx0 kx1
          clear kx0 kx1
          go_wp2_with (go_at_call 50; refine (two_any _ _ (by assumption) (by assumption)).mono ?_; rintro e w' ⟨rfl, rfl⟩)
          go_roundw
          case rel => exact ⟨j + 1, by omega, by go_num, by rw [HX.out, HN.out], by repeat (first | exact hb | refine Below.alloc ?_ (by first | omega | (simp; omega)) _ | refine Below.setCell ?_ (by first | omega | (simp; omega)) _)⟩
          case measure => simp [intOf]; omega
      · have hjl : j = ns.length := by omega
        subst hjl
        go_wp2
        go_ret
        exact ⟨by rw [List.take_length]; rfl, hbw⟩
  · have kb : (k != 1) = true := by simp [k1]
    have kc : (k != 3) = true := by simp [k3]
    have HE : Hid _ := head2 k M N R k1 k3
    clear k1 k3
    go_enter Try.func52, Try.ntmps52
    go_wp2_with (go_at_call 50; refine (two_any _ _ (by assumption) (by assumption)).mono ?_; rintro e w' ⟨rfl, rfl⟩)
    rw [HE.out]
    go_loopw [3, 4] (fun s i wr => ∃ j : Nat, j ≤ ns.length ∧ i = .int .i64 j ∧ s = .string ⟨(encH k M N R ++ encNs (ns.take j)).toArray⟩ ∧ Below (w.heap.size + 1) (w.alloc (.cells #[.int .i64 k, .int .i64 M, .int .i64 N, .int .i64 R, .slice ao ns.length cap] 42)) wr) (fun _ i _ => ns.length - (intOf i).toNat)
    case atStart => exact ⟨0, Nat.zero_le _, rfl, by simp [encNs], by repeat (first | exact Below.refl _ _ | refine Below.alloc ?_ (by simp) _)⟩
    case round =>
      obtain ⟨j, hj, rfl, rfl, hb⟩ := hrel
      have hbw : Below w.heap.size w wr := ((Below.refl _ _).alloc (Nat.le_refl _) _).trans (hb.mono (by omega))
      have hbs : w.heap.size + 1 ≤ wr.heap.size := by have := hb.size; simpa using this
      have hbx : wr.cell? ⟨w.heap.size, 4, none⟩ = some (.slice ao ns.length cap) := (hb.cell (p := ⟨w.heap.size, 4, none⟩) (by simp)).trans (by rw [World.cell?_alloc_mark]; rfl)
      have hsz := mk_size (encH k M N R ++ encNs (ns.take j))
      have hle := encHN_le ns j hS
      by_cases hlt : j < ns.length
      · obtain ⟨b, o, rfl, hbl, hcl⟩ := hc (by omega)
        obtain ⟨e0, e1, e2⟩ := hcl j hlt
        replace e0 := (hbw.cell (p := ⟨b, o + j * 3, none⟩) hbl).trans e0
        replace e1 := (hbw.cell (p := ⟨b, o + j * 3 + 1, none⟩) hbl).trans e1
        replace e2 := (hbw.cell (p := ⟨b, o + j * 3 + 2, none⟩) hbl).trans e2
        have HX : Hid (encH k M N R ++ encNs (ns.take (j + 1)) = (encH k M N R ++ encNs (ns.take j)) ++ encN ns[j]) := by rw [List.append_assoc, ← encNs_snoc ns j hlt]; exact rfl
        obtain ⟨⟨x0, x1⟩, ⟨x2, x3⟩, x4⟩ := hS.each _ (List.getElem_mem hlt)
        generalize encH k M N R ++ encNs (ns.take j) = L at *
        generalize ns[j] = x at *
        have h2l := two8_length x.dig
        have x5 : (0 : Int) ≤ (x.ev.size : Int) := by omega
        have x6 : (x.ev.size : Int) ≤ 255 := by omega
        clear hcl hc hT hS
        rcases (show x.kind = 0 ∨ x.kind = 1 ∨ (¬ x.kind = 0 ∧ ¬ x.kind = 1) by omega) with kx0 | kx1 | ⟨kx0, kx1⟩
        · have b0 : (x.kind == 0) = true := by simp [kx0]
          have b1 : (x.kind == 1) = false := by simp [kx0]
          have HN : Hid _ := node0 L x kx0
          clear kx0
          go_wp2_with (go_at_call 50; refine (two_any _ _ (by assumption) (by assumption)).mono ?_; rintro e w' ⟨rfl, rfl⟩)
          go_roundw
          case rel => exact ⟨j + 1, by omega, by go_num, by rw [HX.out, HN.out], by repeat (first | exact hb | refine Below.alloc ?_ (by first | omega | (simp; omega)) _ | refine Below.setCell ?_ (by first | omega | (simp; omega)) _)⟩
          case measure => simp [intOf]; omega
        · have b0 : (x.kind == 0) = false := by simp [kx1]
          have b1 : (x.kind == 1) = true := by simp [kx1]
          have HN : Hid _ := node1 L x kx1
          clear kx1
          go_wp2_with (go_at_call 50; refine (two_any _ _ (by assumption) (by assumption)).mono ?_; rintro e w' ⟨rfl, rfl⟩)
          go_roundw
          case rel => exact ⟨j + 1, by omega, by go_num, by rw [HX.out, HN.out], by repeat (first | exact hb | refine Below.alloc ?_ (by first | omega | (simp; omega)) _ | refine Below.setCell ?_ (by first | omega | (simp; omega)) _)⟩
          case measure => simp [intOf]; omega
        · have b0 : (x.kind == 0) = false := by simp [kx0]
          have b1 : (x.kind == 1) = false := by simp [kx1]
          have HN : Hid _ := node2 L x kx0 kx1
          clear kx0 kx1
          go_wp2_with (go_at_call 50; refine (two_any _ _ (by assumption) (by assumption)).mono ?_; rintro e w' ⟨rfl, rfl⟩)
          go_roundw
          case rel => exact ⟨j + 1, by omega, by go_num, by rw [HX.out, HN.out], by repeat (first | exact hb | refine Below.alloc ?_ (by first | omega | (simp; omega)) _ | refine Below.setCell ?_ (by first | omega | (simp; omega)) _)⟩
          case measure => simp [intOf]; omega
      · have hjl : j = ns.length := by omega
        subst hjl
        go_wp2
        go_ret
        exact ⟨by rw [List.take_length]; rfl, hbw⟩
end Go.Proofs.Ytlndinigbppafaa

/-
  The walks of strings.Clone, and of the program's NewLog.
-/
namespace Go.Proofs.Ytlndinigbppafaa
open Go.RowKit

theorem Try.ptrByte : Try.prog.cellsOf 5 = 1 := by kernel_rfl

set_option maxRecDepth 100000 in
set_option maxHeartbeats 1000000 in
theorem cloneLite_any (s : ByteArray) (w : World) (hs : s.size ≤ 1000000) :
    Calls Try.prog 72 #[.string s] w fun e w' => e = .returned (.string s) ∧ Below w.heap.size w w' := by
  by_cases h0 : s.size = 0
  · obtain rfl : s = ⟨#[]⟩ := by
      apply ByteArray.ext
      exact Array.eq_empty_of_size_eq_zero h0
    go_enter Try.func72, Try.ntmps72
    go_wp2
    go_ret
    exact ⟨rfl, Below.refl _ _⟩
  · obtain ⟨i0, hi, hz0, hz1, hz2⟩ := info_parts Try.infoByte
    have hinfo : (Try.prog.info? 5).map (·.size) = some 1 := by rw [hi]; simp [hz1]
    -- the new row, and what the copy makes of it
    obtain ⟨Z, hZ⟩ : ∃ Z, Z = madeCells (Value.int .u8 0).cells (((s.size : Nat) : Int).toNat * i0.size) := ⟨_, rfl⟩
    have hZs : Z.size = s.size := by rw [hZ, size_madeCells, hz1]; simp
    have hmk : ∀ u : World, (Instr.makeSlice 24 (.int .i64 (s.size : Int)) (.int .i64 (s.size : Int))).run Try.prog u = .ok (.slice (some ⟨u.heap.size, 0, none⟩) s.size s.size) (u.alloc (.cells Z 5)) := fun u => by
      have h := run_make (P := Try.prog) u 24 5 i0 (.int .u8 0) Try.underlying24 hi hz0 .i64 .i64 (s.size : Int) (s.size : Int) (by omega) (by omega) (by rw [hz2]; omega) (by omega)
      rw [← hZ] at h
      simpa using h
    clear hZ
    have hcp := Lib.run_copy_row_string (P := Try.prog) (w.alloc (.cells Z 5)) 24 9 3 5 w.heap.size 0 s.size s.size s Z 5 Try.underlying24 hinfo (heap_alloc_new w _) (Nat.le_refl _) (by omega)
    obtain ⟨Y, hY⟩ : ∃ Y, Y = (Z.toList.take 0 ++ Lib.byteCells s.data.toList ++ Z.toList.drop (0 + s.size)).toArray := ⟨_, rfl⟩
    rw [← hY] at hcp
    have hYl : Y.toList = Lib.byteCells s.data.toList := by
      rw [hY, List.toList_toArray, List.take_zero, List.nil_append, List.drop_of_length_le (by rw [Array.length_toList]; omega), List.append_nil]
    have hYs : Y.size = s.size := by rw [← Array.length_toList, hYl, Lib.byteCells_length, ← Lib.size_eq]
    have hgY : ((w.alloc (.cells Z 5)).setRow w.heap.size Y).heap[w.heap.size]? = some (.cells Y 5 (0, 0)) := setRow_heap _ _ Z _ 5 (0, 0) (heap_alloc_new w _)
    have hne : s.data.toList ≠ [] := fun e => h0 (by rw [Lib.size_eq, e]; rfl)
    have hUS := Lib.run_unsafeString_row (P := Try.prog) ((w.alloc (.cells Z 5)).setRow w.heap.size Y) 134 3 9 5 Try.underlying134 Try.ptrByte w.heap.size Y.size (by unfold World.shape?; rw [hgY]) s.data.toList hne (by rw [← Lib.size_eq]; omega) (by rw [← Lib.size_eq]; omega)
      (fun j x hx => Lib.cells_of_row hgY Y.size j _ (by rw [List.take_of_length_le (by rw [Array.length_toList]; exact Nat.le_refl _), hYl]; simp [Lib.byteCells, hx]))
    rw [← Lib.size_eq] at hUS
    clear hY
    go_enter Try.func72, Try.ntmps72
    go_wp2
    go_ret
    have hb1 : Below w.heap.size w (w.alloc (.cells Z 5)) := (Below.refl _ w).alloc (Nat.le_refl _) _
    have hb2 : Below w.heap.size (w.alloc (.cells Z 5)) ((w.alloc (.cells Z 5)).setRow w.heap.size Y) := ⟨rfl, rfl, rfl, by simp, fun k hk => setRow_other _ _ _ _ (by omega)⟩
    exact ⟨rfl, Lib.below_freeze (hb1.trans hb2) (p := ⟨w.heap.size, 0, none⟩) (Nat.le_refl _) _⟩

set_option maxRecDepth 100000 in
set_option maxHeartbeats 400000 in
theorem clone_any (s : ByteArray) (w : World) (hs : s.size ≤ 1000000) :
    Calls Try.prog 55 #[.string s] w fun e w' => e = .returned (.string s) ∧ Below w.heap.size w w' := by
  go_enter Try.func55, Try.ntmps55
  go_wp2_with (go_at_call 72; refine (cloneLite_any _ _ hs).mono ?_; rintro e w' ⟨rfl, hb⟩)
  go_ret
  exact ⟨rfl, hb⟩

set_option maxRecDepth 100000 in
set_option maxHeartbeats 400000 in
theorem newLog_any (w : World) :
    Calls Try.prog 30 #[] w fun e w' => e = .returned (.pointer (some ⟨w.heap.size, 0, none⟩)) ∧ LogAt w' w.heap.size w.heap.size (.slice none 0 0) [] ∧ Below w.heap.size w w' ∧ w'.heap.size = w.heap.size + 1 := by
  go_enter Try.func30, Try.ntmps30
  go_wp2
  go_ret
  refine ⟨rfl, ⟨Nat.le_refl _, ?_, World.ownsRow_nil _ _ _ _⟩, (Below.refl _ _).alloc (Nat.le_refl _) _, by simp⟩
  exact heap_alloc_new w _
end Go.Proofs.Ytlndinigbppafaa

/-
  The walk of the program's Append.
-/
namespace Go.Proofs.Ytlndinigbppafaa
open Go.RowKit

theorem Try.infoStr : (Try.prog.info? 9).map (fun i => (i.zero, i.size, i.bytes)) = some (some (.string ByteArray.empty), 1, 16) := by kernel_rfl

theorem LogAt.drew {w : World} {b0 B : Nat} {S : Value} {evs : List ByteArray} (h : LogAt w b0 B S evs) : LogAt w.drew b0 B S evs := h.below ((Below.refl _ _).drew)
theorem log_row_ne {w : World} {b0 B : Nat} {S : Value} {evs : List ByteArray} (h : LogAt w b0 B S evs) : some B ≠ S.ownBlock := by
  intro e
  rcases h.2.2.2 with ⟨rfl, _⟩ | ⟨g, cap, cur, rfl, _, hgg, _⟩
  · simp [Value.ownBlock] at e
  · simp [Value.ownBlock] at e
    subst e
    have := h.2.1
    rw [hgg] at this
    simp at this

theorem strs8_append (evs : List ByteArray) (s : ByteArray) : strs8 (evs ++ [s]) = strs8 evs ++ [.string s] := by unfold strs8; rw [List.map_append]; rfl

/-- What is left behind an append. -/
theorem log_appended {w0 w1 w2 : World} {b0 B g cap2 : Nat} {S : Value} {evs : List ByteArray} {s : ByteArray} {X : Obj} (h : LogAt w0 b0 B S evs) (hb1 : Below w0.drew.heap.size w0.drew w1)
    (hown2 : w2.ownsRow b0 9 1 (.slice (some ⟨g, 0, none⟩) (evs.length + 1) cap2) (evs.length + 1) (strs8 evs ++ [.string s])) (hgrow : (w1.alloc X).grownBy w2 S.ownBlock) (hat : S.ownBlock = some g ∨ g = (w1.alloc X).heap.size) :
    LogAt (w2.setCell ⟨B, 1, none⟩ (.slice (some ⟨g, 0, none⟩) (evs.length + 1) cap2)) b0 B (.slice (some ⟨g, 0, none⟩) (evs.length + 1) cap2) (evs ++ [s]) ∧ Frame2 w0 (w2.setCell ⟨B, 1, none⟩ (.slice (some ⟨g, 0, none⟩) (evs.length + 1) cap2)) B S.ownBlock := by
  have hne := log_row_ne h
  have hBlt := lt_of_heap h.2.1
  have hs1 : w0.heap.size ≤ w1.heap.size := hb1.size
  have hgB : g ≠ B := by
    rcases hat with hat | hat
    · intro e; rw [hat, e] at hne; exact hne rfl
    · rw [hat]; simp; omega
  have h1 := h.drew.below hb1
  have hB2 : w2.heap[B]? = some (.cells #[.pointer (some ⟨B, 0, none⟩), S] 88 (0, 0)) := by
    rw [hgrow.block B (by simp; omega) hne, Below.heap_alloc _ _ _ (by omega)]
    exact h1.2.1
  have hother : ∀ k, k ≠ B → (w2.setCell ⟨B, 1, none⟩ (.slice (some ⟨g, 0, none⟩) (evs.length + 1) cap2)).heap[k]? = w2.heap[k]? := fun k hk => Below.heap_setCell _ _ _ _ hk
  refine ⟨⟨h.1, ?_, ?_⟩, ⟨?_, ?_, ?_, ?_, fun k hk hkB hkr => ?_⟩⟩
  · simp [World.setCell, Array.getElem?_modify, hB2]
  · rw [List.length_append, strs8_append]
    obtain ⟨o1, o2⟩ := hown2
    refine ⟨o1, ?_⟩
    rcases o2 with o2 | ⟨g', cp, cur, e, q1, q2, q3⟩
    · exact .inl o2
    · simp only [Value.slice.injEq, Option.some.injEq, Addr.mk.injEq] at e
      obtain ⟨⟨rfl, _, _⟩, _, rfl⟩ := e
      exact .inr ⟨g, _, cur, rfl, q1, by rw [hother g hgB]; exact q2, q3⟩
  · exact hgrow.os.trans hb1.os
  · exact hgrow.tape.trans hb1.tape
  · exact hgrow.output.trans hb1.output
  · have := hgrow.size
    simp at this
    simp [World.setCell]
    omega
  · rw [hother k hkB, hgrow.block k (by simp; omega) hkr, Below.heap_alloc _ _ _ (by omega)]
    exact hb1.block k hk

theorem own_at {w0 w1 : World} {X : Obj} {g n cap2 : Nat} {S : Value} (hb1 : Below w0.drew.heap.size w0.drew w1) (hat : S.ownBlock = some g ∨ g = (w1.alloc X).heap.size) :
    (Value.slice (some ⟨g, 0, none⟩) n cap2).ownBlock = S.ownBlock ∨ ∃ g', (Value.slice (some ⟨g, 0, none⟩) n cap2).ownBlock = some g' ∧ w0.heap.size ≤ g' := by
  rcases hat with h | h
  · left; rw [h]; rfl
  · right
    refine ⟨g, rfl, ?_⟩
    have : w0.heap.size ≤ w1.heap.size := hb1.size
    rw [h]; simp; omega

set_option maxRecDepth 100000 in
set_option maxHeartbeats 1000000 in
theorem append_ok (w : World) (b0 B : Nat) (S : Value) (evs : List ByteArray) (s : ByteArray) (h : LogAt w b0 B S evs) (hs : s.size ≤ 50) (hn : evs.length < 500) (hb0 : b0 ≤ w.heap.size) :
    Calls Try.prog 37 #[.pointer (some ⟨B, 0, none⟩), .string s] w fun e w' => ∃ S', e = .returned (.tuple #[.int .i64 evs.length, .int .i64 0]) ∧ LogAt w' b0 B S' (evs ++ [s]) ∧ Frame2 w w' B S.ownBlock ∧ (S'.ownBlock = S.ownBlock ∨ ∃ g, S'.ownBlock = some g ∧ w.heap.size ≤ g) := by
  obtain ⟨i0, hi, hz0, hz1, hz2⟩ := info_parts Try.infoStr
  have hm := h.evs
  have hz : w.frozen? ⟨B, 1, none⟩ = false := by unfold World.frozen?; rw [h.2.1]; rfl
  obtain ⟨ao, cap, rfl, hc, _⟩ := id h.slice
  have hne := log_row_ne h
  go_enter Try.func37, Try.ntmps37
  go_wp2_with (go_at_call 54; refine (closed_any _ _ _ _ _ h).mono ?_; rintro e w0 ⟨rfl, rfl⟩)
  go_region_law (first
    | (go_simp; go_at_call 55; refine (clone_any _ _ (by omega)).mono ?_; rintro e w1 ⟨rfl, hb1⟩; have h1 := h.drew.below hb1; have c1 := h1.evs; have z1 : w1.frozen? ⟨B, 1, none⟩ = false := (by unfold World.frozen?; rw [h1.2.1]; rfl); have hB1 : B < w1.heap.size := lt_of_heap h1.2.1; have hs1 : b0 ≤ w1.heap.size := Nat.le_trans hb0 hb1.size)
    | (refine step_append_lies _ rfl (.tmp 24) (.tmp 27) 22 rfl b0 9 i0 (.string ByteArray.empty) 1 16 Try.underlying22 hi hz0 hz1 hz2 rfl (by decide) (.slice ao evs.length cap) evs.length (strs8 evs) (by simp [Act.eval]) (h1.2.2.alloc _) ⟨w1.heap.size, 0, none⟩ 1 1 [.string s] (by simp [Act.eval]) rfl (World.news_of_block (heap_alloc_new w1 _)) (by intro u hu; simp at hu; subst hu; rfl) (by decide) (by unfold maxLen; omega) (by omega) (by simp; omega) _ rfl ?_; intro g cap2 w2 hown2 hgrow hat hlt; have c2 : w2.cell? ⟨B, 1, none⟩ = some (.slice ao evs.length cap) := (hgrow.cell_far ⟨B, 1, none⟩ (by simp; omega) hne).trans (cell_keep c1 ((Below.refl _ _).alloc (Nat.le_refl _) _)); have z2 : w2.frozen? ⟨B, 1, none⟩ = false := (hgrow.frozen_far ⟨B, 1, none⟩ (by simp; omega) hne).trans (frozen_keep c1 z1 ((Below.refl _ _).alloc (Nat.le_refl _) _))))
  all_goals have R := log_appended h hb1 hown2 hgrow hat
  all_goals have hat2 := own_at (cap2 := cap2) (n := evs.length + 1) (S := .slice ao evs.length cap) hb1 hat
  all_goals clear hown2 hgrow hat h1 z1 c1
  all_goals go_wp2
  all_goals go_ret2
  all_goals exact ⟨_, by simp, R.1, R.2, hat2⟩
end Go.Proofs.Ytlndinigbppafaa

/-
  The walks of Append where it is refused, and of the statements' pick.
-/
namespace Go.Proofs.Ytlndinigbppafaa
open Go.RowKit

set_option maxRecDepth 100000 in
set_option maxHeartbeats 400000 in
theorem append_long (w : World) (b0 B : Nat) (S : Value) (evs : List ByteArray) (s : ByteArray) (h : LogAt w b0 B S evs) (hs : 50 < s.size) (hm : s.size ≤ maxLen) :
    Calls Try.prog 37 #[.pointer (some ⟨B, 0, none⟩), .string s] w fun e w' => e = .returned (.tuple #[.int .i64 0, .int .i64 2]) ∧ w' = w := by
  unfold maxLen at hm
  go_enter Try.func37, Try.ntmps37
  go_wp2_with (go_at_call 54; refine (closed_any _ _ _ _ _ h).mono ?_; rintro e w0 ⟨rfl, rfl⟩)
  go_ret2
  exact ⟨rfl, rfl⟩
set_option maxRecDepth 100000 in
set_option maxHeartbeats 400000 in
theorem append_many (w : World) (b0 B : Nat) (S : Value) (evs : List ByteArray) (s : ByteArray) (h : LogAt w b0 B S evs) (hs : s.size ≤ 50) (hn : 500 ≤ evs.length) (hn2 : evs.length ≤ 1000) :
    Calls Try.prog 37 #[.pointer (some ⟨B, 0, none⟩), .string s] w fun e w' => e = .returned (.tuple #[.int .i64 0, .int .i64 3]) ∧ w' = w := by
  have hm := h.evs
  obtain ⟨ao, cap, rfl, hc, _⟩ := id h.slice
  go_enter Try.func37, Try.ntmps37
  go_wp2_with (go_at_call 54; refine (closed_any _ _ _ _ _ h).mono ?_; rintro e w0 ⟨rfl, rfl⟩)
  go_ret2
  exact ⟨rfl, rfl⟩

/-- Which of n things a raw number speaks of. -/
def pickZ (c n : Int) : Int := (if c < 0 then -(c + 1) else c) % n
theorem pickZ_bd (c n : Int) (h : 0 < n) : 0 ≤ pickZ c n ∧ pickZ c n < n := ⟨Int.emod_nonneg _ (by omega), Int.emod_lt_of_pos _ h⟩

set_option maxRecDepth 100000 in
set_option maxHeartbeats 400000 in
theorem pick_any (c n : Int) (w : World) (h0 : -9223372036854775808 ≤ c) (h1 : c ≤ 9223372036854775807) (hn : 0 < n) (hn2 : n ≤ 1000000) :
    Calls Try.prog 21 #[.int .i64 c, .int .i64 n] w fun e w' => e = .returned (.int .i64 (pickZ c n)) ∧ w' = w := by
  by_cases hc : c < 0
  · have HP : Hid (pickZ c n = (-(c + 1)) % n) := by show pickZ c n = _; unfold pickZ; rw [if_pos hc]
    go_enter Try.func21, Try.ntmps21
    go_wp2
    go_ret
    exact ⟨ret_int (by rw [HP.out, ← Int.neg_tmod, Int.tmod_eq_emod_of_nonneg (by omega)]), rfl⟩
  · have HP : Hid (pickZ c n = c % n) := by show pickZ c n = _; unfold pickZ; rw [if_neg hc]
    go_enter Try.func21, Try.ntmps21
    go_wp2
    go_ret
    exact ⟨ret_int (by rw [HP.out]), rfl⟩

/-- '[]byte' of a row of one byte that was laid for it: the mark behind its end. -/
theorem conv_same (u : World) (b : Nat) (x : Value) (hb : b = u.heap.size) : (convert 24 24 (.slice (some ⟨b, 0, none⟩) 1 1)).run Try.prog (u.alloc (.cells #[x] 5)) = .ok (.slice (some ⟨b, 0, none⟩) 1 1) (u.alloc (.cells #[x] 5 (1, 2))) := by
  subst hb
  have hsh : (u.alloc (.cells #[x] 5)).shape? u.heap.size = some (5, 1) := by
    unfold World.shape?; rw [heap_alloc_new u _]; rfl
  have hfr : (u.alloc (.cells #[x] 5)).freeze ⟨u.heap.size, 1, none⟩ 1 = u.alloc (.cells #[x] 5 (1, 2)) := by
    have hm : ∀ (a : Array Obj) (y : Obj) (f : Obj → Obj), (a.push y).modify a.size f = a.push (f y) := by
      intro a y f
      apply Array.ext
      · simp
      · intro i h1 h2
        simp only [Array.getElem_modify, Array.getElem_push]
        by_cases h : a.size = i
        · subst h; simp
        · have hi : i < a.size := by simp at h1; omega
          simp [h, hi]
    unfold World.freeze
    rw [if_neg (by decide)]
    show ({ u.alloc (.cells #[x] 5) with heap := (u.heap.push (.cells #[x] 5)).modify u.heap.size _ } : World) = _
    rw [hm]
    rfl
  simp [convert, run_underlying Try.underlying24, run_underlying Try.underlying5, markStringish, hsh, hfr]
theorem byte_atF (x : Int) (w : World) (b : Nat) (fr : Nat × Nat) (h0 : 0 ≤ x) (h1 : x ≤ 255) (hb : b = w.heap.size) : BytesAt (w.alloc (.cells #[.int .u8 x] 5 fr)) (.slice (some ⟨b, 0, none⟩) 1 1) [b8 x] := by
  subst hb
  refine ⟨_, _, rfl, fun h => (by cases h), fun _ => ⟨_, _, _, _, rfl, heap_alloc_new w _, fun j hj => ?_⟩⟩
  match j, hj with
  | 0, _ => show some (Value.int .u8 x) = some (.int .u8 ((b8 x).toNat : Int)); rw [b8_nat x h0 h1]
theorem sm_0a : sm [[b8 0], [b8 97]].flatten = 883 := by decide
theorem dig_a : dig (List.take 1 ([] ++ [⟨#[97]⟩])) (dep 1) 0 = 883 := by decide

set_option maxRecDepth 100000 in
set_option maxHeartbeats 1000000 in
theorem rooted_any (w : World) :
    Calls Try.prog 19 #[] w fun e w' => e = .returned (.bool true) ∧ Below w.heap.size w w' := by
  have hc2 := conv_same
  go_enter Try.func19, Try.ntmps19
  go_wp2_with fail
  refine (newLog_any _).mono ?_
  rintro e w1 ⟨rfl, hL1, hb1, hs1⟩
  go_wp2_with fail
  refine (sum_any [[b8 0], [b8 97]] _ _ (rows2 _ _ _ _ _ _ (by simp; omega) ((byte_at 0 _ _ (by decide) (by decide) (by omega)).keep (keepA _ _)) (byte_atF 97 _ _ _ (by decide) (by decide) (by simp; omega))) (by simp) (by intro l hl; simp at hl; rcases hl with rfl | rfl <;> simp)).mono ?_
  rintro e w2 ⟨rfl, rfl⟩
  rw [sm_0a]
  go_wp2_with fail
  have hbA : Below w1.heap.size w1 (((w1.alloc (.cells #[.int .u8 0] 5)).alloc (.cells #[.int .u8 97] 5 (1, 2))).alloc (.cells #[.slice (some ⟨w.heap.size + 1, 0, none⟩) 1 1, .slice (some ⟨w.heap.size + 1 + 1, 0, none⟩) 1 1] 24)) := (((Below.refl _ _).alloc (Nat.le_refl _) _).alloc (by simp) _).alloc (by simp; omega) _
  have hLA := hL1.below hbA
  have hbw := hb1.trans (hbA.mono hb1.size)
  generalize ((w1.alloc (.cells #[.int .u8 0] 5)).alloc (.cells #[.int .u8 97] 5 (1, 2))).alloc (.cells #[.slice (some ⟨w.heap.size + 1, 0, none⟩) 1 1, .slice (some ⟨w.heap.size + 1 + 1, 0, none⟩) 1 1] 24) = wA at hLA hbw ⊢
  clear hbA hL1 hc2
  refine (append_ok wA _ _ _ [] _ hLA (by decide) (by decide) hbw.size).mono ?_
  rintro e w3 ⟨S', rfl, hL3, hF3, _⟩
  have hb3 : Below w.heap.size w w3 := hbw.trans (hF3.below (Nat.le_refl _) (fun k hk => by simp [Value.ownBlock] at hk) hbw.size)
  go_wp2_with fail
  refine (root_ok w3 _ _ _ _ 1 hL3 (by decide) (by simp) (by simp) (by intro s hs; simp at hs; subst hs; decide)).mono ?_
  rintro e w4 ⟨rfl, hb4⟩
  rw [dig_a]
  go_wp2
  go_ret
  exact ⟨rfl, hb3.trans (hb4.mono hb3.size)⟩
end Go.Proofs.Ytlndinigbppafaa

/-
  The walk of the statements' kept: a log of the first events, each cut.
-/
namespace Go.Proofs.Ytlndinigbppafaa
open Go.RowKit

/-- An event, cut to fifty bytes. -/
def cut50 (s : ByteArray) : ByteArray := if 50 < s.size then s.extract 0 50 else s
def firstB : ByteArray := ⟨#[102, 105, 114, 115, 116]⟩
/-- The events that kept keeps. -/
def keptL (ps : List ByteArray) : List ByteArray := if ps = [] then [firstB] else (ps.take 60).map cut50
theorem cut50_le (s : ByteArray) : (cut50 s).size ≤ 50 := by
  unfold cut50; split
  · simp [ByteArray.size_extract]; omega
  · omega
theorem keptL_le (ps : List ByteArray) : ∀ s ∈ keptL ps, s.size ≤ 50 := by
  intro s hs
  unfold keptL at hs
  split at hs
  · simp at hs; subst hs; decide
  · obtain ⟨p, _, rfl⟩ := List.mem_map.1 hs; exact cut50_le p
theorem keptL_len (ps : List ByteArray) : 1 ≤ (keptL ps).length ∧ (keptL ps).length ≤ 60 := by
  unfold keptL; split
  · simp
  · rename_i h
    have : 0 < ps.length := List.length_pos_iff.2 h
    rw [List.length_map, List.length_take]; omega
theorem keptL_get (ps : List ByteArray) (k : Nat) (h : k < (keptL ps).length) : (keptL ps)[k] = if hp : k < ps.length then cut50 ps[k] else firstB := by
  by_cases hps : ps = []
  · subst hps
    have e : keptL [] = [firstB] := rfl
    have hk : k = 0 := by rw [e] at h; simpa using h
    subst hk
    simp [keptL]
  · have e : keptL ps = (ps.take 60).map cut50 := by unfold keptL; rw [if_neg hps]
    have hl : k < ps.length := by rw [e, List.length_map, List.length_take] at h; omega
    rw [dif_pos hl]
    simp only [e, List.getElem_map, List.getElem_take]

theorem log_grown {w w' : World} {b0 B : Nat} {S : Value} {evs : List ByteArray} {row : Option Nat} (h : LogAt w b0 B S evs) (hg : w.grownBy w' row) (hB : row ≠ some B) (hr : ∀ g, S.ownBlock = some g → row ≠ some g) : LogAt w' b0 B S evs := by
  refine ⟨h.1, ?_, ?_⟩
  · rw [hg.block B (lt_of_heap h.2.1) (fun e => hB e.symm)]; exact h.2.1
  · refine h.2.2.kept hg ?_
    cases hS : S.ownBlock with
    | none => left; rfl
    | some g => right; exact fun e => hr g hS e.symm
theorem row_ne_log {w : World} {b0 b1 B n : Nat} {S o : Value} {evs : List ByteArray} {xs : List Value} (h : LogAt w b0 B S evs) (ho : w.ownsRow b1 9 1 o n xs) : o.ownBlock ≠ some B := by
  intro e
  rcases ho.2 with ⟨rfl, _⟩ | ⟨g, cap, cur, rfl, _, hgg, _⟩
  · simp [Value.ownBlock] at e
  · simp [Value.ownBlock] at e
    subst e
    have := h.2.1
    rw [hgg] at this
    simp at this

/-- Behind the log's append the other row stands. -/
theorem kept_mid {wr w2 : World} {b0 B k : Nat} {S S' o : Value} {evs : List ByteArray} {xs : List Value} (hL : LogAt wr b0 B S evs) (hO : wr.ownsRow b0 9 1 o k xs) (hD : ∀ g, o.ownBlock = some g → S.ownBlock ≠ some g)
    (hF : Frame2 wr w2 B S.ownBlock) (hat : S'.ownBlock = S.ownBlock ∨ ∃ g, S'.ownBlock = some g ∧ wr.heap.size ≤ g) : w2.ownsRow b0 9 1 o k xs ∧ (∀ g, o.ownBlock = some g → S'.ownBlock ≠ some g) := by
  refine ⟨owns_frame2 hO hF (row_ne_log hL hO) hD, fun g hg => ?_⟩
  rcases hat with hat | ⟨g', hat, hge⟩
  · rw [hat]; exact hD g hg
  · rw [hat]
    intro e
    have := (hO.lt g hg).2
    simp at e
    omega
/-- Behind the other row's append the log stands. -/
theorem kept_end {w2 w3 : World} {X : Obj} {b0 B k n g cp : Nat} {S' o : Value} {evs' : List ByteArray} {xs : List Value} (hL2 : LogAt w2 b0 B S' evs') (hO2 : w2.ownsRow b0 9 1 o k xs) (hD2 : ∀ g, o.ownBlock = some g → S'.ownBlock ≠ some g)
    (hgrow : (w2.alloc X).grownBy w3 o.ownBlock) (hat : o.ownBlock = some g ∨ g = w2.heap.size + 1) : LogAt w3 b0 B S' evs' ∧ ∀ g', (Value.slice (some ⟨g, 0, none⟩) n cp).ownBlock = some g' → S'.ownBlock ≠ some g' := by
  have hLA := hL2.below ((Below.refl _ _).alloc (Nat.le_refl _) X)
  refine ⟨log_grown hLA hgrow (row_ne_log hL2 hO2) (fun g' hg' e => hD2 g' e hg'), fun g' hg' => ?_⟩
  have : g = g' := by simpa [Value.ownBlock] using hg'
  subst this
  rcases hat with hat | hat
  · exact hD2 g hat
  · intro e
    have h1 := (hL2.2.2.lt g e).2
    rw [hat] at h1
    omega

set_option maxRecDepth 100000 in
set_option maxHeartbeats 2000000 in
theorem kept_any (ps : List ByteArray) (v : Value) (w : World) (hv : StringsAt w v ps) (hn : ps.length ≤ 9223372036854775807) (hp : ∀ p ∈ ps, p.size ≤ 9223372036854775807) :
    Calls Try.prog 20 #[v] w fun e w' => ∃ (B : Nat) (S o : Value), e = .returned (.tuple #[.pointer (some ⟨B, 0, none⟩), o, .bool true]) ∧ LogAt w' w.heap.size B S (keptL ps) ∧ w'.ownsRow w.heap.size 9 1 o (keptL ps).length (strs8 (keptL ps)) ∧ (∀ g, o.ownBlock = some g → S.ownBlock ≠ some g) ∧ Below w.heap.size w w' := by
  obtain ⟨i0, hi, hz0, hz1, hz2⟩ := info_parts Try.infoStr
  obtain ⟨ao, cap, rfl, hcell⟩ := hv
  have hK1 := (keptL_len ps).1
  have hK2 := (keptL_len ps).2
  go_enter Try.func20, Try.ntmps20
  go_wp2_with fail
  refine (newLog_any _).mono ?_
  rintro e w1 ⟨rfl, hL1, hb1, hs1⟩
  have HS1 : Hid (w1.heap.size = w.heap.size + 1) := hs1
  clear hs1
  go_wp2
  go_loopw [6, 7] (fun o i wr => ∃ (k : Nat) (S : Value), k ≤ (keptL ps).length ∧ i = .int .i64 k ∧ LogAt wr w.heap.size w.heap.size S ((keptL ps).take k) ∧ wr.ownsRow w.heap.size 9 1 o k (strs8 ((keptL ps).take k)) ∧ (∀ g, o.ownBlock = some g → S.ownBlock ≠ some g) ∧ Below w.heap.size w wr)
    (fun _ i _ => (keptL ps).length - (intOf i).toNat)
  case atStart => exact ⟨0, _, Nat.zero_le _, rfl, hL1, World.ownsRow_nil _ _ _ _, fun g hg => by simp [Value.ownBlock] at hg, hb1⟩
  case round =>
    obtain ⟨k, S, hk, rfl, hL, hO, hD, hB⟩ := hrel
    have hBs := hB.size
    by_cases hlt : k < (keptL ps).length
    · have HG : Hid _ := keptL_get ps k hlt
      have HT : Hid ((keptL ps).take (k + 1) = (keptL ps).take k ++ [(keptL ps)[k]]) := take_snoc _ _ hlt
      have hle := keptL_le ps _ (List.getElem_mem hlt)
      have hl2 : ((keptL ps).take k).length = k := by rw [List.length_take]; omega
      by_cases hpk : k < ps.length
      · have hk60 : k < 60 := by omega
        obtain ⟨b, o, rfl, hbB, hcl⟩ := hcell (by omega)
        have hck := (hB.cell (p := ⟨b, o + k, none⟩) hbB).trans (hcl k hpk)
        have hsz := hp _ (List.getElem_mem hpk)
        by_cases h50 : 50 < ps[k].size
        · have h50i : (50 : Int) < (ps[k].size : Int) := by omega
          have HX : Hid ((keptL ps)[k] = ps[k].extract 0 50) := by show _ = _; rw [HG.out, dif_pos hpk]; unfold cut50; rw [if_pos h50]
          clear hcl hcell
          go_wp2_with fail
          refine (append_ok wr _ _ S ((keptL ps).take k) (ps[k].extract 0 50) hL (by rw [← HX.out]; exact hle) (by omega) hBs).mono ?_
          rintro e w2 ⟨S', rfl, hL2, hF2, hat2⟩
          rw [← HX.out, ← HT.out] at hL2
          obtain ⟨hO2, hD2⟩ := kept_mid hL hO hD hF2 hat2
          have hB2 : Below w.heap.size w w2 := hB.trans (hF2.below (Nat.le_refl _) (fun g hg => (hL.2.2.lt g hg).1) hBs)
          have hB2s := hB2.size
          rw [hl2]
          clear hL hO hD hF2 hat2 hB hBs hck
          go_wp2_with (at_builtin; refine wpList_append_lies _ rfl (.tmp 54) (.tmp 56) 22 rfl w.heap.size 9 i0 (.string ByteArray.empty) 1 16 Try.underlying22 hi hz0 hz1 hz2 rfl (by decide) _ _ _ rfl (hO2.alloc _) ⟨w2.heap.size, 0, none⟩ 1 1 [.string (ps[k].extract 0 50)] rfl rfl (World.news_of_block (heap_alloc_new w2 _)) (by intro u hu; simp at hu; subst hu; rfl) (by decide) (by unfold maxLen; omega) (by omega) (by simp; omega) _ rfl ?_)
          intro g cp w3 hown3 hgrow hat hlt3
          obtain ⟨hL3, hD3⟩ := kept_end (n := k + 1) (cp := cp) hL2 hO2 hD2 hgrow hat
          have hB3 := (hB2.alloc hB2s _).grown hgrow (by simp; omega) (fun g hg => (hO2.lt g hg).1)
          have hown4 : w3.ownsRow w.heap.size 9 1 (.slice (some ⟨g, 0, none⟩) (k + 1) cp) (k + 1) (strs8 ((keptL ps).take (k + 1))) := by rw [HT.out, strs8_append, HX.out]; exact hown3
          clear hown3 hgrow hat hL2 hO2 hD2 hB2
          go_wp2
          go_roundw
          case rel => exact ⟨k + 1, S', by omega, by go_num, hL3, hown4, hD3, hB3⟩
          case measure => simp [intOf]; omega
        · have h50i : (ps[k].size : Int) ≤ 50 := by omega
          have HX : Hid ((keptL ps)[k] = ps[k]) := by show _ = _; rw [HG.out, dif_pos hpk]; unfold cut50; rw [if_neg h50]
          clear hcl hcell
          go_wp2_with fail
          refine (append_ok wr _ _ S ((keptL ps).take k) ps[k] hL (by rw [← HX.out]; exact hle) (by omega) hBs).mono ?_
          rintro e w2 ⟨S', rfl, hL2, hF2, hat2⟩
          rw [← HX.out, ← HT.out] at hL2
          obtain ⟨hO2, hD2⟩ := kept_mid hL hO hD hF2 hat2
          have hB2 : Below w.heap.size w w2 := hB.trans (hF2.below (Nat.le_refl _) (fun g hg => (hL.2.2.lt g hg).1) hBs)
          have hB2s := hB2.size
          rw [hl2]
          clear hL hO hD hF2 hat2 hB hBs hck
          go_wp2_with (at_builtin; refine wpList_append_lies _ rfl (.tmp 54) (.tmp 56) 22 rfl w.heap.size 9 i0 (.string ByteArray.empty) 1 16 Try.underlying22 hi hz0 hz1 hz2 rfl (by decide) _ _ _ rfl (hO2.alloc _) ⟨w2.heap.size, 0, none⟩ 1 1 [.string ps[k]] rfl rfl (World.news_of_block (heap_alloc_new w2 _)) (by intro u hu; simp at hu; subst hu; rfl) (by decide) (by unfold maxLen; omega) (by omega) (by simp; omega) _ rfl ?_)
          intro g cp w3 hown3 hgrow hat hlt3
          obtain ⟨hL3, hD3⟩ := kept_end (n := k + 1) (cp := cp) hL2 hO2 hD2 hgrow hat
          have hB3 := (hB2.alloc hB2s _).grown hgrow (by simp; omega) (fun g hg => (hO2.lt g hg).1)
          have hown4 : w3.ownsRow w.heap.size 9 1 (.slice (some ⟨g, 0, none⟩) (k + 1) cp) (k + 1) (strs8 ((keptL ps).take (k + 1))) := by rw [HT.out, strs8_append, HX.out]; exact hown3
          clear hown3 hgrow hat hL2 hO2 hD2 hB2
          go_wp2
          go_roundw
          case rel => exact ⟨k + 1, S', by omega, by go_num, hL3, hown4, hD3, hB3⟩
          case measure => simp [intOf]; omega
      · have hps : ps = [] := by
          rcases Nat.eq_zero_or_pos ps.length with h | h
          · exact List.eq_nil_of_length_eq_zero h
          · exfalso
            have e : keptL ps = (ps.take 60).map cut50 := by unfold keptL; rw [if_neg (List.ne_nil_of_length_pos h)]
            rw [e, List.length_map, List.length_take] at hlt; omega
        have hk0 : k = 0 := by
          have e : keptL ps = [firstB] := by unfold keptL; rw [if_pos hps]
          rw [e] at hlt; simpa using hlt
        have HX : Hid ((keptL ps)[k] = ⟨#[102, 105, 114, 115, 116]⟩) := by show _ = _; rw [HG.out, dif_neg hpk]; rfl
        have hck : True := trivial
        have hpl : ps.length ≤ k := by omega
        have hk1 : (k : Int) < 1 := by omega
        clear hcell hps hk0
        go_wp2_with fail
        refine (append_ok wr _ _ S ((keptL ps).take k) ⟨#[102, 105, 114, 115, 116]⟩ hL (by rw [← HX.out]; exact hle) (by omega) hBs).mono ?_
        rintro e w2 ⟨S', rfl, hL2, hF2, hat2⟩
        rw [← HX.out, ← HT.out] at hL2
        obtain ⟨hO2, hD2⟩ := kept_mid hL hO hD hF2 hat2
        have hB2 : Below w.heap.size w w2 := hB.trans (hF2.below (Nat.le_refl _) (fun g hg => (hL.2.2.lt g hg).1) hBs)
        have hB2s := hB2.size
        rw [hl2]
        clear hL hO hD hF2 hat2 hB hBs hck
        go_wp2_with (at_builtin; refine wpList_append_lies _ rfl (.tmp 54) (.tmp 56) 22 rfl w.heap.size 9 i0 (.string ByteArray.empty) 1 16 Try.underlying22 hi hz0 hz1 hz2 rfl (by decide) _ _ _ rfl (hO2.alloc _) ⟨w2.heap.size, 0, none⟩ 1 1 [.string ⟨#[102, 105, 114, 115, 116]⟩] rfl rfl (World.news_of_block (heap_alloc_new w2 _)) (by intro u hu; simp at hu; subst hu; rfl) (by decide) (by unfold maxLen; omega) (by omega) (by simp; omega) _ rfl ?_)
        intro g cp w3 hown3 hgrow hat hlt3
        obtain ⟨hL3, hD3⟩ := kept_end (n := k + 1) (cp := cp) hL2 hO2 hD2 hgrow hat
        have hB3 := (hB2.alloc hB2s _).grown hgrow (by simp; omega) (fun g hg => (hO2.lt g hg).1)
        have hown4 : w3.ownsRow w.heap.size 9 1 (.slice (some ⟨g, 0, none⟩) (k + 1) cp) (k + 1) (strs8 ((keptL ps).take (k + 1))) := by rw [HT.out, strs8_append, HX.out]; exact hown3
        clear hown3 hgrow hat hL2 hO2 hD2 hB2
        go_wp2
        go_roundw
        case rel => exact ⟨k + 1, S', by omega, by go_num, hL3, hown4, hD3, hB3⟩
        case measure => simp [intOf]; omega
    · have hkl : k = (keptL ps).length := by omega
      subst hkl
      rw [List.take_length] at hL hO
      have hx : ¬ ((keptL ps).length < ps.length ∧ (keptL ps).length < 60) ∧ ¬ (keptL ps).length < 1 := by
        refine ⟨fun ⟨h1, h2⟩ => ?_, by omega⟩
        have e : keptL ps = (ps.take 60).map cut50 := by unfold keptL; rw [if_neg (List.ne_nil_of_length_pos (by omega))]
        rw [e, List.length_map, List.length_take] at h1 h2; omega
      obtain ⟨g, cp, rfl, _, _⟩ := hO.form (by omega)
      by_cases hx1 : (keptL ps).length < ps.length
      · have hx2 : 60 ≤ (keptL ps).length := by omega
        clear hx hcell
        go_wp2_with (go_at_call 38; refine (len_log _ _ _ _ _ hL).mono ?_; rintro e w4 ⟨rfl, rfl⟩)
        go_ret3
        exact ⟨_, S, _, by simp, hL, hO, hD, hB⟩
      · clear hx hcell
        go_wp2_with (go_at_call 38; refine (len_log _ _ _ _ _ hL).mono ?_; rintro e w4 ⟨rfl, rfl⟩)
        go_ret3
        exact ⟨_, S, _, by simp, hL, hO, hD, hB⟩
end Go.Proofs.Ytlndinigbppafaa

/-
  The document's digest of a node: the walk of steleref.Digest.
-/
namespace Go.Proofs.Ytlndinigbppafaa
open Go.RowKit

theorem data_cons (b : UInt8) (s : ByteArray) : (({ data := #[b] } : ByteArray) ++ s).data.toList = b :: s.data.toList := by
  rw [show ({ data := #[b] } : ByteArray) = ⟨[b].toArray⟩ from rfl, mk_append]
  rfl
theorem size_cons (b : UInt8) (s : ByteArray) : (({ data := #[b] } : ByteArray) ++ s).size = s.size + 1 := by
  have h := congrArg List.length (data_cons b s)
  rw [List.length_cons, Array.length_toList, Array.length_toList] at h
  exact h

set_option maxRecDepth 100000 in
set_option maxHeartbeats 1000000 in
theorem digest_zero (evs : List ByteArray) (p : Nat) (P N : Int) (eP : P = p) (w : World) (V : Value) (hp : p < evs.length) (hs : ∀ s ∈ evs, s.size ≤ 255) (hV : StringsAt w V evs) :
    Calls Try.prog 33 #[V, .int .i64 P, .int .i64 0, .int .i64 N] w fun e w' => e = .returned (.int .i64 (sm (0 :: evs[p].data.toList))) ∧ Below w.heap.size w w' := by
  subst eP
  obtain ⟨ao, cap, rfl, hc⟩ := hV
  obtain ⟨b, o, rfl, hb, hcell⟩ := hc (by omega)
  have c1 := hcell p hp
  have hsz := hs evs[p] (List.getElem_mem hp)
  have hpi : (p : Int) < (evs.length : Int) := by omega
  clear hc hcell hs
  generalize evs[p] = s at *
  go_enter Try.func33, Try.ntmps33
  go_wp2_with fail
  refine (refSum_any _ w (by rw [size_cons]; unfold maxLen; omega)).mono ?_
  rintro e w' ⟨rfl, rfl⟩
  rw [data_cons]
  go_wp2
  go_ret
  exact ⟨rfl, Below.refl _ _⟩

theorem two8_len (n : Int) : (two8 n).length = 2 := rfl
theorem cat1 (a : Int) : (({ data := #[2] } : ByteArray) ++ { data := (two8 a).toArray }).data.toList = 2 :: two8 a := by rw [data_cons]
theorem cat2 (a b : Int) : (({ data := #[1] } : ByteArray) ++ { data := (two8 a).toArray } ++ { data := (two8 b).toArray }).data.toList = 1 :: (two8 a ++ two8 b) := by
  have e : (({ data := #[1] } : ByteArray) ++ { data := (two8 a).toArray }) = ⟨(1 :: two8 a).toArray⟩ := mk_append [1] _
  rw [e, mk_append]
  simp
theorem cat2_size (a b : Int) : (({ data := #[1] } : ByteArray) ++ { data := (two8 a).toArray } ++ { data := (two8 b).toArray }).size = 5 := by
  have h := congrArg List.length (cat2 a b)
  rw [Array.length_toList, List.length_cons, List.length_append, two8_len, two8_len] at h
  exact h
theorem cat1_size (a : Int) : (({ data := #[2] } : ByteArray) ++ { data := (two8 a).toArray }).size = 3 := by
  have h := congrArg List.length (cat1 a)
  rw [Array.length_toList, List.length_cons, two8_len] at h
  exact h

set_option maxRecDepth 100000 in
set_option maxHeartbeats 2000000 in
theorem digest_step (evs : List ByteArray) (n d p : Nat) (P D N : Int) (V : Value) (w : World) (eP : P = p) (eD : D = (d : Int) + 1) (eN : N = n) (hd : d + 1 ≤ 16) (hp : p < n) (hn : n ≤ evs.length) (hl : evs.length ≤ 65535) (hV : StringsAt w V evs)
    (ih : Hid (∀ (p : Nat) (P D : Int) (w : World), P = p → D = d → p < n → StringsAt w V evs → Calls Try.prog 33 #[V, .int .i64 P, .int .i64 D, .int .i64 N] w fun e w' => e = .returned (.int .i64 (dig (evs.take n) d p)) ∧ Below w.heap.size w w')) :
    Calls Try.prog 33 #[V, .int .i64 P, .int .i64 D, .int .i64 N] w fun e w' => e = .returned (.int .i64 (dig (evs.take n) (d + 1) p)) ∧ Below w.heap.size w w' := by
  have h16 : pw d ≤ 65536 := pw_le (e := 16) (by omega)
  have hdz : (((d : Int) + 1) == 0) = false := beq_eq_false_iff_ne.2 (by omega)
  have hln : (evs.take n).length = n := by rw [List.length_take]; omega
  have bd := dig_bd (evs.take n) d
  have HD : Hid (dig (evs.take n) (d + 1) p = if p + pw d < n then sm (1 :: (two8 (dig (evs.take n) d p) ++ two8 (dig (evs.take n) d (p + pw d)))) else sm (2 :: two8 (dig (evs.take n) d p))) := by
    show _ = _
    rw [dig, hln]
  have hV1 := hV
  obtain ⟨ao, cap, rfl, _⟩ := hV1
  subst eP eD eN
  have PW : ∀ w' : World, Calls Try.prog 49 #[.int .i64 d] w' fun e w'' => e = .returned (.int .i64 (pw d)) ∧ w'' = w' := fun w' => power_any d w' (by omega)
  have bda := bd p
  go_enter Try.func33, Try.ntmps33
  go_wp2_with fail
  refine (PW _).mono ?_
  rintro e w' ⟨rfl, rfl⟩
  go_wp2_with fail
  refine (ih.out p _ _ _ rfl rfl hp hV).mono ?_
  rintro e w1 ⟨rfl, hb1⟩
  have hV1 := hV.below hb1
  by_cases hR : p + pw d < n
  · have hRi : ((p : Int) + (pw d : Int)) < (n : Int) := by omega
    have hRn : ¬ ((n : Int) ≤ (p : Int) + (pw d : Int)) := by omega
    rw [if_pos hR] at HD
    have bdb := bd (p + pw d)
    have IH : ∀ w, StringsAt w (.slice ao evs.length cap) evs → _ := fun w => ih.out (p + pw d) ((p : Int) + (pw d : Int)) d w (by omega) rfl hR
    obtain ⟨ba0, ba1⟩ := bda
    obtain ⟨bb0, bb1⟩ := bdb
    clear bd ih hV
    go_wp2_with fail
    refine (two_any _ _ ba0 ba1).mono ?_
    rintro e w' ⟨rfl, rfl⟩
    have hA : Below w1.heap.size w1 (w1.alloc (.cells #[.int .u8 (dig (evs.take n) d p / 256 % 256), .int .u8 (dig (evs.take n) d p % 256)] 5)) := (Below.refl _ _).alloc (Nat.le_refl _) _
    have hV2 := hV1.below hA
    have hB2 := hb1.trans (hA.mono hb1.size)
    generalize w1.alloc (.cells #[.int .u8 (dig (evs.take n) d p / 256 % 256), .int .u8 (dig (evs.take n) d p % 256)] 5) = w2 at hV2 hB2 ⊢
    have s1 : (({ data := #[1] } : ByteArray) ++ { data := (two8 (dig (evs.take n) d p)).toArray }).size = 3 := by rw [size_cons, mk_size, two8_len]
    have s2 : ({ data := (two8 (dig (evs.take n) d (p + pw d))).toArray } : ByteArray).size = 2 := by rw [mk_size, two8_len]
    clear hA hV1 hb1
    go_wp2_with fail
    refine (IH _ hV2).mono ?_
    rintro e w3 ⟨rfl, hb3⟩
    have hB3 := hB2.trans (hb3.mono hB2.size)
    go_wp2_with fail
    refine (two_any _ _ bb0 bb1).mono ?_
    rintro e w' ⟨rfl, rfl⟩
    have hB4 := hB3.alloc hB3.size (.cells #[.int .u8 (dig (evs.take n) d (p + pw d) / 256 % 256), .int .u8 (dig (evs.take n) d (p + pw d) % 256)] 5)
    generalize w3.alloc (.cells #[.int .u8 (dig (evs.take n) d (p + pw d) / 256 % 256), .int .u8 (dig (evs.take n) d (p + pw d) % 256)] 5) = w4 at hB4 ⊢
    go_wp2_with fail
    refine (refSum_any _ _ (by rw [cat2_size]; unfold maxLen; omega)).mono ?_
    rintro e w' ⟨rfl, rfl⟩
    rw [cat2]
    go_wp2
    go_ret
    exact ⟨by rw [HD.out]; rfl, hB4⟩
  · have hRi : (n : Int) ≤ ((p : Int) + (pw d : Int)) := by omega
    rw [if_neg hR] at HD
    obtain ⟨ba0, ba1⟩ := bda
    clear bd ih hV
    go_wp2_with fail
    refine (two_any _ _ ba0 ba1).mono ?_
    rintro e w' ⟨rfl, rfl⟩
    have hB2 := hb1.alloc hb1.size (.cells #[.int .u8 (dig (evs.take n) d p / 256 % 256), .int .u8 (dig (evs.take n) d p % 256)] 5)
    generalize w1.alloc (.cells #[.int .u8 (dig (evs.take n) d p / 256 % 256), .int .u8 (dig (evs.take n) d p % 256)] 5) = w2 at hB2 ⊢
    have s2 : ({ data := (two8 (dig (evs.take n) d p)).toArray } : ByteArray).size = 2 := by rw [mk_size, two8_len]
    go_wp2_with fail
    refine (refSum_any _ _ (by rw [cat1_size]; unfold maxLen; omega)).mono ?_
    rintro e w' ⟨rfl, rfl⟩
    rw [cat1]
    go_wp2
    go_ret
    exact ⟨by rw [HD.out]; rfl, hB2⟩

theorem digest_ref (evs : List ByteArray) (n : Nat) (hn : n ≤ evs.length) (hl : evs.length ≤ 65535) (hs : ∀ s ∈ evs, s.size ≤ 255) (V : Value) (N : Int) (eN : N = n) (d : Nat) (hd : d ≤ 16) :
    ∀ (p : Nat) (P D : Int) (w : World), P = p → D = d → p < n → StringsAt w V evs → Calls Try.prog 33 #[V, .int .i64 P, .int .i64 D, .int .i64 N] w fun e w' => e = .returned (.int .i64 (dig (evs.take n) d p)) ∧ Below w.heap.size w w' := by
  induction d with
  | zero =>
    intro p P D w eP eD hp hV
    have : D = 0 := by omega
    subst this
    refine (digest_zero evs p P N eP w V (by omega) hs hV).mono fun e w' h => ⟨?_, h.2⟩
    rw [h.1, dig]
    congr 4
    unfold evAt
    rw [List.getElem?_take, if_pos hp, List.getElem?_eq_getElem (by omega)]
    rfl
  | succ d ih =>
    intro p P D w eP eD hp hV
    exact digest_step evs n d p P D N V w eP (by omega) eN hd hp hn hl hV (ih (by omega))
end Go.Proofs.Ytlndinigbppafaa

/-
  Reading a message, as plain mathematics: the document's P6.
-/
namespace Go.Proofs.Ytlndinigbppafaa

/-- Two bytes' number. -/
def num2 (a b : UInt8) : Int := 256 * a.toNat + b.toNat
theorem num2_bd (a b : UInt8) : 0 ≤ num2 a b ∧ num2 a b ≤ 65535 := by
  have := a.toNat_lt; have := b.toNat_lt; unfold num2; omega

/-- A tree's shape, by which nodes a proof leaves out. -/
inductive Shp (k M N : Int) : Nat → Nat → List PN → Prop
  | stub (d p : Nat) (g : Int) : kindOf k M N p d = 0 → 0 ≤ g → g ≤ 65535 → Shp k M N d p [⟨0, g, ByteArray.empty⟩]
  | leaf (p : Nat) (e : ByteArray) : kindOf k M N p 0 = 1 → e.size ≤ 50 → Shp k M N 0 p [⟨1, 0, e⟩]
  | two (d p : Nat) (a b : List PN) : kindOf k M N p (d + 1) = 2 → Shp k M N d p a → Shp k M N d (p + pw d) b → Shp k M N (d + 1) p (⟨2, 0, ByteArray.empty⟩ :: (a ++ b))
  | alone (d p : Nat) (a : List PN) : kindOf k M N p (d + 1) = 3 → Shp k M N d p a → Shp k M N (d + 1) p (⟨3, 0, ByteArray.empty⟩ :: a)

theorem kindOf_zero (k M N : Int) (p : Nat) : kindOf k M N p 0 = 0 ∨ kindOf k M N p 0 = 1 := by
  unfold kindOf
  by_cases h : (if k = 2 then ((p : Int) + pw 0 ≤ M ∨ M ≤ p) else (M < p ∨ (p : Int) + pw 0 ≤ M))
  · left; rw [if_pos h]
  · right; rw [if_neg h, if_pos rfl]
theorem kindOf_succ (k M N : Int) (p d : Nat) : kindOf k M N p (d + 1) = 0 ∨ kindOf k M N p (d + 1) = 2 ∨ kindOf k M N p (d + 1) = 3 := by
  unfold kindOf
  by_cases h : (if k = 2 then ((p : Int) + pw (d + 1) ≤ M ∨ M ≤ p) else (M < p ∨ (p : Int) + pw (d + 1) ≤ M))
  · left; rw [if_pos h]
  · right
    by_cases h2 : (p : Int) + pw (d + 1 - 1) < N
    · left; rw [if_neg h, if_neg (by omega), if_pos h2]
    · right; rw [if_neg h, if_neg (by omega), if_neg h2]

/-- The node at p of depth d is read from place a on: its nodes and the place behind, or the error and its place. -/
def rdNode (s : List UInt8) (k M N : Int) : Nat → Nat → Nat → Except (Int × Nat) (List PN × Nat)
  | 0, p, a =>
    match s[a]? with
    | none => .error (5, s.length)
    | some c =>
      if (c.toNat : Int) ≠ kindOf k M N p 0 then .error (7, a)
      else if kindOf k M N p 0 = 0 then
        match s[a + 1]?, s[a + 2]? with
        | some x, some y => .ok ([⟨0, num2 x y, ByteArray.empty⟩], a + 3)
        | _, _ => .error (5, s.length)
      else
        match s[a + 1]? with
        | none => .error (5, s.length)
        | some z => if 50 < z.toNat then .error (2, a) else if s.length < a + 2 + z.toNat then .error (5, s.length) else .ok ([⟨1, 0, ⟨((s.drop (a + 2)).take z.toNat).toArray⟩⟩], a + 2 + z.toNat)
  | d + 1, p, a =>
    match s[a]? with
    | none => .error (5, s.length)
    | some c =>
      if (c.toNat : Int) ≠ kindOf k M N p (d + 1) then .error (7, a)
      else if kindOf k M N p (d + 1) = 0 then
        match s[a + 1]?, s[a + 2]? with
        | some x, some y => .ok ([⟨0, num2 x y, ByteArray.empty⟩], a + 3)
        | _, _ => .error (5, s.length)
      else if kindOf k M N p (d + 1) = 2 then
        match rdNode s k M N d p (a + 1) with
        | .error e => .error e
        | .ok (l, a') =>
          match rdNode s k M N d (p + pw d) a' with
          | .error e => .error e
          | .ok (r, a'') => .ok (⟨2, 0, ByteArray.empty⟩ :: (l ++ r), a'')
      else
        match rdNode s k M N d p (a + 1) with
        | .error e => .error e
        | .ok (l, a') => .ok (⟨3, 0, ByteArray.empty⟩ :: l, a')

/-- A message's value. -/
structure Msg where
  kind : Int
  m : Int
  n : Int
  root : Int
  tree : List PN

/-- The fields ahead of the tree, the error of them first. -/
def rdHead (s : List UInt8) : Except (Int × Nat) (Int × Int × Int × Int × Nat) :=
  if 4000 < s.length then .error (2, 0) else
  match s[0]? with
  | none => .error (5, 0)
  | some c =>
    if (c.toNat : Int) < 1 ∨ 3 < (c.toNat : Int) then .error (4, 0) else
    if (c.toNat : Int) = 1 then
      match s[1]?, s[2]?, s[3]?, s[4]? with
      | some a, some b, some x, some y => if num2 a b < 1 ∨ 500 < num2 a b then .error (1, 1) else .ok (1, 0, num2 a b, num2 x y, 5)
      | _, _, _, _ => .error (5, s.length)
    else if (c.toNat : Int) = 2 then
      match s[1]?, s[2]?, s[3]?, s[4]?, s[5]?, s[6]? with
      | some u, some v, some a, some b, some x, some y =>
        if num2 a b < 1 ∨ 500 < num2 a b then .error (1, 3) else if num2 u v < 1 ∨ num2 a b < num2 u v then .error (1, 1) else .ok (2, num2 u v, num2 a b, num2 x y, 7)
      | _, _, _, _, _, _ => .error (5, s.length)
    else
      match s[1]?, s[2]?, s[3]?, s[4]? with
      | some u, some v, some a, some b =>
        if num2 a b < 1 ∨ 500 < num2 a b then .error (1, 3) else if num2 a b ≤ num2 u v then .error (1, 1) else .ok (3, num2 u v, num2 a b, 0, 5)
      | _, _, _, _ => .error (5, s.length)

/-- P6. -/
def decS (s : List UInt8) : Except (Int × Nat) Msg :=
  match rdHead s with
  | .error e => .error e
  | .ok (k, m, n, r, a) =>
    if k = 1 then (if a < s.length then .error (6, a) else .ok ⟨k, m, n, r, []⟩) else
    match rdNode s k m n (dep n.toNat) 0 a with
    | .error e => .error e
    | .ok (l, a') => if a' < s.length then .error (6, a') else .ok ⟨k, m, n, r, l⟩

theorem b8_byte (c : UInt8) : b8 (c.toNat : Int) = c := by
  unfold b8; rw [Int.toNat_natCast]; exact UInt8.ofNat_toNat
theorem two8_num2 (a b : UInt8) : two8 (num2 a b) = [a, b] := by
  have h1 := a.toNat_lt
  have h2 := b.toNat_lt
  have e1 : (num2 a b / 256 % 256).toNat = a.toNat := by unfold num2; omega
  have e2 : (num2 a b % 256).toNat = b.toNat := by unfold num2; omega
  unfold two8
  rw [e1, e2, UInt8.ofNat_toNat, UInt8.ofNat_toNat]
theorem num2_two8 (g : Int) (h0 : 0 ≤ g) (h1 : g ≤ 65535) : num2 (UInt8.ofNat (g / 256 % 256).toNat) (UInt8.ofNat (g % 256).toNat) = g := by
  have e1 := b8_nat (g / 256 % 256) (by omega) (by omega)
  have e2 := b8_nat (g % 256) (by omega) (by omega)
  unfold b8 at e1 e2
  unfold num2
  rw [e1, e2]; omega

/-- Bytes of s from a on. -/
def At (s : List UInt8) (a : Nat) (l : List UInt8) : Prop := (s.drop a).take l.length = l ∧ a + l.length ≤ s.length
theorem At.get {s : List UInt8} {a : Nat} {l : List UInt8} (h : At s a l) (j : Nat) (hj : j < l.length) : s[a + j]? = some l[j] := by
  have e : l[j]? = some l[j] := List.getElem?_eq_getElem hj
  have e2 : ((s.drop a).take l.length)[j]? = l[j]? := congrArg (fun x => x[j]?) h.1
  rw [List.getElem?_take, if_pos hj, List.getElem?_drop, e] at e2
  exact e2
theorem At.of_get {s : List UInt8} {a : Nat} {l : List UInt8} (h : ∀ j (hj : j < l.length), s[a + j]? = some l[j]) (hl : a + l.length ≤ s.length) : At s a l := by
  refine ⟨?_, hl⟩
  apply List.ext_getElem?
  intro j
  rw [List.getElem?_take]
  by_cases hj : j < l.length
  · rw [if_pos hj, List.getElem?_drop, h j hj, List.getElem?_eq_getElem hj]
  · rw [if_neg hj, List.getElem?_eq_none (by omega)]
theorem At.append {s : List UInt8} {a : Nat} {l r : List UInt8} : At s a (l ++ r) ↔ At s a l ∧ At s (a + l.length) r := by
  constructor
  · intro h
    have hl := h.2
    rw [List.length_append] at hl
    refine ⟨At.of_get (fun j hj => ?_) (by omega), At.of_get (fun j hj => ?_) (by omega)⟩
    · have := h.get j (by rw [List.length_append]; omega)
      rw [this, List.getElem_append_left hj]
    · have := h.get (l.length + j) (by rw [List.length_append]; omega)
      rw [Nat.add_assoc, this, List.getElem_append_right (by omega)]
      simp
  · rintro ⟨h1, h2⟩
    refine At.of_get (fun j hj => ?_) (by have := h2.2; rw [List.length_append]; omega)
    by_cases hjl : j < l.length
    · rw [h1.get j hjl, List.getElem_append_left hjl]
    · rw [List.length_append] at hj
      have := h2.get (j - l.length) (by omega)
      rw [show a + l.length + (j - l.length) = a + j by omega] at this
      rw [this, List.getElem_append_right (by omega)]

theorem encNs_one (x : PN) : encNs [x] = encN x := by unfold encNs; simp
theorem encNs_cons (x : PN) (l : List PN) : encNs (x :: l) = encN x ++ encNs l := by unfold encNs; rw [List.map_cons, List.flatten_cons]

/-- A tree of the shape whose bytes stand there is read. -/
theorem rdNode_shp (s : List UInt8) (k M N : Int) {d p : Nat} {l : List PN} (h : Shp k M N d p l) : ∀ a, At s a (encNs l) → rdNode s k M N d p a = .ok (l, a + (encNs l).length) := by
  induction h with
  | stub d p g hk h0 h1 =>
    intro a ha
    have e : encNs [(⟨0, g, ByteArray.empty⟩ : PN)] = [0, UInt8.ofNat (g / 256 % 256).toNat, UInt8.ofNat (g % 256).toNat] := by
      rw [encNs_one]; rfl
    rw [e] at ha ⊢
    have q0 := ha.get 0 (by simp)
    have q1 := ha.get 1 (by simp)
    have q2 := ha.get 2 (by simp)
    simp only [Nat.add_zero, List.getElem_cons_zero, List.getElem_cons_succ] at q0 q1 q2
    cases d with
    | zero => simp [rdNode, q0, q1, q2, hk, num2_two8 g h0 h1]
    | succ d => simp [rdNode, q0, q1, q2, hk, num2_two8 g h0 h1]
  | leaf p e hk he =>
    intro a ha
    have hee : e.data.toList.length = e.size := by rw [Array.length_toList]; rfl
    have hb : (b8 (e.size : Int)).toNat = e.size := by have := b8_nat (e.size : Int) (by omega) (by omega); omega
    have en : encNs [(⟨1, 0, e⟩ : PN)] = [1, b8 (e.size : Int)] ++ e.data.toList := by
      rw [encNs_one]; rfl
    rw [en] at ha ⊢
    obtain ⟨h1, h2⟩ := At.append.1 ha
    have q0 := h1.get 0 (by simp)
    have q1 := h1.get 1 (by simp)
    simp only [Nat.add_zero, List.getElem_cons_zero, List.getElem_cons_succ] at q0 q1
    have h3 := h2.2
    have h4 := h2.1
    rw [hee] at h3 h4
    simp only [List.length_cons, List.length_nil] at h3 h4
    have hd : (⟨((s.drop (a + 2)).take e.size).toArray⟩ : ByteArray) = e := by
      rw [h4]
    simp [rdNode, q0, q1, hk, hb, hd, hee]
    rw [if_neg (by omega), if_neg (by omega)]
    congr 2
    omega
  | two d p l r hk _ _ ihl ihr =>
    intro a ha
    have en : encNs ((⟨2, 0, ByteArray.empty⟩ : PN) :: (l ++ r)) = [2] ++ (encNs l ++ encNs r) := by
      rw [encNs_cons, encNs_append]; rfl
    rw [en] at ha ⊢
    obtain ⟨h1, h2⟩ := At.append.1 ha
    obtain ⟨h3, h4⟩ := At.append.1 h2
    have q0 := h1.get 0 (by simp)
    simp only [Nat.add_zero, List.getElem_cons_zero] at q0
    have e1 := ihl (a + 1) h3
    have e2 := ihr (a + 1 + (encNs l).length) h4
    simp [rdNode, q0, hk, e1, e2]
    omega
  | alone d p l hk _ ihl =>
    intro a ha
    have en : encNs ((⟨3, 0, ByteArray.empty⟩ : PN) :: l) = [3] ++ encNs l := by
      rw [encNs_cons]; rfl
    rw [en] at ha ⊢
    obtain ⟨h1, h2⟩ := At.append.1 ha
    have q0 := h1.get 0 (by simp)
    simp only [Nat.add_zero, List.getElem_cons_zero] at q0
    have e1 := ihl (a + 1) h2
    simp [rdNode, q0, hk, e1]
    omega
theorem at_one {s : List UInt8} {a : Nat} {c : UInt8} (h : s[a]? = some c) : At s a [c] := by
  have hl : a < s.length := by
    rcases Nat.lt_or_ge a s.length with h' | h'
    · exact h'
    · rw [List.getElem?_eq_none h'] at h; cases h
  refine At.of_get (fun j hj => ?_) (by simp; omega)
  have : j = 0 := by simp at hj; exact hj
  subst this
  simpa using h
theorem at_cons {s : List UInt8} {a : Nat} {c : UInt8} {l : List UInt8} (h : s[a]? = some c) (hl : At s (a + 1) l) : At s a (c :: l) := by
  have := (At.append (s := s) (a := a) (l := [c]) (r := l)).2 ⟨at_one h, hl⟩
  exact this
theorem u8_of_int {c : UInt8} {k : Int} (h : (c.toNat : Int) = k) : c = b8 k := by rw [← h, b8_byte]

/-- A tree that is read is of the shape, and its bytes stand there. -/
theorem rdNode_ok (s : List UInt8) (k M N : Int) : ∀ (d p a : Nat) (l : List PN) (a' : Nat), rdNode s k M N d p a = .ok (l, a') → Shp k M N d p l ∧ At s a (encNs l) ∧ a' = a + (encNs l).length := by
  have stub : ∀ (d p a : Nat) (x y c : UInt8), kindOf k M N p d = 0 → (c.toNat : Int) = 0 → s[a]? = some c → s[a + 1]? = some x → s[a + 2]? = some y →
      Shp k M N d p [⟨0, num2 x y, ByteArray.empty⟩] ∧ At s a (encNs [⟨0, num2 x y, ByteArray.empty⟩]) ∧ a + 3 = a + (encNs [(⟨0, num2 x y, ByteArray.empty⟩ : PN)]).length := by
    intro d p a x y c hk hc h0 h1 h2
    have e : encNs [(⟨0, num2 x y, ByteArray.empty⟩ : PN)] = [c, x, y] := by
      rw [encNs_one, u8_of_int hc]
      show b8 0 :: (two8 (num2 x y) ++ []) = _
      rw [two8_num2]; rfl
    rw [e]
    exact ⟨.stub d p _ hk (num2_bd x y).1 (num2_bd x y).2, at_cons h0 (at_cons h1 (at_one h2)), rfl⟩
  intro d
  induction d with
  | zero =>
    intro p a l a' h
    rw [rdNode] at h
    split at h
    · cases h
    · rename_i c h0
      split at h
      · cases h
      · rename_i hc
        have hc' : (c.toNat : Int) = kindOf k M N p 0 := by omega
        split at h
        · rename_i hk
          split at h
          · rename_i x y h1 h2
            simp only [Except.ok.injEq, Prod.mk.injEq] at h
            obtain ⟨rfl, rfl⟩ := h
            exact stub 0 p a x y c hk (by omega) h0 h1 h2
          · cases h
        · rename_i hk
          have hk1 : kindOf k M N p 0 = 1 := by rcases kindOf_zero k M N p with h' | h' <;> omega
          split at h
          · cases h
          · rename_i z hz
            split at h
            · cases h
            · split at h
              · cases h
              · simp only [Except.ok.injEq, Prod.mk.injEq] at h
                obtain ⟨rfl, rfl⟩ := h
                have hs : ((s.drop (a + 2)).take z.toNat).length = z.toNat := by rw [List.length_take, List.length_drop]; omega
                have hsz : (⟨((s.drop (a + 2)).take z.toNat).toArray⟩ : ByteArray).size = z.toNat := by
                  show ((s.drop (a + 2)).take z.toNat).toArray.size = _
                  rw [List.size_toArray, hs]
                have e : encNs [(⟨1, 0, ⟨((s.drop (a + 2)).take z.toNat).toArray⟩⟩ : PN)] = c :: z :: (s.drop (a + 2)).take z.toNat := by
                  rw [encNs_one, u8_of_int (hc'.trans hk1)]
                  show b8 1 :: ([] ++ (b8 ((⟨((s.drop (a + 2)).take z.toNat).toArray⟩ : ByteArray).size : Int) :: ((s.drop (a + 2)).take z.toNat))) = _
                  rw [hsz, b8_byte]; rfl
                rw [e]
                refine ⟨.leaf p _ hk1 (by rw [hsz]; omega), at_cons h0 (at_cons hz ⟨by rw [hs], by rw [hs]; omega⟩), ?_⟩
                simp only [List.length_cons, hs]; omega
  | succ d ih =>
    intro p a l a' h
    rw [rdNode] at h
    split at h
    · cases h
    · rename_i c h0
      split at h
      · cases h
      · rename_i hc
        have hc' : (c.toNat : Int) = kindOf k M N p (d + 1) := by omega
        split at h
        · rename_i hk
          split at h
          · rename_i x y h1 h2
            simp only [Except.ok.injEq, Prod.mk.injEq] at h
            obtain ⟨rfl, rfl⟩ := h
            exact stub (d + 1) p a x y c hk (by omega) h0 h1 h2
          · cases h
        · rename_i hk0
          split at h
          · rename_i hk2
            split at h
            · cases h
            · rename_i l1 a1 e1
              split at h
              · cases h
              · rename_i l2 a2 e2
                simp only [Except.ok.injEq, Prod.mk.injEq] at h
                obtain ⟨rfl, rfl⟩ := h
                obtain ⟨s1, t1, rfl⟩ := ih p (a + 1) _ _ e1
                obtain ⟨s2, t2, rfl⟩ := ih _ _ _ _ e2
                have en : encNs ((⟨2, 0, ByteArray.empty⟩ : PN) :: (l1 ++ l2)) = c :: (encNs l1 ++ encNs l2) := by
                  rw [encNs_cons, encNs_append, u8_of_int (hc'.trans hk2)]; rfl
                rw [en]
                refine ⟨.two d p _ _ hk2 s1 s2, at_cons h0 (At.append.2 ⟨t1, t2⟩), ?_⟩
                simp only [List.length_cons, List.length_append]; omega
          · rename_i hk2
            have hk3 : kindOf k M N p (d + 1) = 3 := by rcases kindOf_succ k M N p d with h' | h' | h' <;> omega
            split at h
            · cases h
            · rename_i l1 a1 e1
              simp only [Except.ok.injEq, Prod.mk.injEq] at h
              obtain ⟨rfl, rfl⟩ := h
              obtain ⟨s1, t1, rfl⟩ := ih p (a + 1) _ _ e1
              have en : encNs ((⟨3, 0, ByteArray.empty⟩ : PN) :: l1) = c :: encNs l1 := by
                rw [encNs_cons, u8_of_int (hc'.trans hk3)]; rfl
              rw [en]
              refine ⟨.alone d p _ hk3 s1, at_cons h0 t1, ?_⟩
              simp only [List.length_cons]; omega

end Go.Proofs.Ytlndinigbppafaa

/-
  Which values a message has, as plain mathematics: the document's P7 beside its P6.
-/
namespace Go.Proofs.Ytlndinigbppafaa

/-- The values of which the document's bytes tell. -/
structure ValidM (x : Msg) : Prop where
  k : x.kind = 1 ∨ x.kind = 2 ∨ x.kind = 3
  n : 1 ≤ x.n ∧ x.n ≤ 500
  r : 0 ≤ x.root ∧ x.root ≤ 65535
  c : x.kind = 1 → x.m = 0 ∧ x.tree = []
  g : x.kind = 2 → 1 ≤ x.m ∧ x.m ≤ x.n
  m : x.kind = 3 → 0 ≤ x.m ∧ x.m < x.n ∧ x.root = 0
  t : x.kind ≠ 1 → Shp x.kind x.m x.n (dep x.n.toNat) 0 x.tree

def encV (x : Msg) : List UInt8 := encM x.kind x.m x.n x.root x.tree

theorem growth_noleaf (M N : Int) (p : Nat) : kindOf 2 M N p 0 ≠ 1 := by
  unfold kindOf
  have h : (p : Int) + pw 0 ≤ M ∨ M ≤ p := by rw [pw_zero]; omega
  simp [h]
/-- Of two nodes below one at least one is a stub. -/
theorem stub_one (k M N : Int) (p d : Nat) (hk : kindOf k M N p d ≠ 0) : kindOf k M N (p + pw d) d = 0 := by
  unfold kindOf at hk ⊢
  by_cases h2 : k = 2
  · subst h2
    simp only [if_pos] at hk ⊢
    rw [if_pos]
    have h : ¬ ((p : Int) + pw d ≤ M ∨ M ≤ p) := fun h => hk (if_pos h)
    rw [Int.natCast_add]; omega
  · simp only [if_neg h2] at hk ⊢
    rw [if_pos]
    have h : ¬ (M < p ∨ (p : Int) + pw d ≤ M) := fun h => hk (if_pos h)
    rw [Int.natCast_add]; omega
theorem shp_stub {k M N : Int} {d p : Nat} {l : List PN} (h : Shp k M N d p l) (hk : kindOf k M N p d = 0) : (encNs l).length = 3 := by
  cases h with
  | stub _ _ g _ _ _ => rw [encNs_one]; rfl
  | leaf _ e h1 _ => omega
  | two d _ a b h1 _ _ => omega
  | alone d _ a h1 _ => omega
theorem shp_len {k M N : Int} {d p : Nat} {l : List PN} (h : Shp k M N d p l) : (encNs l).length ≤ 52 + 4 * d := by
  induction h with
  | stub d p g _ _ _ => rw [encNs_one]; show 3 ≤ _; omega
  | leaf p e _ he =>
    have := encN_le ⟨1, 0, e⟩ 48
    rw [encNs_one]
    show (b8 1 :: ([] ++ (b8 e.size :: e.data.toList))).length ≤ _
    have hee : e.data.toList.length = e.size := by rw [Array.length_toList]; rfl
    simp only [List.nil_append, List.length_cons, hee]; omega
  | two d p a b hk ha hb iha ihb =>
    rw [encNs_cons, encNs_append]
    have e : (encN ⟨2, 0, ByteArray.empty⟩).length = 1 := rfl
    rw [List.length_append, List.length_append, e]
    by_cases h0 : kindOf k M N p d = 0
    · have := shp_stub ha h0; omega
    · have := shp_stub hb (stub_one k M N p d h0); omega
  | alone d p a hk ha iha =>
    rw [encNs_cons]
    have e : (encN ⟨3, 0, ByteArray.empty⟩).length = 1 := rfl
    rw [List.length_append, e]; omega
theorem dep_500 (n : Int) (h : n ≤ 500) : dep n.toNat ≤ 9 := dep_le _ _ (by rw [pw_9]; omega)
theorem ValidM.len {x : Msg} (h : ValidM x) : (encV x).length ≤ 4000 := by
  unfold encV encM
  have h1 := encH_le x.kind x.m x.n x.root
  rw [List.length_append]
  by_cases hk : x.kind = 1
  · rw [(h.c hk).2]
    have e : (encNs ([] : List PN)).length = 0 := rfl
    omega
  · have := shp_len (h.t hk)
    have := dep_500 x.n h.n.2
    omega
theorem at_zero (s : List UInt8) : At s 0 s := ⟨by rw [List.drop_zero, List.take_length], by omega⟩
theorem at_whole {s l : List UInt8} (h : At s 0 l) (hl : s.length ≤ l.length) : s = l := by
  have := h.1; rw [List.drop_zero, List.take_of_length_le hl] at this; exact this

theorem num2_of_two8 (g : Int) (h0 : 0 ≤ g) (h1 : g ≤ 65535) {a b : UInt8} (e : two8 g = [a, b]) : num2 a b = g := by
  unfold two8 at e
  simp only [List.cons.injEq, and_true] at e
  rw [← e.1, ← e.2]; exact num2_two8 g h0 h1

/-- The bytes of a value that may be are read as it. -/
theorem decS_enc {x : Msg} (h : ValidM x) : decS (encV x) = .ok x := by
  obtain ⟨k, m, n, r, t⟩ := x
  have hl := h.len
  obtain ⟨hk, hn, hr, hc, hg, hm, ht⟩ := h
  simp only at hk hn hr hc hg hm ht
  have hn2 := num2_two8 n (by omega) (by omega)
  have hr2 := num2_two8 r (by omega) (by omega)
  rcases hk with rfl | rfl | rfl
  · obtain ⟨rfl, rfl⟩ := hc rfl
    have e : encV ⟨1, 0, n, r, []⟩ = [1, UInt8.ofNat (n / 256 % 256).toNat, UInt8.ofNat (n % 256).toNat, UInt8.ofNat (r / 256 % 256).toNat, UInt8.ofNat (r % 256).toNat] := rfl
    rw [e]
    simp [decS, rdHead, hn2, hr2]
    rw [if_neg (by omega)]
    simp
  · have hg := hg rfl
    have hm2 := num2_two8 m (by omega) (by omega)
    have ht := ht (by omega)
    have e : encV ⟨2, m, n, r, t⟩ = [2, UInt8.ofNat (m / 256 % 256).toNat, UInt8.ofNat (m % 256).toNat, UInt8.ofNat (n / 256 % 256).toNat, UInt8.ofNat (n % 256).toNat, UInt8.ofNat (r / 256 % 256).toNat, UInt8.ofNat (r % 256).toNat] ++ encNs t := rfl
    rw [e] at hl ⊢
    have ha := (At.append.1 (at_zero ([2, UInt8.ofNat (m / 256 % 256).toNat, UInt8.ofNat (m % 256).toNat, UInt8.ofNat (n / 256 % 256).toNat, UInt8.ofNat (n % 256).toNat, UInt8.ofNat (r / 256 % 256).toNat, UInt8.ofNat (r % 256).toNat] ++ encNs t))).2
    have hd := rdNode_shp _ 2 m n ht _ ha
    have hh : rdHead ([2, UInt8.ofNat (m / 256 % 256).toNat, UInt8.ofNat (m % 256).toNat, UInt8.ofNat (n / 256 % 256).toNat, UInt8.ofNat (n % 256).toNat, UInt8.ofNat (r / 256 % 256).toNat, UInt8.ofNat (r % 256).toNat] ++ encNs t) = .ok (2, m, n, r, 7) := by
      rw [rdHead, if_neg (by omega)]
      simp [hn2, hr2, hm2]
      rw [if_neg (by omega), if_neg (by omega)]
    rw [decS, hh]
    simp only [List.length_cons, List.length_nil, Nat.zero_add, Nat.reduceAdd] at hd
    simp only [hd]
    rw [if_neg (by omega), if_neg (by simp; omega)]
  · have hm := hm rfl
    obtain ⟨hm0, hm1, rfl⟩ := hm
    have hm2 := num2_two8 m (by omega) (by omega)
    have ht := ht (by omega)
    have e : encV ⟨3, m, n, 0, t⟩ = [3, UInt8.ofNat (m / 256 % 256).toNat, UInt8.ofNat (m % 256).toNat, UInt8.ofNat (n / 256 % 256).toNat, UInt8.ofNat (n % 256).toNat] ++ encNs t := rfl
    rw [e] at hl ⊢
    have ha := (At.append.1 (at_zero ([3, UInt8.ofNat (m / 256 % 256).toNat, UInt8.ofNat (m % 256).toNat, UInt8.ofNat (n / 256 % 256).toNat, UInt8.ofNat (n % 256).toNat] ++ encNs t))).2
    have hd := rdNode_shp _ 3 m n ht _ ha
    have hh : rdHead ([3, UInt8.ofNat (m / 256 % 256).toNat, UInt8.ofNat (m % 256).toNat, UInt8.ofNat (n / 256 % 256).toNat, UInt8.ofNat (n % 256).toNat] ++ encNs t) = .ok (3, m, n, 0, 5) := by
      rw [rdHead, if_neg (by omega)]
      simp [hn2, hm2]
      rw [if_neg (by omega), if_neg (by omega)]
    rw [decS, hh]
    simp only [List.length_cons, List.length_nil, Nat.zero_add, Nat.reduceAdd] at hd
    simp only [hd]
    rw [if_neg (by omega), if_neg (by simp; omega)]

/-- What is read is a value that may be, and its bytes are those. -/
theorem decS_ok {s : List UInt8} {x : Msg} (h : decS s = .ok x) : ValidM x ∧ s = encV x := by
  unfold decS at h
  split at h
  · cases h
  · rename_i k m n r a hh
    unfold rdHead at hh
    split at hh
    · cases hh
    split at hh
    · cases hh
    rename_i c h0
    split at hh
    · cases hh
    split at hh
    · rename_i hc
      split at hh
      · rename_i a1 b1 x1 y1 h1 h2 h3 h4
        split at hh
        · cases hh
        rename_i hn
        simp only [Except.ok.injEq, Prod.mk.injEq] at hh
        obtain ⟨rfl, rfl, rfl, rfl, rfl⟩ := hh
        rw [if_pos rfl] at h
        split at h
        · cases h
        rename_i hl
        simp only [Except.ok.injEq] at h
        subst h
        have hb := num2_bd x1 y1
        refine ⟨⟨Or.inl rfl, ⟨by simp only; omega, by simp only; omega⟩, hb, fun _ => ⟨rfl, rfl⟩, fun h => by simp at h, fun h => by simp at h, fun h => absurd rfl h⟩, ?_⟩
        have e : encV ⟨1, 0, num2 a1 b1, num2 x1 y1, []⟩ = [c, a1, b1, x1, y1] := by
          rw [u8_of_int hc]
          show b8 1 :: ([] ++ (two8 (num2 a1 b1) ++ two8 (num2 x1 y1))) ++ [] = _
          rw [two8_num2, two8_num2]; rfl
        rw [e]
        exact at_whole (at_cons h0 (at_cons h1 (at_cons h2 (at_cons h3 (at_one h4))))) (by simp; omega)
      · cases hh
    split at hh
    · rename_i hc1 hc
      split at hh
      · rename_i u1 v1 a1 b1 x1 y1 h1 h2 h3 h4 h5 h6
        split at hh
        · cases hh
        rename_i hn
        split at hh
        · cases hh
        rename_i hm
        simp only [Except.ok.injEq, Prod.mk.injEq] at hh
        obtain ⟨rfl, rfl, rfl, rfl, rfl⟩ := hh
        rw [if_neg (by omega)] at h
        split at h
        · cases h
        rename_i l a' hd
        split at h
        · cases h
        rename_i hl
        simp only [Except.ok.injEq] at h
        subst h
        obtain ⟨hs, ha, rfl⟩ := rdNode_ok s 2 _ _ _ _ _ _ _ hd
        have hb := num2_bd x1 y1
        refine ⟨⟨Or.inr (Or.inl rfl), ⟨by simp only; omega, by simp only; omega⟩, hb, fun h => by simp at h, fun _ => ⟨by simp only; omega, by simp only; omega⟩, fun h => by simp at h, fun _ => hs⟩, ?_⟩
        have e : encV ⟨2, num2 u1 v1, num2 a1 b1, num2 x1 y1, l⟩ = c :: u1 :: v1 :: a1 :: b1 :: x1 :: y1 :: encNs l := by
          rw [u8_of_int hc]
          show b8 2 :: (two8 (num2 u1 v1) ++ (two8 (num2 a1 b1) ++ two8 (num2 x1 y1))) ++ encNs l = _
          rw [two8_num2, two8_num2, two8_num2]; rfl
        rw [e]
        exact at_whole (at_cons h0 (at_cons h1 (at_cons h2 (at_cons h3 (at_cons h4 (at_cons h5 (at_cons h6 ha))))))) (by simp only [List.length_cons]; omega)
      · cases hh
    · rename_i hc1 hc2
      have hc : (c.toNat : Int) = 3 := by omega
      split at hh
      · rename_i u1 v1 a1 b1 h1 h2 h3 h4
        split at hh
        · cases hh
        rename_i hn
        split at hh
        · cases hh
        rename_i hm
        simp only [Except.ok.injEq, Prod.mk.injEq] at hh
        obtain ⟨rfl, rfl, rfl, rfl, rfl⟩ := hh
        rw [if_neg (by omega)] at h
        split at h
        · cases h
        rename_i l a' hd
        split at h
        · cases h
        rename_i hl
        simp only [Except.ok.injEq] at h
        subst h
        obtain ⟨hs, ha, rfl⟩ := rdNode_ok s 3 _ _ _ _ _ _ _ hd
        have hb := num2_bd u1 v1
        refine ⟨⟨Or.inr (Or.inr rfl), ⟨by simp only; omega, by simp only; omega⟩, ⟨by simp, by simp⟩, fun h => by simp at h, fun h => by simp at h, fun _ => ⟨hb.1, by simp only; omega, rfl⟩, fun _ => hs⟩, ?_⟩
        have e : encV ⟨3, num2 u1 v1, num2 a1 b1, 0, l⟩ = c :: u1 :: v1 :: a1 :: b1 :: encNs l := by
          rw [u8_of_int hc]
          show b8 3 :: (two8 (num2 u1 v1) ++ (two8 (num2 a1 b1) ++ [])) ++ encNs l = _
          rw [two8_num2, two8_num2]; rfl
        rw [e]
        exact at_whole (at_cons h0 (at_cons h1 (at_cons h2 (at_cons h3 (at_cons h4 ha))))) (by simp only [List.length_cons]; omega)
      · cases hh
end Go.Proofs.Ytlndinigbppafaa

/-
  Reading a message by its kind, as plain mathematics.
-/
namespace Go.Proofs.Ytlndinigbppafaa

/-- What is left of reading behind the fields: the tree, and the end. -/
def decT (l : List UInt8) (k M N R : Int) (a : Nat) : Except (Int × Nat) Msg :=
  match rdNode l k M N (dep N.toNat) 0 a with
  | .error e => .error e
  | .ok (t, a') => if a' < l.length then .error (6, a') else .ok ⟨k, M, N, R, t⟩
def dec1G (l : List UInt8) (N R : Int) : Except (Int × Nat) Msg :=
  if N < 1 ∨ 500 < N then .error (1, 1) else if 5 < l.length then .error (6, 5) else .ok ⟨1, 0, N, R, []⟩
def dec2G (l : List UInt8) (M N R : Int) : Except (Int × Nat) Msg :=
  if N < 1 ∨ 500 < N then .error (1, 3) else if M < 1 ∨ N < M then .error (1, 1) else decT l 2 M N R 7
def dec3G (l : List UInt8) (M N : Int) : Except (Int × Nat) Msg :=
  if N < 1 ∨ 500 < N then .error (1, 3) else if N ≤ M then .error (1, 1) else decT l 3 M N 0 5

theorem decS_long (l : List UInt8) (h : 4000 < l.length) : decS l = .error (2, 0) := by
  unfold decS rdHead; rw [if_pos h]
theorem decS_nil (l : List UInt8) (h : l.length = 0) : decS l = .error (5, 0) := by
  rw [List.eq_nil_of_length_eq_zero h]; rfl
theorem decS_kind (l : List UInt8) (h : 0 < l.length) (hl : l.length ≤ 4000) (hk : (l[0].toNat : Int) < 1 ∨ (3 : Int) < (l[0].toNat : Int)) : decS l = .error (4, 0) := by
  unfold decS rdHead
  rw [if_neg (by omega), List.getElem?_eq_getElem h]
  simp only
  rw [if_pos hk]

theorem decS_1s (l : List UInt8) (h : 0 < l.length) (hk : (l[0].toNat : Int) = 1) (h5 : l.length < 5) : decS l = .error (5, l.length) := by
  unfold decS rdHead
  rw [if_neg (by omega), List.getElem?_eq_getElem h]
  simp only
  rw [if_neg (by omega), if_pos hk, List.getElem?_eq_none (show l.length ≤ 4 by omega)]
  cases l[1]? <;> cases l[2]? <;> cases l[3]? <;> rfl
theorem decS_2s (l : List UInt8) (h : 0 < l.length) (hk : (l[0].toNat : Int) = 2) (h5 : l.length < 7) : decS l = .error (5, l.length) := by
  unfold decS rdHead
  rw [if_neg (by omega), List.getElem?_eq_getElem h]
  simp only
  rw [if_neg (by omega), if_neg (by omega), if_pos hk, List.getElem?_eq_none (show l.length ≤ 6 by omega)]
  cases l[1]? <;> cases l[2]? <;> cases l[3]? <;> cases l[4]? <;> cases l[5]? <;> rfl
theorem decS_3s (l : List UInt8) (h : 0 < l.length) (hk : (l[0].toNat : Int) = 3) (h5 : l.length < 5) : decS l = .error (5, l.length) := by
  unfold decS rdHead
  rw [if_neg (by omega), List.getElem?_eq_getElem h]
  simp only
  rw [if_neg (by omega), if_neg (by omega), if_neg (by omega), List.getElem?_eq_none (show l.length ≤ 4 by omega)]
  cases l[1]? <;> cases l[2]? <;> cases l[3]? <;> rfl
theorem decS_1 (l : List UInt8) (h5 : 5 ≤ l.length) (hl : l.length ≤ 4000) (hk : (l[0].toNat : Int) = 1) : decS l = dec1G l (num2 l[1] l[2]) (num2 l[3] l[4]) := by
  unfold decS rdHead dec1G
  rw [if_neg (by omega), List.getElem?_eq_getElem (show 0 < l.length by omega)]
  simp only
  rw [if_neg (by omega), if_pos hk, List.getElem?_eq_getElem (show 1 < l.length by omega), List.getElem?_eq_getElem (show 2 < l.length by omega), List.getElem?_eq_getElem (show 3 < l.length by omega), List.getElem?_eq_getElem (show 4 < l.length by omega)]
  simp only
  by_cases hN : num2 l[1] l[2] < 1 ∨ (500 : Int) < num2 l[1] l[2]
  · rw [if_pos hN, if_pos hN]
  · rw [if_neg hN, if_neg hN]
    simp only [if_pos]
theorem decS_2 (l : List UInt8) (h5 : 7 ≤ l.length) (hl : l.length ≤ 4000) (hk : (l[0].toNat : Int) = 2) : decS l = dec2G l (num2 l[1] l[2]) (num2 l[3] l[4]) (num2 l[5] l[6]) := by
  unfold decS rdHead dec2G decT
  rw [if_neg (by omega), List.getElem?_eq_getElem (show 0 < l.length by omega)]
  simp only
  rw [if_neg (by omega), if_neg (by omega), if_pos hk, List.getElem?_eq_getElem (show 1 < l.length by omega), List.getElem?_eq_getElem (show 2 < l.length by omega), List.getElem?_eq_getElem (show 3 < l.length by omega), List.getElem?_eq_getElem (show 4 < l.length by omega), List.getElem?_eq_getElem (show 5 < l.length by omega), List.getElem?_eq_getElem (show 6 < l.length by omega)]
  simp only
  by_cases hN : num2 l[3] l[4] < 1 ∨ (500 : Int) < num2 l[3] l[4]
  · rw [if_pos hN, if_pos hN]
  · rw [if_neg hN, if_neg hN]
    by_cases hM : num2 l[1] l[2] < 1 ∨ num2 l[3] l[4] < num2 l[1] l[2]
    · rw [if_pos hM, if_pos hM]
    · rw [if_neg hM, if_neg hM]
      simp only
      rw [if_neg (by omega)]
      all_goals (generalize rdNode _ _ _ _ _ _ _ = r; cases r <;> rfl)
theorem decS_3 (l : List UInt8) (h5 : 5 ≤ l.length) (hl : l.length ≤ 4000) (hk : (l[0].toNat : Int) = 3) : decS l = dec3G l (num2 l[1] l[2]) (num2 l[3] l[4]) := by
  unfold decS rdHead dec3G decT
  rw [if_neg (by omega), List.getElem?_eq_getElem (show 0 < l.length by omega)]
  simp only
  rw [if_neg (by omega), if_neg (by omega), if_neg (by omega), List.getElem?_eq_getElem (show 1 < l.length by omega), List.getElem?_eq_getElem (show 2 < l.length by omega), List.getElem?_eq_getElem (show 3 < l.length by omega), List.getElem?_eq_getElem (show 4 < l.length by omega)]
  simp only
  by_cases hN : num2 l[3] l[4] < 1 ∨ (500 : Int) < num2 l[3] l[4]
  · rw [if_pos hN, if_pos hN]
  · rw [if_neg hN, if_neg hN]
    by_cases hM : num2 l[3] l[4] ≤ num2 l[1] l[2]
    · rw [if_pos hM, if_pos hM]
    · rw [if_neg hM, if_neg hM]
      simp only
      rw [if_neg (by omega)]
      all_goals (generalize rdNode _ _ _ _ _ _ _ = r; cases r <;> rfl)
end Go.Proofs.Ytlndinigbppafaa

/-
  Reading a message that was cut short, or has a byte more, as plain mathematics.
-/
namespace Go.Proofs.Ytlndinigbppafaa

/-- The bytes of s from a on, up to its end, are the first of l, and not all. -/
def Cut (s : List UInt8) (a : Nat) (l : List UInt8) : Prop := a ≤ s.length ∧ s.length < a + l.length ∧ ∀ j, a + j < s.length → s[a + j]? = l[j]?

theorem Cut.split {s : List UInt8} {a : Nat} {l r : List UInt8} (h : Cut s a (l ++ r)) : Cut s a l ∨ (At s a l ∧ Cut s (a + l.length) r) := by
  obtain ⟨h1, h2, h3⟩ := h
  rw [List.length_append] at h2
  rcases Nat.lt_or_ge s.length (a + l.length) with h | h
  · left
    refine ⟨h1, h, fun j hj => ?_⟩
    rw [h3 j hj, List.getElem?_append_left (by omega)]
  · right
    refine ⟨At.of_get (fun j hj => ?_) h, h, by omega, fun j hj => ?_⟩
    · rcases Nat.lt_or_ge (a + j) s.length with hh | hh
      · rw [h3 j hh, List.getElem?_append_left hj, List.getElem?_eq_getElem hj]
      · omega
    · rw [Nat.add_assoc, h3 (l.length + j) (by omega), List.getElem?_append_right (by omega)]
      simp

/-- The first byte, if the cut is behind it. -/
theorem Cut.one {s : List UInt8} {a : Nat} {c : UInt8} {r : List UInt8} (h : Cut s a (c :: r)) : s[a]? = none ∨ (s[a]? = some c ∧ Cut s (a + 1) r) := by
  rcases Cut.split (l := [c]) (r := r) h with h | ⟨h, h'⟩
  · left
    have := h.1; have := h.2.1
    simp only [List.length_cons, List.length_nil] at this
    exact List.getElem?_eq_none (by omega)
  · right
    have := h.get 0 (by simp)
    simp only [Nat.add_zero, List.getElem_cons_zero] at this
    exact ⟨this, h'⟩
theorem Cut.nil {s : List UInt8} {a : Nat} (h : Cut s a []) : False := by
  have := h.1; have := h.2.1
  simp only [List.length_nil] at this
  omega

/-- A tree of the shape whose bytes are cut short is too short. -/
theorem rdNode_cut (s : List UInt8) (k M N : Int) {d p : Nat} {l : List PN} (h : Shp k M N d p l) : ∀ a, Cut s a (encNs l) → rdNode s k M N d p a = .error (5, s.length) := by
  induction h with
  | stub d p g hk h0 h1 =>
    intro a ha
    have e : encNs [(⟨0, g, ByteArray.empty⟩ : PN)] = [0, UInt8.ofNat (g / 256 % 256).toNat, UInt8.ofNat (g % 256).toNat] := by
      rw [encNs_one]; rfl
    rw [e] at ha
    rcases ha.one with q0 | ⟨q0, ha⟩
    · cases d with
      | zero => simp [rdNode, q0]
      | succ d => simp [rdNode, q0]
    · rcases ha.one with q1 | ⟨q1, ha⟩
      · cases d with
        | zero => simp [rdNode, q0, q1, hk]
        | succ d => simp [rdNode, q0, q1, hk]
      · rcases ha.one with q2 | ⟨q2, ha⟩
        · cases d with
          | zero => simp [rdNode, q0, q1, q2, hk]
          | succ d => simp [rdNode, q0, q1, q2, hk]
        · exact ha.nil.elim
  | leaf p e hk he =>
    intro a ha
    have hee : e.data.toList.length = e.size := by rw [Array.length_toList]; rfl
    have hb : (b8 (e.size : Int)).toNat = e.size := by have := b8_nat (e.size : Int) (by omega) (by omega); omega
    have en : encNs [(⟨1, 0, e⟩ : PN)] = 1 :: b8 (e.size : Int) :: e.data.toList := by
      rw [encNs_one]; rfl
    rw [en] at ha
    rcases ha.one with q0 | ⟨q0, ha⟩
    · simp [rdNode, q0]
    · rcases ha.one with q1 | ⟨q1, ha⟩
      · simp [rdNode, q0, q1, hk]
      · have h3 := ha.2.1
        rw [hee] at h3
        simp [rdNode, q0, q1, hk, hb]
        rw [if_neg (by omega), if_pos (by omega)]
  | two d p l r hk hl _ ihl ihr =>
    intro a ha
    have en : encNs ((⟨2, 0, ByteArray.empty⟩ : PN) :: (l ++ r)) = 2 :: (encNs l ++ encNs r) := by
      rw [encNs_cons, encNs_append]; rfl
    rw [en] at ha
    rcases ha.one with q0 | ⟨q0, ha⟩
    · simp [rdNode, q0]
    · rcases ha.split with h1 | ⟨h1, h2⟩
      · simp [rdNode, q0, hk, ihl _ h1]
      · simp [rdNode, q0, hk, rdNode_shp s k M N hl _ h1, ihr _ h2]
  | alone d p l hk _ ihl =>
    intro a ha
    have en : encNs ((⟨3, 0, ByteArray.empty⟩ : PN) :: l) = 3 :: encNs l := by
      rw [encNs_cons]; rfl
    rw [en] at ha
    rcases ha.one with q0 | ⟨q0, ha⟩
    · simp [rdNode, q0]
    · simp [rdNode, q0, hk, ihl _ ha]

theorem cut_of (e t : List UInt8) (c : Nat) (hc : c < t.length) : Cut (e ++ t.take c) e.length t := by
  refine ⟨by simp, ?_, fun j hj => ?_⟩
  · rw [List.length_append, List.length_take]; omega
  · rw [List.length_append, List.length_take] at hj
    rw [List.getElem?_append_right (by omega), Nat.add_sub_cancel_left, List.getElem?_take, if_pos (by omega)]

theorem at_of (e t r : List UInt8) : At (e ++ (t ++ r)) e.length t := by
  have := (At.append.1 (at_zero (e ++ (t ++ r)))).2
  rw [Nat.zero_add] at this
  exact (At.append.1 this).1

/-- The fields of a message that may be, whatever stands behind. -/
theorem rdHead_enc {x : Msg} (h : ValidM x) (t : List UInt8) (hl : (encH x.kind x.m x.n x.root ++ t).length ≤ 4000) : rdHead (encH x.kind x.m x.n x.root ++ t) = .ok (x.kind, x.m, x.n, x.root, (encH x.kind x.m x.n x.root).length) := by
  obtain ⟨k, m, n, r, tr⟩ := x
  obtain ⟨hk, hn, hr, hc, hg, hm, ht⟩ := h
  simp only at hk hn hr hc hg hm ht hl ⊢
  have hn2 := num2_two8 n (by omega) (by omega)
  have hr2 := num2_two8 r (by omega) (by omega)
  rcases hk with rfl | rfl | rfl
  · obtain ⟨rfl, rfl⟩ := hc rfl
    have e : encH 1 0 n r = [1, UInt8.ofNat (n / 256 % 256).toNat, UInt8.ofNat (n % 256).toNat, UInt8.ofNat (r / 256 % 256).toNat, UInt8.ofNat (r % 256).toNat] := rfl
    rw [e] at hl ⊢
    rw [rdHead, if_neg (by omega)]
    simp [hn2, hr2]
    omega
  · have hg := hg rfl
    have hm2 := num2_two8 m (by omega) (by omega)
    have e : encH 2 m n r = [2, UInt8.ofNat (m / 256 % 256).toNat, UInt8.ofNat (m % 256).toNat, UInt8.ofNat (n / 256 % 256).toNat, UInt8.ofNat (n % 256).toNat, UInt8.ofNat (r / 256 % 256).toNat, UInt8.ofNat (r % 256).toNat] := rfl
    rw [e] at hl ⊢
    rw [rdHead, if_neg (by omega)]
    simp [hn2, hr2, hm2]
    rw [if_neg (by omega), if_neg (by omega)]
  · obtain ⟨hm0, hm1, rfl⟩ := hm rfl
    have hm2 := num2_two8 m (by omega) (by omega)
    have e : encH 3 m n 0 = [3, UInt8.ofNat (m / 256 % 256).toNat, UInt8.ofNat (m % 256).toNat, UInt8.ofNat (n / 256 % 256).toNat, UInt8.ofNat (n % 256).toNat] := rfl
    rw [e] at hl ⊢
    rw [rdHead, if_neg (by omega)]
    simp [hn2, hm2]
    rw [if_neg (by omega), if_neg (by omega)]

/-- A message with a byte more. -/
theorem decS_more {x : Msg} (h : ValidM x) (z : UInt8) (hl : (encV x).length < 4000) : decS (encV x ++ [z]) = .error (6, (encV x).length) := by
  have e : encV x = encH x.kind x.m x.n x.root ++ encNs x.tree := rfl
  rw [e] at hl ⊢
  rw [List.append_assoc]
  have hh := rdHead_enc h (encNs x.tree ++ [z]) (by rw [← List.append_assoc, List.length_append]; simp only [List.length_cons, List.length_nil]; omega)
  rw [decS, hh]
  simp only
  by_cases hk : x.kind = 1
  · obtain ⟨hm, ht⟩ := h.c hk
    rw [if_pos hk, ht]
    have e2 : encNs ([] : List PN) = [] := rfl
    rw [e2]
    simp
  · rw [if_neg hk, rdNode_shp _ _ _ _ (h.t hk) _ (at_of _ _ _)]
    simp only
    rw [if_pos (by simp), List.length_append]

/-- A message that is cut short. -/
theorem decS_cut {x : Msg} (h : ValidM x) (c : Nat) (hc : c < (encV x).length) : decS ((encV x).take c) = .error (5, c) := by
  have hlen := h.len
  have hcl : ((encV x).take c).length = c := by rw [List.length_take]; omega
  have e : encV x = encH x.kind x.m x.n x.root ++ encNs x.tree := rfl
  rcases Nat.lt_or_ge c (encH x.kind x.m x.n x.root).length with hh | hh
  · rcases Nat.eq_zero_or_pos c with rfl | h0
    · rw [decS_nil _ hcl]
    · have hp : 0 < ((encV x).take c).length := by omega
      have hget : ((encV x).take c)[0] = b8 x.kind := by
        rw [List.getElem_take]
        have : (encV x)[0]? = some (b8 x.kind) := by rw [e]; rfl
        rw [List.getElem?_eq_getElem (by omega)] at this
        exact Option.some.inj this
      have key : ∀ r, (((encV x).take c).length = c) → decS ((encV x).take c) = .error (5, ((encV x).take c).length) → r = c → decS ((encV x).take c) = .error (5, r) := by
        intro r h1 h2 h3; rw [h2, h1, h3]
      refine key c hcl ?_ rfl
      rcases h.k with hk | hk | hk
      · rw [hk] at hget
        have h5 : (encH x.kind x.m x.n x.root).length = 5 := by rw [hk]; rfl
        exact decS_1s _ hp (by rw [hget]; rfl) (by omega)
      · rw [hk] at hget
        have h5 : (encH x.kind x.m x.n x.root).length = 7 := by rw [hk]; rfl
        exact decS_2s _ hp (by rw [hget]; rfl) (by omega)
      · rw [hk] at hget
        have h5 : (encH x.kind x.m x.n x.root).length = 5 := by rw [hk]; rfl
        exact decS_3s _ hp (by rw [hget]; rfl) (by omega)
  · have hE : (encV x).take c = encH x.kind x.m x.n x.root ++ (encNs x.tree).take (c - (encH x.kind x.m x.n x.root).length) := by
      rw [e, List.take_append, List.take_of_length_le hh]
    have hc2 : c - (encH x.kind x.m x.n x.root).length < (encNs x.tree).length := by
      rw [e, List.length_append] at hc; omega
    have hd := rdHead_enc h ((encNs x.tree).take (c - (encH x.kind x.m x.n x.root).length)) (by rw [← hE, hcl]; omega)
    have hcut := cut_of (encH x.kind x.m x.n x.root) (encNs x.tree) _ hc2
    have hk : x.kind ≠ 1 := fun hk => by
      have ht := (h.c hk).2
      rw [ht] at hc2
      have e2 : (encNs ([] : List PN)).length = 0 := rfl
      omega
    have hr := rdNode_cut _ _ _ _ (h.t hk) _ hcut
    rw [← hE, hcl] at hr
    rw [← hE] at hd
    rw [decS, hd]
    simp only
    rw [if_neg hk, hr]
end Go.Proofs.Ytlndinigbppafaa

/-
  The walks of the document's reader: the bytes and numbers of a message.
-/
namespace Go.Proofs.Ytlndinigbppafaa
open Go.RowKit

/-- A reader: its own block, and its row of nodes. -/
def ScanAt (w : World) (b0 B : Nat) (s : ByteArray) (a e q : Int) (V : Value) (ns : List PN) : Prop :=
  b0 ≤ B ∧ w.heap[B]? = some (.cells #[.string s, .int .i64 a, .int .i64 e, .int .i64 q, V] 96 (0, 0)) ∧ w.ownsRow b0 100 3 V ns.length (cellsN ns)

theorem ScanAt.cell {w : World} {b0 B : Nat} {s : ByteArray} {a e q : Int} {V : Value} {ns : List PN} (h : ScanAt w b0 B s a e q V ns) :
    w.cell? ⟨B, 0, none⟩ = some (.string s) ∧ w.cell? ⟨B, 1, none⟩ = some (.int .i64 a) ∧ w.cell? ⟨B, 2, none⟩ = some (.int .i64 e) ∧ w.cell? ⟨B, 3, none⟩ = some (.int .i64 q) ∧ w.cell? ⟨B, 4, none⟩ = some V := by
  refine ⟨?_, ?_, ?_, ?_, ?_⟩ <;> (rw [cell_of_row _ _ _ _ _ _ h.2.1]; rfl)
theorem ScanAt.frozen {w : World} {b0 B : Nat} {s : ByteArray} {a e q : Int} {V : Value} {ns : List PN} (h : ScanAt w b0 B s a e q V ns) (j : Nat) : w.frozen? ⟨B, j, none⟩ = false := by
  unfold World.frozen?; rw [h.2.1]; simp
theorem ScanAt.row_ne {w : World} {b0 B : Nat} {s : ByteArray} {a e q : Int} {V : Value} {ns : List PN} (h : ScanAt w b0 B s a e q V ns) : V.ownBlock ≠ some B := by
  intro x
  rcases h.2.2.2 with ⟨rfl, _⟩ | ⟨g, cap, cur, rfl, _, hgg, _⟩
  · simp [Value.ownBlock] at x
  · simp [Value.ownBlock] at x
    subst x
    have := h.2.1
    rw [hgg] at this
    simp at this
theorem ScanAt.below {w w' : World} {b0 B : Nat} {s : ByteArray} {a e q : Int} {V : Value} {ns : List PN} (h : ScanAt w b0 B s a e q V ns) (hb : Below w.heap.size w w') : ScanAt w' b0 B s a e q V ns := by
  obtain ⟨h0, h1, h2⟩ := h
  exact ⟨h0, by rw [hb.block B (lt_of_heap h1)]; exact h1, owns_below h2 hb⟩
/-- A store into one of its numbers. -/
theorem ScanAt.set1 {w : World} {b0 B : Nat} {s : ByteArray} {a e q : Int} {V : Value} {ns : List PN} (h : ScanAt w b0 B s a e q V ns) (x : Int) : ScanAt (w.setCell ⟨B, 1, none⟩ (.int .i64 x)) b0 B s x e q V ns :=
  ⟨h.1, by simp [World.setCell, Array.getElem?_modify, h.2.1], ownsRow_setCell_other h.2.2 h.row_ne _⟩
theorem ScanAt.set2 {w : World} {b0 B : Nat} {s : ByteArray} {a e q : Int} {V : Value} {ns : List PN} (h : ScanAt w b0 B s a e q V ns) (x : Int) : ScanAt (w.setCell ⟨B, 2, none⟩ (.int .i64 x)) b0 B s a x q V ns :=
  ⟨h.1, by simp [World.setCell, Array.getElem?_modify, h.2.1], ownsRow_setCell_other h.2.2 h.row_ne _⟩
theorem ScanAt.set3 {w : World} {b0 B : Nat} {s : ByteArray} {a e q : Int} {V : Value} {ns : List PN} (h : ScanAt w b0 B s a e q V ns) (x : Int) : ScanAt (w.setCell ⟨B, 3, none⟩ (.int .i64 x)) b0 B s a e x V ns :=
  ⟨h.1, by simp [World.setCell, Array.getElem?_modify, h.2.1], ownsRow_setCell_other h.2.2 h.row_ne _⟩

theorem Frame2.refl (w : World) (B : Nat) (row : Option Nat) : Frame2 w w B row := ⟨rfl, rfl, rfl, Nat.le_refl _, fun _ _ _ _ => rfl⟩
theorem Frame2.set (w w' : World) (B j : Nat) (row : Option Nat) (u : Value) (h : Frame2 w w' B row) : Frame2 w (w'.setCell ⟨B, j, none⟩ u) B row :=
  ⟨h.os, h.tape, h.output, by simpa [World.setCell] using h.size, fun k hk hB hr => by rw [Below.heap_setCell _ _ _ _ hB]; exact h.block k hk hB hr⟩

theorem Frame2.then {w w' w'' : World} {B : Nat} {row : Option Nat} (h : Frame2 w w' B row) (hb : Below w'.heap.size w' w'') : Frame2 w w'' B row :=
  ⟨hb.os.trans h.os, hb.tape.trans h.tape, hb.output.trans h.output, Nat.le_trans h.size hb.size, fun k hk hB hr => (hb.block k (Nat.lt_of_lt_of_le hk h.size)).trans (h.block k hk hB hr)⟩
theorem Frame2.trans {w w' w'' : World} {B : Nat} {row row' : Option Nat} (h : Frame2 w w' B row) (h' : Frame2 w' w'' B row') (hr : row' = none ∨ row' = row ∨ ∃ g, row' = some g ∧ w.heap.size ≤ g := by exact Or.inl rfl) : Frame2 w w'' B row :=
  ⟨h'.os.trans h.os, h'.tape.trans h.tape, h'.output.trans h.output, Nat.le_trans h.size h'.size, fun k hk hB hk2 => (h'.block k (Nat.lt_of_lt_of_le hk h.size) hB (by
    rcases hr with rfl | rfl | ⟨g, rfl, hg⟩
    · simp
    · exact hk2
    · intro e; cases e; omega)).trans (h.block k hk hB hk2)⟩
theorem Frame2.of_below {w w' : World} (B : Nat) (row : Option Nat) (hb : Below w.heap.size w w') : Frame2 w w' B row := (Frame2.refl w B row).then hb
theorem below_qn (w : World) (n : Nat) : Below w.heap.size w (w.drewN n) := below_drewN (Below.refl _ _) n

set_option maxRecDepth 100000 in
set_option maxHeartbeats 400000 in
theorem no_first (w : World) (b0 B : Nat) (s : ByteArray) (a q : Int) (V : Value) (ns : List PN) (x y : Int) (h : ScanAt w b0 B s a 0 q V ns) :
    Calls Try.prog 57 #[.pointer (some ⟨B, 0, none⟩), .int .i64 x, .int .i64 y] w fun r w' => r = .returned (.tuple #[]) ∧ ScanAt w' b0 B s a x y V ns ∧ Frame2 w w' B none := by
  obtain ⟨c0, c1, c2, c3, c4⟩ := h.cell
  have z2 := h.frozen 2
  have z3 := h.frozen 3
  have hB := lt_of_heap h.2.1
  have HS := (h.set2 x).set3 y
  have HF := (Frame2.refl w B none).set _ _ B 2 none (.int .i64 x) |>.set _ _ B 3 none (.int .i64 y)
  go_enter Try.func57, Try.ntmps57
  go_wp2
  go_returns
  exact ⟨rfl, HS, HF⟩

set_option maxRecDepth 100000 in
set_option maxHeartbeats 400000 in
theorem no_more (w : World) (b0 B : Nat) (s : ByteArray) (a e q : Int) (V : Value) (ns : List PN) (x y : Int) (h : ScanAt w b0 B s a e q V ns) (he : e ≠ 0) :
    Calls Try.prog 57 #[.pointer (some ⟨B, 0, none⟩), .int .i64 x, .int .i64 y] w fun r w' => r = .returned (.tuple #[]) ∧ w' = w := by
  obtain ⟨c0, c1, c2, c3, c4⟩ := h.cell
  have heb : (e == 0) = false := beq_eq_false_iff_ne.2 he
  go_enter Try.func57, Try.ntmps57
  go_wp2
  go_returns
  exact ⟨rfl, rfl⟩

theorem get_int (s : ByteArray) (a : Nat) (h : a < s.size) : s.data.toList[a]? = some s[a] := by
  rw [Array.getElem?_toList, Array.getElem?_eq_getElem (show a < s.data.size from h)]; rfl

set_option maxRecDepth 100000 in
set_option maxHeartbeats 400000 in
theorem next_ok (w : World) (b0 B : Nat) (s : ByteArray) (a : Nat) (q : Int) (V : Value) (ns : List PN) (h : ScanAt w b0 B s a 0 q V ns) (ha : a < s.size) (hs : s.size ≤ 4000) :
    Calls Try.prog 56 #[.pointer (some ⟨B, 0, none⟩)] w fun r w' => r = .returned (.int .i64 s[a].toNat) ∧ ScanAt w' b0 B s (a + 1 : Nat) 0 q V ns ∧ Frame2 w w' B none := by
  obtain ⟨c0, c1, c2, c3, c4⟩ := h.cell
  have z1 := h.frozen 1
  have hB := lt_of_heap h.2.1
  go_enter Try.func56, Try.ntmps56
  go_wp2
  go_quiet (fail)
  go_wp2
  go_quiet (fail)
  go_wp2
  go_returns
  exact ⟨ret_int (by have := s[a].toNat_lt; go_arith), ((h.below (below_qn _ _)).set1 _).below (below_qn _ _), ((Frame2.of_below B none (below_qn w _)).set _ _ B 1 none _).then (below_qn _ _)⟩

set_option maxRecDepth 100000 in
set_option maxHeartbeats 400000 in
theorem next_end (w : World) (b0 B : Nat) (s : ByteArray) (a : Nat) (q : Int) (V : Value) (ns : List PN) (h : ScanAt w b0 B s a 0 q V ns) (ha : s.size ≤ a) :
    Calls Try.prog 56 #[.pointer (some ⟨B, 0, none⟩)] w fun r w' => r = .returned (.int .i64 0) ∧ ScanAt w' b0 B s a 5 s.size V ns ∧ Frame2 w w' B none := by
  obtain ⟨c0, c1, c2, c3, c4⟩ := h.cell
  go_enter Try.func56, Try.ntmps56
  go_wp2
  go_quiet (fail)
  go_wp2_with (go_at_call 57; refine (no_first _ _ _ _ _ _ _ _ 5 s.size (h.below (below_qn _ _))).mono ?_; rintro e w' ⟨rfl, h', hF⟩; obtain ⟨d0, d1, d2, d3, d4⟩ := h'.cell)
  go_returns
  exact ⟨rfl, h', (Frame2.of_below B none (below_qn w _)).trans hF⟩

set_option maxRecDepth 100000 in
set_option maxHeartbeats 400000 in
theorem next_err (w : World) (b0 B : Nat) (s : ByteArray) (a : Nat) (e q : Int) (V : Value) (ns : List PN) (h : ScanAt w b0 B s a e q V ns) (he : e ≠ 0) :
    Calls Try.prog 56 #[.pointer (some ⟨B, 0, none⟩)] w fun r w' => r = .returned (.int .i64 0) ∧ Below w.heap.size w w' := by
  obtain ⟨c0, c1, c2, c3, c4⟩ := h.cell
  have heb : (e == 0) = false := beq_eq_false_iff_ne.2 he
  by_cases ha : a < s.size
  · go_enter Try.func56, Try.ntmps56
    go_wp2
    go_quiet (fail)
    go_wp2
    go_returns
    exact ⟨rfl, below_qn _ _⟩
  · go_enter Try.func56, Try.ntmps56
    go_wp2
    go_quiet (fail)
    go_wp2_with (go_at_call 57; refine (no_more _ _ _ _ _ _ _ _ _ 5 s.size (h.below (below_qn _ _)) he).mono ?_; rintro e w' ⟨rfl, rfl⟩)
    go_returns
    exact ⟨rfl, below_qn _ _⟩

/-- A byte is read: what comes, the place, the error and its place behind it. -/
def nxR (s : ByteArray) (a : Nat) (e : Int) : Int := if h : e = 0 ∧ a < s.size then s[a].toNat else 0
def nxA (s : ByteArray) (a : Nat) (e : Int) : Nat := if e = 0 ∧ a < s.size then a + 1 else a
def nxE (s : ByteArray) (a : Nat) (e : Int) : Int := if e = 0 then (if a < s.size then 0 else 5) else e
def nxQ (s : ByteArray) (a : Nat) (e q : Int) : Int := if e = 0 then (if a < s.size then q else s.size) else q
theorem nxR_bd (s : ByteArray) (a : Nat) (e : Int) : 0 ≤ nxR s a e ∧ nxR s a e ≤ 255 := by
  unfold nxR
  split
  · have := (s[a]).toNat_lt; omega
  · omega
theorem nxA_le (s : ByteArray) (a : Nat) (e : Int) (h : a ≤ s.size) : nxA s a e ≤ s.size := by
  unfold nxA; split <;> omega

theorem next_any (w : World) (b0 B : Nat) (s : ByteArray) (a : Nat) (e q : Int) (V : Value) (ns : List PN) (h : ScanAt w b0 B s a e q V ns) (hs : s.size ≤ 4000) :
    Calls Try.prog 56 #[.pointer (some ⟨B, 0, none⟩)] w fun r w' => r = .returned (.int .i64 (nxR s a e)) ∧ ScanAt w' b0 B s (nxA s a e) (nxE s a e) (nxQ s a e q) V ns ∧ Frame2 w w' B none := by
  by_cases he : e = 0
  · subst he
    by_cases ha : a < s.size
    · have e1 : nxR s a 0 = s[a].toNat := dif_pos ⟨rfl, ha⟩
      have e2 : nxA s a 0 = a + 1 := if_pos ⟨rfl, ha⟩
      have e3 : nxE s a 0 = 0 := by unfold nxE; rw [if_pos rfl, if_pos ha]
      have e4 : nxQ s a 0 q = q := by unfold nxQ; rw [if_pos rfl, if_pos ha]
      rw [e1, e2, e3, e4]
      exact next_ok w b0 B s a q V ns h ha hs
    · have e1 : nxR s a 0 = 0 := dif_neg (fun h => ha h.2)
      have e2 : nxA s a 0 = a := if_neg (fun h => ha h.2)
      have e3 : nxE s a 0 = 5 := by unfold nxE; rw [if_pos rfl, if_neg ha]
      have e4 : nxQ s a 0 q = s.size := by unfold nxQ; rw [if_pos rfl, if_neg ha]
      rw [e1, e2, e3, e4]
      exact next_end w b0 B s a q V ns h (by omega)
  · have e1 : nxR s a e = 0 := dif_neg (fun h => he h.1)
    have e2 : nxA s a e = a := if_neg (fun h => he h.1)
    have e3 : nxE s a e = e := if_neg he
    have e4 : nxQ s a e q = q := if_neg he
    rw [e1, e2, e3, e4]
    exact (next_err w b0 B s a e q V ns h he).mono fun r w' hr => ⟨hr.1, h.below hr.2, Frame2.of_below B none hr.2⟩

/-- Two bytes' number is read. -/
def nuR (s : ByteArray) (a : Nat) (e : Int) : Int := 256 * nxR s a e + nxR s (nxA s a e) (nxE s a e)
def nuA (s : ByteArray) (a : Nat) (e : Int) : Nat := nxA s (nxA s a e) (nxE s a e)
def nuE (s : ByteArray) (a : Nat) (e : Int) : Int := nxE s (nxA s a e) (nxE s a e)
def nuQ (s : ByteArray) (a : Nat) (e q : Int) : Int := nxQ s (nxA s a e) (nxE s a e) (nxQ s a e q)
theorem nuR_bd (s : ByteArray) (a : Nat) (e : Int) : 0 ≤ nuR s a e ∧ nuR s a e ≤ 65535 := by
  unfold nuR
  have h1 := nxR_bd s a e
  have h2 := nxR_bd s (nxA s a e) (nxE s a e)
  omega
theorem nuA_le (s : ByteArray) (a : Nat) (e : Int) (h : a ≤ s.size) : nuA s a e ≤ s.size := nxA_le s _ _ (nxA_le s _ _ h)

set_option maxRecDepth 100000 in
set_option maxHeartbeats 400000 in
theorem number_any (w : World) (b0 B : Nat) (s : ByteArray) (a : Nat) (e q : Int) (V : Value) (ns : List PN) (h : ScanAt w b0 B s a e q V ns) (hs : s.size ≤ 4000) :
    Calls Try.prog 58 #[.pointer (some ⟨B, 0, none⟩)] w fun r w' => r = .returned (.int .i64 (nuR s a e)) ∧ ScanAt w' b0 B s (nuA s a e) (nuE s a e) (nuQ s a e q) V ns ∧ Frame2 w w' B none := by
  have hb1 := nxR_bd s a e
  have hb2 := nxR_bd s (nxA s a e) (nxE s a e)
  unfold nuR nuA nuE nuQ
  go_enter Try.func58, Try.ntmps58
  go_wp2_with fail
  refine (next_any _ _ _ _ _ _ _ _ _ h hs).mono ?_
  rintro r w1 ⟨rfl, h1, hF1⟩
  go_wp2_with fail
  refine (next_any _ _ _ _ _ _ _ _ _ h1 hs).mono ?_
  rintro r w2 ⟨rfl, h2, hF2⟩
  go_wp2
  go_returns
  exact ⟨ret_int (by go_arith), h2, hF1.trans hF2⟩
end Go.Proofs.Ytlndinigbppafaa

/-
  The walk of the document's reader at a node.
-/
namespace Go.Proofs.Ytlndinigbppafaa
open Go.RowKit

theorem nx_ok (s : ByteArray) (a : Nat) (q : Int) (h : a < s.size) : nxR s a 0 = s[a].toNat ∧ nxA s a 0 = a + 1 ∧ nxE s a 0 = 0 ∧ nxQ s a 0 q = q :=
  ⟨dif_pos ⟨rfl, h⟩, if_pos ⟨rfl, h⟩, by unfold nxE; rw [if_pos rfl, if_pos h], by unfold nxQ; rw [if_pos rfl, if_pos h]⟩
theorem nx_end (s : ByteArray) (a : Nat) (q : Int) (h : s.size ≤ a) : nxR s a 0 = 0 ∧ nxA s a 0 = a ∧ nxE s a 0 = 5 ∧ nxQ s a 0 q = s.size :=
  ⟨dif_neg (fun h => by omega), if_neg (fun h => by omega), by unfold nxE; rw [if_pos rfl, if_neg (by omega)], by unfold nxQ; rw [if_pos rfl, if_neg (by omega)]⟩
theorem nx_err (s : ByteArray) (a : Nat) (e q : Int) (h : e ≠ 0) : nxR s a e = 0 ∧ nxA s a e = a ∧ nxE s a e = e ∧ nxQ s a e q = q :=
  ⟨dif_neg (fun x => h x.1), if_neg (fun x => h x.1), if_neg h, if_neg h⟩

/-- The message's value, as the callee keeps it. -/
def MsgAt (w : World) (H : Nat) (k M N R : Int) (T : Value) : Prop := w.cell? ⟨H, 0, none⟩ = some (.int .i64 k) ∧ w.cell? ⟨H, 1, none⟩ = some (.int .i64 M) ∧ w.cell? ⟨H, 2, none⟩ = some (.int .i64 N) ∧ w.cell? ⟨H, 3, none⟩ = some (.int .i64 R) ∧ w.cell? ⟨H, 4, none⟩ = some T
theorem msg_new (w : World) (k M N R : Int) (T : Value) : MsgAt (w.alloc (.cells #[.int .i64 k, .int .i64 M, .int .i64 N, .int .i64 R, T] 42)) w.heap.size k M N R T := by
  refine ⟨?_, ?_, ?_, ?_, ?_⟩ <;> simp
theorem msg_keep {w w' : World} {H : Nat} {k M N R : Int} {T : Value} (h : MsgAt w H k M N R T) (hb : Below w.heap.size w w') : MsgAt w' H k M N R T :=
  ⟨cell_keep h.1 hb, cell_keep h.2.1 hb, cell_keep h.2.2.1 hb, cell_keep h.2.2.2.1 hb, cell_keep h.2.2.2.2 hb⟩
theorem msg_frame {w w' : World} {H B : Nat} {row : Option Nat} {k M N R : Int} {T : Value} (h : MsgAt w H k M N R T) (hF : Frame2 w w' B row) (hB : H ≠ B) (hr : some H ≠ row) : MsgAt w' H k M N R T := by
  have e := hF.block H (World.block_lt_of_cell? w _ h.1) hB hr
  have e2 : ∀ j, w'.cell? ⟨H, j, none⟩ = w.cell? ⟨H, j, none⟩ := fun j => World.cell?_of_block e
  unfold MsgAt
  rw [e2, e2, e2, e2, e2]
  exact h
theorem msg_at {w w' : World} {k M N R : Int} {T : Value} (hb : Below (w.alloc (.cells #[.int .i64 k, .int .i64 M, .int .i64 N, .int .i64 R, T] 42)).heap.size (w.alloc (.cells #[.int .i64 k, .int .i64 M, .int .i64 N, .int .i64 R, T] 42)) w') : MsgAt w' w.heap.size k M N R T := msg_keep (msg_new w k M N R T) hb

set_option maxRecDepth 100000 in
set_option maxHeartbeats 1000000 in
theorem node_err (w : World) (b0 B : Nat) (s : ByteArray) (a : Nat) (e q : Int) (V : Value) (ns : List PN) (k M N R : Int) (T : Value) (p d : Nat) (h : ScanAt w b0 B s a e q V ns) (he : e ≠ 0) (hd : d ≤ 16) (hp : p ≤ 1000000) :
    Calls Try.prog 59 #[.pointer (some ⟨B, 0, none⟩), .agg #[.int .i64 k, .int .i64 M, .int .i64 N, .int .i64 R, T], .int .i64 p, .int .i64 d] w fun r w' => r = .returned (.tuple #[]) ∧ Below w.heap.size w w' := by
  obtain ⟨c0, c1, c2, c3, c4⟩ := h.cell
  have heb : (e == 0) = false := beq_eq_false_iff_ne.2 he
  have hB := lt_of_heap h.2.1
  have hA : Below w.heap.size w (w.alloc (.cells #[.int .i64 k, .int .i64 M, .int .i64 N, .int .i64 R, T] 42)) := (Below.refl _ _).alloc (Nat.le_refl _) _
  go_enter Try.func59, Try.ntmps59
  go_wp2_with fail
  refine (next_err _ _ _ _ _ _ _ _ _ (h.below hA) he).mono ?_
  rintro r w1 ⟨rfl, hb1⟩
  have hm := msg_at hb1
  have hb01 := below_step hA hb1
  clear hA
  obtain ⟨d0, d1, d2, d3, d4⟩ := (h.below hb01).cell
  obtain ⟨m0, m1, m2, m3, m4⟩ := hm
  go_wp2_with fail
  refine (kind_any k M N R T p d w1 hd hp).mono ?_
  rintro r w2 ⟨rfl, hb2⟩
  have hb := below_step hb01 hb2
  obtain ⟨f0, f1, f2, f3, f4⟩ := (h.below hb).cell
  go_wp2
  all_goals go_returns
  all_goals exact ⟨rfl, hb⟩

/-- What a reader leaves behind: its own block and its row alone have changed. -/
def Kept (w w' : World) (B : Nat) (V V' : Value) : Prop := Frame2 w w' B V.ownBlock ∧ (V'.ownBlock = V.ownBlock ∨ ∃ g, V'.ownBlock = some g ∧ w.heap.size ≤ g)

set_option maxRecDepth 100000 in
set_option maxHeartbeats 1000000 in
theorem node_end (w : World) (b0 B : Nat) (s : ByteArray) (a : Nat) (q : Int) (V : Value) (ns : List PN) (k M N R : Int) (T : Value) (p d : Nat) (h : ScanAt w b0 B s a 0 q V ns) (ha : s.size ≤ a) (hd : d ≤ 16) (hp : p ≤ 1000000) :
    Calls Try.prog 59 #[.pointer (some ⟨B, 0, none⟩), .agg #[.int .i64 k, .int .i64 M, .int .i64 N, .int .i64 R, T], .int .i64 p, .int .i64 d] w fun r w' => r = .returned (.tuple #[]) ∧ ScanAt w' b0 B s a 5 s.size V ns ∧ Frame2 w w' B none := by
  obtain ⟨c0, c1, c2, c3, c4⟩ := h.cell
  have hB := lt_of_heap h.2.1
  have hA : Below w.heap.size w (w.alloc (.cells #[.int .i64 k, .int .i64 M, .int .i64 N, .int .i64 R, T] 42)) := (Below.refl _ _).alloc (Nat.le_refl _) _
  go_enter Try.func59, Try.ntmps59
  go_wp2_with fail
  refine (next_end _ _ _ _ _ _ _ _ (h.below hA) ha).mono ?_
  rintro r w1 ⟨rfl, h1, hF1⟩
  obtain ⟨m0, m1, m2, m3, m4⟩ := msg_frame (msg_new w k M N R T) hF1 (by omega) (by simp)
  have hF := (Frame2.of_below B none hA).trans hF1
  clear hA hF1
  obtain ⟨d0, d1, d2, d3, d4⟩ := h1.cell
  go_wp2_with fail
  refine (kind_any k M N R T p d w1 hd hp).mono ?_
  rintro r w2 ⟨rfl, hb2⟩
  have h2 := h1.below hb2
  obtain ⟨f0, f1, f2, f3, f4⟩ := h2.cell
  go_wp2
  all_goals go_returns
  all_goals exact ⟨rfl, h2, hF.then hb2⟩

set_option maxRecDepth 100000 in
set_option maxHeartbeats 1000000 in
theorem node_shape (w : World) (b0 B : Nat) (s : ByteArray) (a : Nat) (q : Int) (V : Value) (ns : List PN) (k M N R : Int) (T : Value) (p d : Nat) (h : ScanAt w b0 B s a 0 q V ns) (ha : a < s.size) (hk : (s[a].toNat : Int) ≠ kindOf k M N p d) (hs : s.size ≤ 4000) (hd : d ≤ 16) (hp : p ≤ 1000000) :
    Calls Try.prog 59 #[.pointer (some ⟨B, 0, none⟩), .agg #[.int .i64 k, .int .i64 M, .int .i64 N, .int .i64 R, T], .int .i64 p, .int .i64 d] w fun r w' => r = .returned (.tuple #[]) ∧ ScanAt w' b0 B s (a + 1 : Nat) 7 a V ns ∧ Frame2 w w' B none := by
  obtain ⟨c0, c1, c2, c3, c4⟩ := h.cell
  have hB := lt_of_heap h.2.1
  have hA : Below w.heap.size w (w.alloc (.cells #[.int .i64 k, .int .i64 M, .int .i64 N, .int .i64 R, T] 42)) := (Below.refl _ _).alloc (Nat.le_refl _) _
  have hkb : ((s[a].toNat : Int) == kindOf k M N p d) = false := beq_eq_false_iff_ne.2 hk
  go_enter Try.func59, Try.ntmps59
  go_wp2_with fail
  refine (next_ok _ _ _ _ _ _ _ _ (h.below hA) ha hs).mono ?_
  rintro r w1 ⟨rfl, h1, hF1⟩
  obtain ⟨m0, m1, m2, m3, m4⟩ := msg_frame (msg_new w k M N R T) hF1 (by omega) (by simp)
  have hF := (Frame2.of_below B none hA).trans hF1
  clear hA hF1
  obtain ⟨d0, d1, d2, d3, d4⟩ := h1.cell
  go_wp2_with fail
  refine (kind_any k M N R T p d w1 hd hp).mono ?_
  rintro r w2 ⟨rfl, hb2⟩
  have h2 := h1.below hb2
  obtain ⟨f0, f1, f2, f3, f4⟩ := h2.cell
  go_wp2_with (go_at_call 57; refine (no_first _ _ _ _ _ _ _ _ 7 a h2).mono ?_; rintro e w3 ⟨rfl, h3, hF3⟩; obtain ⟨g0, g1, g2, g3, g4⟩ := h3.cell)
  all_goals go_returns
  all_goals exact ⟨rfl, h3, (hF.then hb2).trans hF3⟩
end Go.Proofs.Ytlndinigbppafaa

/-
  The walk of the document's reader at a node whose first byte is right.
-/
namespace Go.Proofs.Ytlndinigbppafaa
open Go.RowKit

/-- A node's value in a block of its own. -/
def NAt (w : World) (H : Nat) (x : PN) : Prop := w.heap[H]? = some (.cells #[.int .i64 x.kind, .int .i64 x.dig, .string x.ev] 100 (0, 0))
theorem NAt.cell {w : World} {H : Nat} {x : PN} (h : NAt w H x) : w.cell? ⟨H, 0, none⟩ = some (.int .i64 x.kind) ∧ w.cell? ⟨H, 1, none⟩ = some (.int .i64 x.dig) ∧ w.cell? ⟨H, 2, none⟩ = some (.string x.ev) := by
  refine ⟨?_, ?_, ?_⟩ <;> (rw [cell_of_row _ _ _ _ _ _ h]; rfl)
theorem NAt.frozen {w : World} {H : Nat} {x : PN} (h : NAt w H x) (j : Nat) : w.frozen? ⟨H, j, none⟩ = false := by
  unfold World.frozen?; rw [h]; simp
theorem NAt.frame {w w' : World} {H B : Nat} {row : Option Nat} {x : PN} (h : NAt w H x) (hF : Frame2 w w' B row) (hB : H ≠ B) (hr : some H ≠ row) : NAt w' H x := by
  unfold NAt; rw [hF.block H (lt_of_heap h) hB hr]; exact h
theorem NAt.below {w w' : World} {H : Nat} {x : PN} (h : NAt w H x) (hb : Below w.heap.size w w') : NAt w' H x := by
  unfold NAt; rw [hb.block H (lt_of_heap h)]; exact h
theorem NAt.set1 {w : World} {H : Nat} {x : PN} (h : NAt w H x) (g : Int) : NAt (w.setCell ⟨H, 1, none⟩ (.int .i64 g)) H ⟨x.kind, g, x.ev⟩ := by
  unfold NAt at h ⊢; simp [World.setCell, Array.getElem?_modify, h]
theorem NAt.set2 {w : World} {H : Nat} {x : PN} (h : NAt w H x) (t : ByteArray) : NAt (w.setCell ⟨H, 2, none⟩ (.string t)) H ⟨x.kind, x.dig, t⟩ := by
  unfold NAt at h ⊢; simp [World.setCell, Array.getElem?_modify, h]
theorem ScanAt.setFar {w : World} {b0 B : Nat} {s : ByteArray} {a e q : Int} {V : Value} {ns : List PN} (h : ScanAt w b0 B s a e q V ns) (H j : Nat) (u : Value) (hB : H ≠ B) (hr : V.ownBlock ≠ some H) : ScanAt (w.setCell ⟨H, j, none⟩ u) b0 B s a e q V ns :=
  ⟨h.1, by rw [Below.heap_setCell _ _ _ _ (show B ≠ H from fun e => hB e.symm)]; exact h.2.1, ownsRow_setCell_other h.2.2 hr _⟩
theorem ScanAt.row_lt {w : World} {b0 B : Nat} {s : ByteArray} {a e q : Int} {V : Value} {ns : List PN} (h : ScanAt w b0 B s a e q V ns) : ∀ g, V.ownBlock = some g → g < w.heap.size ∧ b0 ≤ g := by
  intro g hg
  rcases h.2.2.2 with ⟨rfl, _⟩ | ⟨g', cap, cur, rfl, hb, hgg, _⟩
  · simp [Value.ownBlock] at hg
  · simp [Value.ownBlock] at hg
    subst hg
    exact ⟨lt_of_heap hgg, hb⟩

/-- A store into a block that is neither. -/
theorem Frame2.put {w w' : World} {B H j : Nat} {u : Value} (h : Frame2 w w' B none) : Frame2 w (w'.setCell ⟨H, j, none⟩ u) B (some H) :=
  ⟨h.os, h.tape, h.output, by simpa [World.setCell] using h.size, fun k hk hB hr => by rw [Below.heap_setCell _ _ _ _ (show k ≠ H from fun e => hr (by rw [e]))]; exact h.block k hk hB (by simp)⟩
/-- The cells of one of its nodes. -/
theorem ScanAt.at {w : World} {b0 B : Nat} {s : ByteArray} {a e q : Int} {V : Value} {ns : List PN} (h : ScanAt w b0 B s a e q V ns) (g n cap : Nat) (hV : V = .slice (some ⟨g, 0, none⟩) n cap) (i : Nat) (hi : i < ns.length) :
    (∃ u, w.cell? ⟨g, i * 3, none⟩ = some u) ∧ (∃ u, w.cell? ⟨g, i * 3 + 1, none⟩ = some u) ∧ (∃ u, w.cell? ⟨g, i * 3 + 2, none⟩ = some u) ∧ (∀ j, w.frozen? ⟨g, j, none⟩ = false) := by
  subst hV
  rcases h.2.2.2 with ⟨hx, _⟩ | ⟨g', cap', cur, hx, _, hgg, hle, _, hsz, _⟩
  · cases hx
  · simp only [Value.slice.injEq, Option.some.injEq, Addr.mk.injEq] at hx
    obtain ⟨⟨rfl, _, _⟩, _, rfl⟩ := hx
    rw [cell_of_row _ _ _ _ _ _ hgg, cell_of_row _ _ _ _ _ _ hgg, cell_of_row _ _ _ _ _ _ hgg]
    have hc : ∀ j, j < cur.size → ∃ u, cur[j]? = some u := fun j hj => ⟨_, Array.getElem?_eq_getElem hj⟩
    have h3 : i * 3 + 2 < cur.size := by rw [hsz]; omega
    exact ⟨hc _ (by omega), hc _ (by omega), hc _ h3, fun j => by unfold World.frozen?; rw [hgg]; simp⟩

theorem cellsN_cons (x : PN) (ns : List PN) : cellsN (x :: ns) = .int .i64 x.kind :: .int .i64 x.dig :: .string x.ev :: cellsN ns := by
  unfold cellsN; rw [List.map_cons, List.flatten_cons]; rfl
theorem cellsN_set (ns : List PN) (i : Nat) (x : PN) (hi : i < ns.length) : cellsN (ns.set i x) = (((cellsN ns).set (i * 3) (.int .i64 x.kind)).set (i * 3 + 1) (.int .i64 x.dig)).set (i * 3 + 2) (.string x.ev) := by
  induction ns generalizing i with
  | nil => simp at hi
  | cons y ns ih =>
    cases i with
    | zero => rw [List.set_cons_zero, cellsN_cons, cellsN_cons]; rfl
    | succ i =>
      rw [List.set_cons_succ, cellsN_cons, cellsN_cons, ih i (by simpa using hi)]
      rw [show (i + 1) * 3 = i * 3 + 1 + 1 + 1 by omega]
      simp only [List.set_cons_succ]
/-- A node is written over. -/
theorem scan_put {w : World} {b0 B g n cap : Nat} {s : ByteArray} {a e q : Int} {ns : List PN} (h : ScanAt w b0 B s a e q (.slice (some ⟨g, 0, none⟩) n cap) ns) (x : PN) (i : Nat) (hi : i < ns.length) :
    ScanAt (((w.setCell ⟨g, i * 3, none⟩ (.int .i64 x.kind)).setCell ⟨g, i * 3 + 1, none⟩ (.int .i64 x.dig)).setCell ⟨g, i * 3 + 2, none⟩ (.string x.ev)).drew b0 B s a e q (.slice (some ⟨g, 0, none⟩) n cap) (ns.set i x) ∧
    Frame2 w (((w.setCell ⟨g, i * 3, none⟩ (.int .i64 x.kind)).setCell ⟨g, i * 3 + 1, none⟩ (.int .i64 x.dig)).setCell ⟨g, i * 3 + 2, none⟩ (.string x.ev)).drew B (some g) := by
  have hne := h.row_ne
  have hgB : B ≠ g := fun e => hne (by rw [e]; rfl)
  have hot : ∀ k, k ≠ g → (((w.setCell ⟨g, i * 3, none⟩ (.int .i64 x.kind)).setCell ⟨g, i * 3 + 1, none⟩ (.int .i64 x.dig)).setCell ⟨g, i * 3 + 2, none⟩ (.string x.ev)).drew.heap[k]? = w.heap[k]? := fun k hk => by
    show (((w.setCell ⟨g, i * 3, none⟩ (.int .i64 x.kind)).setCell ⟨g, i * 3 + 1, none⟩ (.int .i64 x.dig)).setCell ⟨g, i * 3 + 2, none⟩ (.string x.ev)).heap[k]? = w.heap[k]?
    rw [Below.heap_setCell _ _ _ _ hk, Below.heap_setCell _ _ _ _ hk, Below.heap_setCell _ _ _ _ hk]
  refine ⟨⟨h.1, by rw [hot B hgB]; exact h.2.1, ?_⟩, ⟨rfl, rfl, rfl, by simp [World.setCell], fun k _ _ hr => hot k (fun e => hr (by rw [e]))⟩⟩
  obtain ⟨h1, h2⟩ := h.2.2
  refine ⟨by rw [cellsN_length, List.length_set], ?_⟩
  rcases h2 with ⟨hx, _⟩ | ⟨g', cap', cur, hx, hb, hgg, hle, hmax, hsz, htake⟩
  · cases hx
  · simp only [Value.slice.injEq, Option.some.injEq, Addr.mk.injEq] at hx
    obtain ⟨⟨rfl, _, _⟩, rfl, rfl⟩ := hx
    refine .inr ⟨g, cap, ((cur.setIfInBounds (i * 3) (.int .i64 x.kind)).setIfInBounds (i * 3 + 1) (.int .i64 x.dig)).setIfInBounds (i * 3 + 2) (.string x.ev), ?_, hb, ?_, ?_, hmax, by simpa using hsz, ?_⟩
    · rw [List.length_set]
    · show (((w.setCell ⟨g, i * 3, none⟩ (.int .i64 x.kind)).setCell ⟨g, i * 3 + 1, none⟩ (.int .i64 x.dig)).setCell ⟨g, i * 3 + 2, none⟩ (.string x.ev)).heap[g]? = _
      simp [World.setCell, Array.getElem?_modify, hgg]
    · rw [List.length_set]; exact hle
    · rw [cellsN_set ns i x hi, ← htake, List.length_set]
      simp only [Array.toList_setIfInBounds, List.take_set]

theorem set_last (ns : List PN) (x y : PN) : (ns ++ [x]).set ns.length y = ns ++ [y] := by simp
/-- The frames of a node's walk, one behind the other. -/
theorem Frame2.close {w w3 w5 w7 w8 : World} {B H g n cap : Nat} {V : Value} (hF3 : Frame2 w w3 B none) (hK5 : Kept w3 w5 B V (.slice (some ⟨g, 0, none⟩) n cap)) (hF7 : Frame2 w5 w7 B (some H)) (hF8 : Frame2 w7 w8 B (some g)) (hH : w.heap.size ≤ H) : Kept w w8 B V (.slice (some ⟨g, 0, none⟩) n cap) := by
  obtain ⟨hF5, hat⟩ := hK5
  have hr : V.ownBlock = some g ∨ w3.heap.size ≤ g := by
    rcases hat with e | ⟨g', e, hg'⟩
    · left; rw [← e]; rfl
    · right; simp [Value.ownBlock] at e; omega
  refine ⟨⟨hF8.os.trans (hF7.os.trans (hF5.os.trans hF3.os)), hF8.tape.trans (hF7.tape.trans (hF5.tape.trans hF3.tape)), hF8.output.trans (hF7.output.trans (hF5.output.trans hF3.output)), ?_, fun k hk hkB hkr => ?_⟩, ?_⟩
  · exact Nat.le_trans hF3.size (Nat.le_trans hF5.size (Nat.le_trans hF7.size hF8.size))
  · have s3 := hF3.size
    have s5 := hF5.size
    have s7 := hF7.size
    rw [hF8.block k (by omega) hkB (fun e => ?_), hF7.block k (by omega) hkB (fun e => by cases e; omega), hF5.block k (by omega) hkB hkr, hF3.block k hk hkB (by simp)]
    cases e
    rcases hr with hr | hr
    · exact hkr hr.symm
    · omega
  · rcases hat with e | ⟨g', e, hg'⟩
    · exact .inl e
    · exact .inr ⟨g', e, Nat.le_trans hF3.size hg'⟩

/-- What is left behind an append. -/
theorem scan_appended {w3 w4 : World} {b0 B g cap2 : Nat} {s : ByteArray} {a e q : Int} {V : Value} {ns : List PN} {x : PN} {X : Obj} (h : ScanAt w3 b0 B s a e q V ns)
    (hown : w4.ownsRow b0 100 3 (.slice (some ⟨g, 0, none⟩) (ns.length + 1) cap2) (ns.length + 1) (cellsN ns ++ cellsN [x])) (hgrow : (w3.drew.alloc X).grownBy w4 V.ownBlock) (hat : V.ownBlock = some g ∨ g = (w3.drew.alloc X).heap.size) :
    ScanAt (w4.setCell ⟨B, 4, none⟩ (.slice (some ⟨g, 0, none⟩) (ns.length + 1) cap2)) b0 B s a e q (.slice (some ⟨g, 0, none⟩) (ns.length + 1) cap2) (ns ++ [x]) ∧ Kept w3 (w4.setCell ⟨B, 4, none⟩ (.slice (some ⟨g, 0, none⟩) (ns.length + 1) cap2)) B V (.slice (some ⟨g, 0, none⟩) (ns.length + 1) cap2) := by
  have hne := h.row_ne
  have hBlt := lt_of_heap h.2.1
  have hgB : g ≠ B := by
    rcases hat with hat | hat
    · intro e; rw [hat, e] at hne; exact hne rfl
    · rw [hat]; simp; omega
  have hB2 : w4.heap[B]? = some (.cells #[.string s, .int .i64 a, .int .i64 e, .int .i64 q, V] 96 (0, 0)) := by
    rw [hgrow.block B (by simp; omega) (fun e => hne e.symm), Below.heap_alloc _ _ _ (by simp; omega)]
    exact h.2.1
  have hother : ∀ k, k ≠ B → (w4.setCell ⟨B, 4, none⟩ (.slice (some ⟨g, 0, none⟩) (ns.length + 1) cap2)).heap[k]? = w4.heap[k]? := fun k hk => Below.heap_setCell _ _ _ _ hk
  refine ⟨⟨h.1, ?_, ?_⟩, ⟨?_, ?_, ?_, ?_, fun k hk hkB hkr => ?_⟩, ?_⟩
  · simp [World.setCell, Array.getElem?_modify, hB2]
  · rw [List.length_append, cellsN_append]
    exact ownsRow_setCell_other hown (by simpa [Value.ownBlock] using hgB) _
  · exact hgrow.os
  · exact hgrow.tape
  · exact hgrow.output
  · have := hgrow.size
    simp at this
    simp [World.setCell]
    omega
  · rw [hother k hkB, hgrow.block k (by simp; omega) hkr, Below.heap_alloc _ _ _ (by simpa using hk)]
    rfl
  · rcases hat with h | h
    · left; rw [h]; rfl
    · right; refine ⟨g, rfl, ?_⟩; rw [h]; simp

set_option maxRecDepth 100000 in
set_option maxHeartbeats 1000000 in
theorem node_stub (w : World) (b0 B : Nat) (s : ByteArray) (a : Nat) (q : Int) (V : Value) (ns : List PN) (k M N R : Int) (T : Value) (p d : Nat) (h : ScanAt w b0 B s a 0 q V ns) (ha : a < s.size) (hk : (s[a].toNat : Int) = 0) (hk2 : kindOf k M N p d = 0) (hs : s.size ≤ 4000) (hd : d ≤ 16) (hp : p ≤ 1000000) (hn : ns.length ≤ 100000) (hb0 : b0 ≤ w.heap.size) :
    Calls Try.prog 59 #[.pointer (some ⟨B, 0, none⟩), .agg #[.int .i64 k, .int .i64 M, .int .i64 N, .int .i64 R, T], .int .i64 p, .int .i64 d] w fun r w' => r = .returned (.tuple #[]) ∧
      ∃ V', ScanAt w' b0 B s (nuA s (a + 1) 0) (nuE s (a + 1) 0) (nuQ s (a + 1) 0 q) V' (ns ++ [⟨0, nuR s (a + 1) 0, ByteArray.empty⟩]) ∧ Kept w w' B V V' := by
  obtain ⟨i0, hi, hz0, hz1, hz2⟩ := info_parts Try.infoNode
  obtain ⟨c0, c1, c2, c3, c4⟩ := h.cell
  have hB := lt_of_heap h.2.1
  have hA : Below w.heap.size w (w.alloc (.cells #[.int .i64 k, .int .i64 M, .int .i64 N, .int .i64 R, T] 42)) := (Below.refl _ _).alloc (Nat.le_refl _) _
  go_enter Try.func59, Try.ntmps59
  go_wp2_with fail
  refine (next_ok _ _ _ _ _ _ _ _ (h.below hA) ha hs).mono ?_
  rintro r w1 ⟨rfl, h1, hF1⟩
  obtain ⟨m0, m1, m2, m3, m4⟩ := msg_frame (msg_new w k M N R T) hF1 (by omega) (by simp)
  have hF := (Frame2.of_below B none hA).trans hF1
  clear hA hF1
  obtain ⟨d0, d1, d2, d3, d4⟩ := h1.cell
  rw [hk]
  go_wp2_with fail
  refine (kind_any k M N R T p d w1 hd hp).mono ?_
  rintro r w2 ⟨rfl, hb2⟩
  rw [hk2]
  have h2 := h1.below hb2
  obtain ⟨f0, f1, f2, f3, f4⟩ := h2.cell
  obtain ⟨ao, cap, rfl, _⟩ := id (NodesAt.of_owns h2.2.2)
  have hB2 := lt_of_heap h2.2.1
  go_wp2
  have h3 := h2.below ((Below.refl _ _).alloc (Nat.le_refl _) (.cells #[.int .i64 0, .int .i64 0, .string ⟨#[]⟩] 100))
  have hN3 : NAt (w2.alloc (.cells #[.int .i64 0, .int .i64 0, .string ⟨#[]⟩] 100)) w2.heap.size ⟨0, 0, ⟨#[]⟩⟩ := heap_alloc_new _ _
  have hF3 := (hF.then hb2).then ((Below.refl _ _).alloc (Nat.le_refl _) (.cells #[.int .i64 0, .int .i64 0, .string ⟨#[]⟩] 100))
  have hVH : (Value.slice ao ns.length cap).ownBlock ≠ some w2.heap.size := fun x => by have := (h2.row_lt _ x).1; omega
  have hHw : w.heap.size ≤ w2.heap.size := (hF.then hb2).size
  generalize (w2.alloc (.cells #[.int .i64 0, .int .i64 0, .string ⟨#[]⟩] 100)) = w3 at *
  generalize w2.heap.size = H at *
  have hH3 := lt_of_heap hN3
  have c3' := h3.cell
  obtain ⟨g0, g1, g2, g3, g4⟩ := c3'
  obtain ⟨n0, n1, n2⟩ := hN3.cell
  have hne := h3.row_ne
  have hB3 := lt_of_heap h3.2.1
  clear c0 c1 c2 c3 c4 m0 m1 m2 m3 m4 d0 d1 d2 d3 d4 f0 f1 f2 f3 f4 hF hb2 h1 h2
  go_region_law (first
    | (refine step_append_lies _ rfl (.tmp 53) (.tmp 55) 40 rfl b0 100 i0 (.agg #[.int .i64 0, .int .i64 0, .string ByteArray.empty]) 3 32 Try.underlying40 hi hz0 hz1 hz2 rfl (by decide) (.slice ao ns.length cap) ns.length (cellsN ns) (by simp [Act.eval]) (h3.below ((Below.refl _ _).drew) |>.2.2.alloc _) ⟨w3.heap.size, 0, none⟩ 1 1 (cellsN [⟨0, 0, ⟨#[]⟩⟩]) (by simp [Act.eval]) rfl (World.news_of_block (heap_alloc_new w3.drew _)) (cellsN_one _) (by decide) (by unfold maxLen; omega) (by omega) (by simp; omega) _ rfl ?_; intro gg cap2 w4 hown4 hgrow4 hat4 hlt4; have c4 : w4.cell? ⟨B, 4, none⟩ = some (.slice ao ns.length cap) := (hgrow4.cell_far ⟨B, 4, none⟩ (by simp; omega) (fun e => hne e.symm)).trans (cell_keep g4 ((Below.refl _ _).drew.alloc (Nat.le_refl _) _)); have z4 : w4.frozen? ⟨B, 4, none⟩ = false := (hgrow4.frozen_far ⟨B, 4, none⟩ (by simp; omega) (fun e => hne e.symm)).trans (frozen_keep g4 (h3.frozen 4) ((Below.refl _ _).drew.alloc (Nat.le_refl _) _))))
  all_goals
    obtain ⟨h5, hK5⟩ := scan_appended (x := ⟨0, 0, ⟨#[]⟩⟩) h3 hown4 hgrow4 hat4
    have hN5 : NAt (w4.setCell ⟨B, 4, none⟩ (.slice (some ⟨gg, 0, none⟩) (ns.length + 1) cap2)) H ⟨0, 0, ⟨#[]⟩⟩ := hN3.frame hK5.1 (by omega) (fun e => hVH e.symm)
    have hVH5 : (Value.slice (some ⟨gg, 0, none⟩) (ns.length + 1) cap2).ownBlock ≠ some H := by
      rcases hK5.2 with e | ⟨g', e, hg'⟩
      · rw [e]; exact hVH
      · rw [e]; intro x; cases x; omega
    have hlt5 : H < (w4.setCell ⟨B, 4, none⟩ (.slice (some ⟨gg, 0, none⟩) (ns.length + 1) cap2)).heap.size := lt_of_heap hN5
    clear hown4 hgrow4 hat4 c4 z4 g0 g1 g2 g3 g4 n0 n1 n2 hne hlt4
    generalize w4.setCell ⟨B, 4, none⟩ (.slice (some ⟨gg, 0, none⟩) (ns.length + 1) cap2) = w5 at *
    have hB5 := lt_of_heap h5.2.1
    obtain ⟨c0, c1, c2, c3, c4⟩ := h5.cell
    obtain ⟨n0, n1, n2⟩ := hN5.cell
  all_goals
    go_wp2_with (go_at_call 58; refine (number_any _ _ _ _ _ _ _ _ _ h5 hs).mono ?_; rintro r w6 ⟨rfl, h6, hF6⟩; have hN6 : NAt w6 H ⟨0, 0, ⟨#[]⟩⟩ := hN5.frame hF6 (by omega) (by simp); have z6 := hN6.frozen 1; obtain ⟨e0, e1, e2⟩ := hN6.cell; have hH6 := lt_of_heap hN6)
  all_goals
    have h7 := h6.setFar H 1 (.int .i64 (nuR s (a + 1) 0)) (by omega) hVH5
    have hN7 := hN6.set1 (nuR s (a + 1) 0)
    have hF7 : Frame2 w5 (w6.setCell ⟨H, 1, none⟩ (.int .i64 (nuR s (a + 1) 0))) B (some H) := hF6.put
    clear h6 hN6 hF6 z6 e0 e1 e2 hH6 c0 c1 c2 c3 c4 n0 n1 n2
    generalize w6.setCell ⟨H, 1, none⟩ (.int .i64 (nuR s (a + 1) 0)) = w7 at *
    obtain ⟨c0, c1, c2, c3, c4⟩ := h7.cell
    obtain ⟨n0, n1, n2⟩ := hN7.cell
    obtain ⟨⟨u0, p0⟩, ⟨u1, p1⟩, ⟨u2, p2⟩, pz⟩ := h7.at gg (ns.length + 1) cap2 rfl ns.length (by simp)
    have z0 := pz (ns.length * 3)
    have z1 := pz (ns.length * 3 + 1)
    have z2 := pz (ns.length * 3 + 2)
  all_goals go_region
  all_goals
    obtain ⟨h8, hF8⟩ := scan_put h7 ⟨0, nuR s (a + 1) 0, ⟨#[]⟩⟩ ns.length (by simp)
    rw [set_last] at h8
  all_goals go_returns
  all_goals exact ⟨rfl, _, h8, hF3.close hK5 hF7 hF8 hHw⟩
end Go.Proofs.Ytlndinigbppafaa

/-
  The document's tree of a proof: the walk of steleref.Tree.
-/
namespace Go.Proofs.Ytlndinigbppafaa
open Go.RowKit

/-- A tree's result: a row of its own. -/
def TreeR (w : World) (ns : List PN) (e : Ending) (w' : World) : Prop := ∃ v', e = .returned v' ∧ w'.ownsRow w.heap.size 100 3 v' ns.length (cellsN ns) ∧ Below w.heap.size w w'

/-- One node, in a row of its own. -/
theorem owns_fresh (w : World) (b0 : Nat) (x : PN) (h : b0 ≤ w.heap.size) : (w.alloc (.cells #[.int .i64 x.kind, .int .i64 x.dig, .string x.ev] 100)).ownsRow b0 100 3 (.slice (some ⟨w.heap.size, 0, none⟩) 1 1) 1 (cellsN [x]) :=
  ⟨rfl, .inr ⟨w.heap.size, 1, _, rfl, h, heap_alloc_new w _, Nat.le_refl _, by decide, rfl, rfl⟩⟩

set_option maxRecDepth 100000 in
set_option maxHeartbeats 2000000 in
theorem tree_stub (evs : List ByteArray) (n d p : Nat) (P D : Int) (k M R : Int) (T V : Value) (w : World) (eP : P = p) (eD : D = d) (hd : d ≤ 16) (hp : p < n) (hn : n ≤ evs.length) (hl : evs.length ≤ 65535) (hs : ∀ s ∈ evs, s.size ≤ 255) (hV : StringsAt w V evs) (hk : kindOf k M n p d = 0) :
    Calls Try.prog 51 #[V, .agg #[.int .i64 k, .int .i64 M, .int .i64 n, .int .i64 R, T], .int .i64 P, .int .i64 D] w fun e w' => TreeR w [⟨0, dig (evs.take n) d p, ByteArray.empty⟩] e w' := by
  have hV1 := hV
  obtain ⟨ao, cap, rfl, _⟩ := hV1
  subst eP eD
  have HDN : Hid _ := digest_ref evs n hn hl hs (.slice ao evs.length cap) n rfl d hd p p d
  go_enter Try.func51, Try.ntmps51
  go_wp2_with fail
  have c0 : (w.alloc (.cells #[.int .i64 k, .int .i64 M, .int .i64 n, .int .i64 R, T] 42)).cell? ⟨w.heap.size, 2, none⟩ = some (.int .i64 n) := by simp
  have hW : Below w.heap.size w (w.alloc (.cells #[.int .i64 k, .int .i64 M, .int .i64 n, .int .i64 R, T] 42)) := (Below.refl _ _).alloc (Nat.le_refl _) _
  have hWs : (w.alloc (.cells #[.int .i64 k, .int .i64 M, .int .i64 n, .int .i64 R, T] 42)).heap.size = w.heap.size + 1 := by simp
  generalize w.alloc (.cells #[.int .i64 k, .int .i64 M, .int .i64 n, .int .i64 R, T] 42) = W at c0 hW hWs ⊢
  refine (kind_any k M n R T p d _ hd (by omega)).mono ?_
  rintro e w1 ⟨rfl, hb1⟩
  rw [hk]
  have c1 := cell_keep c0 hb1
  have hV1 := (hV.below hW).below hb1
  have hW1 := hW.trans (hb1.mono hW.size)
  have hs1 : w.heap.size + 1 ≤ w1.heap.size := by have := hb1.size; omega
  have hne : ¬ (w.heap.size = w1.heap.size) := by omega
  have hne' : ¬ (w1.heap.size = w.heap.size) := by omega
  have hX : Below w1.heap.size w1 (w1.alloc (.cells #[.int .i64 0, .int .i64 0, .string ⟨#[]⟩] 100)) := (Below.refl _ _).alloc (Nat.le_refl _) _
  have cX := cell_keep c1 hX
  clear hb1 hW c0 hV
  go_wp2_with fail
  have hV2 := hV1.below hX
  have hN0 : (w1.alloc (.cells #[.int .i64 0, .int .i64 0, .string ⟨#[]⟩] 100)).heap[w1.heap.size]? = some (.cells #[.int .i64 0, .int .i64 0, .string ⟨#[]⟩] 100) := heap_alloc_new w1 _
  have hW2 := hW1.trans (hX.mono hW1.size)
  generalize w1.alloc (.cells #[.int .i64 0, .int .i64 0, .string ⟨#[]⟩] 100) = w2 at hV2 hN0 hW2 ⊢
  refine (HDN.out w2 trivial trivial hp hV2).mono ?_
  rintro e w3 ⟨rfl, hb3⟩
  have hN : w3.heap[w1.heap.size]? = some (.cells #[.int .i64 0, .int .i64 0, .string ⟨#[]⟩] 100) := by rw [hb3.block _ (lt_of_heap hN0)]; exact hN0
  have n0 : w3.cell? ⟨w1.heap.size, 0, none⟩ = some (.int .i64 0) := by rw [cell_of_row _ _ _ _ _ _ hN]; rfl
  have n1 : w3.cell? ⟨w1.heap.size, 1, none⟩ = some (.int .i64 0) := by rw [cell_of_row _ _ _ _ _ _ hN]; rfl
  have n2 : w3.cell? ⟨w1.heap.size, 2, none⟩ = some (.string ⟨#[]⟩) := by rw [cell_of_row _ _ _ _ _ _ hN]; rfl
  have nz : w3.frozen? ⟨w1.heap.size, 1, none⟩ = false := by unfold World.frozen?; rw [hN]; rfl
  have hW3 := hW2.trans (hb3.mono hW2.size)
  clear HDN hb3 hV2 hN0 hW2 hX cX
  go_wp2
  go_ret
  have hs3 : w.heap.size ≤ w3.heap.size := hW3.size
  have hB : Below w.heap.size w (w3.setCell ⟨w1.heap.size, 1, none⟩ (.int .i64 (dig (evs.take n) d p))) := hW3.setCell (show w.heap.size ≤ w1.heap.size by omega) _
  have hz : (w3.setCell ⟨w1.heap.size, 1, none⟩ (.int .i64 (dig (evs.take n) d p))).heap.size = w3.heap.size := by simp [World.setCell]
  have hO := owns_fresh (w3.setCell ⟨w1.heap.size, 1, none⟩ (.int .i64 (dig (evs.take n) d p))) w.heap.size ⟨0, dig (evs.take n) d p, ⟨#[]⟩⟩ (by rw [hz]; exact hs3)
  rw [hz] at hO
  exact ⟨_, rfl, hO, hB.alloc (by rw [hz]; exact hs3) _⟩

set_option maxRecDepth 100000 in
set_option maxHeartbeats 2000000 in
theorem tree_leaf (evs : List ByteArray) (n p : Nat) (P : Int) (k M R : Int) (T V : Value) (w : World) (eP : P = p) (hp : p < n) (hn : n ≤ evs.length) (hl : evs.length ≤ 65535) (hV : StringsAt w V evs) (hk : kindOf k M n p 0 = 1) :
    Calls Try.prog 51 #[V, .agg #[.int .i64 k, .int .i64 M, .int .i64 n, .int .i64 R, T], .int .i64 P, .int .i64 0] w fun e w' => TreeR w [⟨1, 0, evs[p]'(by omega)⟩] e w' := by
  have hV1 := hV
  obtain ⟨ao, cap, rfl, hc⟩ := hV1
  obtain ⟨b, o, rfl, hb, _⟩ := hc (by omega)
  subst eP
  have hpi : (p : Int) < (evs.length : Int) := by omega
  have KA := kind_any k M n R T p 0
  clear hc
  go_enter Try.func51, Try.ntmps51
  go_wp2_with fail
  have hW : Below w.heap.size w (w.alloc (.cells #[.int .i64 k, .int .i64 M, .int .i64 n, .int .i64 R, T] 42)) := (Below.refl _ _).alloc (Nat.le_refl _) _
  have hWs : (w.alloc (.cells #[.int .i64 k, .int .i64 M, .int .i64 n, .int .i64 R, T] 42)).heap.size = w.heap.size + 1 := by simp
  generalize w.alloc (.cells #[.int .i64 k, .int .i64 M, .int .i64 n, .int .i64 R, T] 42) = W at hW hWs ⊢
  refine (kind_any k M n R T p 0 _ (by omega) (by omega)).mono ?_
  rintro e w1 ⟨rfl, hb1⟩
  rw [hk]
  have hV1 := (hV.below hW).below hb1
  have hW1 := hW.trans (hb1.mono hW.size)
  have hs1 : w.heap.size + 1 ≤ w1.heap.size := by have := hb1.size; omega
  have hX : Below w1.heap.size w1 (w1.alloc (.cells #[.int .i64 1, .int .i64 0, .string ⟨#[]⟩] 100)) := (Below.refl _ _).alloc (Nat.le_refl _) _
  have hVX := hV1.below hX
  have cX : (w1.alloc (.cells #[.int .i64 1, .int .i64 0, .string ⟨#[]⟩] 100)).cell? ⟨b, o + p, none⟩ = some (.string (evs[p]'(by omega))) := by
    obtain ⟨ao, cp, e, hc⟩ := hVX
    simp only [Value.slice.injEq] at e
    obtain ⟨rfl, -, rfl⟩ := e
    obtain ⟨b', o', e, _, hc⟩ := hc (by omega)
    cases e
    exact hc p (by omega)
  clear hb1 hW hV KA hV1 hVX
  go_wp2
  go_ret
  have hs3 : w.heap.size ≤ w1.heap.size := hW1.size
  have hB := hW1.alloc hs3 (.cells #[.int .i64 1, .int .i64 0, .string (evs[p]'(by omega))] 100)
  have hz : (w1.alloc (.cells #[.int .i64 1, .int .i64 0, .string (evs[p]'(by omega))] 100)).heap.size = w1.heap.size + 1 := by simp
  have hO := owns_fresh (w1.alloc (.cells #[.int .i64 1, .int .i64 0, .string (evs[p]'(by omega))] 100)) w.heap.size ⟨1, 0, evs[p]'(by omega)⟩ (by rw [hz]; omega)
  rw [hz] at hO
  exact ⟨_, rfl, hO, hB.alloc (by rw [hz]; omega) _⟩
end Go.Proofs.Ytlndinigbppafaa

/-
  The document's tree of a proof: the walk of steleref.Tree, on: a node with nodes below it.
-/
namespace Go.Proofs.Ytlndinigbppafaa
open Go.RowKit

theorem owns_cells3 {w : World} {base g cp : Nat} {ns : List PN} (h : w.ownsRow base 100 3 (.slice (some ⟨g, 0, none⟩) ns.length cp) ns.length (cellsN ns)) : ∀ j u, (cellsN ns)[j]? = some u → w.cell? ((⟨g, 0, none⟩ : Addr).add j) = some u := by
  intro j u hj
  obtain ⟨_, h2⟩ := h
  rcases h2 with ⟨h, _⟩ | ⟨g', cap, cur, e, _, hg, _, _, _, ht⟩
  · cases h
  · simp only [Value.slice.injEq, Option.some.injEq, Addr.mk.injEq] at e
    obtain ⟨⟨rfl, -, -⟩, -, rfl⟩ := e
    rw [show (⟨g, 0, none⟩ : Addr).add j = ⟨g, j, none⟩ by unfold Addr.add; split <;> simp_all, cell_of_row _ _ _ _ _ _ hg]
    rw [← ht, List.getElem?_take] at hj
    split at hj
    · simpa using hj
    · cases hj

/-- The message's box. -/
def MsgBox (w : World) (b : Nat) (k M n R : Int) (T : Value) : Prop := w.cell? ⟨b, 0, none⟩ = some (.int .i64 k) ∧ w.cell? ⟨b, 1, none⟩ = some (.int .i64 M) ∧ w.cell? ⟨b, 2, none⟩ = some (.int .i64 n) ∧ w.cell? ⟨b, 3, none⟩ = some (.int .i64 R) ∧ w.cell? ⟨b, 4, none⟩ = some T
theorem MsgBox.below {w w' : World} {b : Nat} {k M n R : Int} {T : Value} (h : MsgBox w b k M n R T) (hb : Below w.heap.size w w') : MsgBox w' b k M n R T := ⟨cell_keep h.1 hb, cell_keep h.2.1 hb, cell_keep h.2.2.1 hb, cell_keep h.2.2.2.1 hb, cell_keep h.2.2.2.2 hb⟩

theorem MsgBox.grown {w w' : World} {b : Nat} {k M n R : Int} {T : Value} {row : Option Nat} (h : MsgBox w b k M n R T) (hg : w.grownBy w' row) (hb : b < w.heap.size) (hne : some b ≠ row) : MsgBox w' b k M n R T := by
  have e := hg.block b hb hne
  have K : ∀ j u, w.cell? ⟨b, j, none⟩ = some u → w'.cell? ⟨b, j, none⟩ = some u := fun j u q => (World.cell?_of_block (w := w) e).trans q
  exact ⟨K _ _ h.1, K _ _ h.2.1, K _ _ h.2.2.1, K _ _ h.2.2.2.1, K _ _ h.2.2.2.2⟩

set_option maxRecDepth 100000 in
set_option maxHeartbeats 2000000 in
theorem tree_alone (evs : List ByteArray) (n d p : Nat) (P D : Int) (k M R : Int) (T V : Value) (A : List PN) (w : World) (eP : P = p) (eD : D = (d : Int) + 1) (hd : d + 1 ≤ 16) (hp : p < n) (hn : n ≤ evs.length) (hl : evs.length ≤ 65535) (hV : StringsAt w V evs) (hA1 : 1 ≤ A.length) (hA2 : A.length ≤ 200000)
    (hk : kindOf k M n p (d + 1) = 3)
    (ih : Hid (∀ (w : World) (D : Int), D = d → StringsAt w V evs → Calls Try.prog 51 #[V, .agg #[.int .i64 k, .int .i64 M, .int .i64 n, .int .i64 R, T], .int .i64 p, .int .i64 D] w fun e w' => TreeR w A e w')) :
    Calls Try.prog 51 #[V, .agg #[.int .i64 k, .int .i64 M, .int .i64 n, .int .i64 R, T], .int .i64 P, .int .i64 D] w fun e w' => TreeR w (⟨3, 0, ByteArray.empty⟩ :: A) e w' := by
  have hV1 := hV
  obtain ⟨ao, cap, rfl, _⟩ := hV1
  obtain ⟨i0, hi, hz0, hz1, hz2⟩ := info_parts Try.infoNode
  subst eP eD
  go_enter Try.func51, Try.ntmps51
  go_wp2_with fail
  have hM0 : MsgBox (w.alloc (.cells #[.int .i64 k, .int .i64 M, .int .i64 n, .int .i64 R, T] 42)) w.heap.size k M n R T := by refine ⟨?_, ?_, ?_, ?_, ?_⟩ <;> simp
  have hW : Below w.heap.size w (w.alloc (.cells #[.int .i64 k, .int .i64 M, .int .i64 n, .int .i64 R, T] 42)) := (Below.refl _ _).alloc (Nat.le_refl _) _
  have hWs : (w.alloc (.cells #[.int .i64 k, .int .i64 M, .int .i64 n, .int .i64 R, T] 42)).heap.size = w.heap.size + 1 := by simp
  generalize w.alloc (.cells #[.int .i64 k, .int .i64 M, .int .i64 n, .int .i64 R, T] 42) = W at hM0 hW hWs ⊢
  rw [show ((d : Int) + 1) = ((d + 1 : Nat) : Int) from rfl]
  refine (kind_any k M n R T p (d + 1) _ hd (by omega)).mono ?_
  rintro e w1 ⟨rfl, hb1⟩
  rw [hk]
  have hM1 := hM0.below hb1
  have hV1 := (hV.below hW).below hb1
  have hW1 := hW.trans (hb1.mono hW.size)
  have hs1 : w.heap.size + 1 ≤ w1.heap.size := by have := hb1.size; omega
  have hX : Below w1.heap.size w1 ((w1.alloc (.cells #[.int .i64 3, .int .i64 0, .string ⟨#[]⟩] 100)).alloc (.cells #[.int .i64 3, .int .i64 0, .string ⟨#[]⟩] 100)) := ((Below.refl _ _).alloc (Nat.le_refl _) _).alloc (by simp) _
  obtain ⟨m0, m1, m2, m3, m4⟩ := hM1.below hX
  have hO0 := owns_fresh (w1.alloc (.cells #[.int .i64 3, .int .i64 0, .string ⟨#[]⟩] 100)) w.heap.size ⟨3, 0, ⟨#[]⟩⟩ (by simp; omega)
  rw [show (w1.alloc (.cells #[.int .i64 3, .int .i64 0, .string ⟨#[]⟩] 100)).heap.size = w1.heap.size + 1 by simp] at hO0
  have HO : Hid _ := hO0
  clear hO0
  have HV : Hid _ := hV1.below hX
  have HW : Hid _ := hW1.trans (hX.mono hW1.size)
  clear hb1 hW hM0 hV hV1 hM1 hX
  go_wp2_with fail
  have hO0 := HO.out
  have hV0 := HV.out
  have hW0 := HW.out
  have hs0 := hW0.size
  clear HO HV HW m0 m1 m2 m3 m4
  generalize (w1.alloc (.cells #[.int .i64 3, .int .i64 0, .string ⟨#[]⟩] 100)).alloc (.cells #[.int .i64 3, .int .i64 0, .string ⟨#[]⟩] 100) = X at hO0 hV0 hW0 hs0 ⊢
  refine (ih.out X d rfl hV0).mono ?_
  rintro e w2 ⟨v', rfl, hO2, hb2⟩
  have hO1 := owns_below hO0 hb2
  have hW2 := hW0.trans (hb2.mono hs0)
  have hs2 := hW2.size
  obtain ⟨g, cp, rfl⟩ : ∃ g cp, v' = .slice (some ⟨g, 0, none⟩) A.length cp := by
    rcases hO2.2 with ⟨_, h0⟩ | ⟨g, cp, cur, rfl, _⟩
    · omega
    · exact ⟨g, cp, rfl⟩
  have hc2 := owns_cells3 hO2
  have HC : Hid _ := hc2
  have hcl := cellsN_length A
  clear hc2 hO0 hV0 hb2 ih
  go_wp2_with (at_builtin; refine wpList_append_lies _ rfl (.tmp 49) (.tmp 50) 40 rfl w.heap.size 100 i0 (.agg #[.int .i64 0, .int .i64 0, .string ByteArray.empty]) 3 32 Try.underlying40 hi hz0 hz1 hz2 rfl (by decide) _ _ _ rfl hO1 ⟨g, 0, none⟩ A.length cp (cellsN A) rfl hcl HC.out (cellsN_one A) (by omega) (by unfold maxLen; omega) (by omega) hs2 _ rfl ?_)
  intro g3 cp3 w3 hO3 hg3 hat3 _
  have hB3 : Below w.heap.size w w3 := hW2.grown hg3 hs2 (fun g hg => (hO1.lt g hg).1)
  rw [← cellsN_append] at hO3
  clear hO1 hO2 hg3 hat3 HC
  go_wp2
  go_ret
  refine ⟨_, rfl, ?_, hB3⟩
  rw [Nat.add_comm 1 A.length] at hO3
  rw [Nat.add_comm 1 A.length]
  exact hO3

set_option maxRecDepth 100000 in
set_option maxHeartbeats 2000000 in
theorem tree_two (evs : List ByteArray) (n d p : Nat) (P D : Int) (k M R : Int) (T V : Value) (A B : List PN) (w : World) (eP : P = p) (eD : D = (d : Int) + 1) (hd : d + 1 ≤ 16) (hp : p < n) (hn : n ≤ evs.length) (hl : evs.length ≤ 65535) (hV : StringsAt w V evs) (hA1 : 1 ≤ A.length) (hA2 : A.length ≤ 200000) (hB1 : 1 ≤ B.length) (hB2 : B.length ≤ 200000) (hR : p + pw d < n)
    (hk : kindOf k M n p (d + 1) = 2)
    (ih : Hid (∀ (w : World) (D : Int), D = d → StringsAt w V evs → Calls Try.prog 51 #[V, .agg #[.int .i64 k, .int .i64 M, .int .i64 n, .int .i64 R, T], .int .i64 p, .int .i64 D] w fun e w' => TreeR w A e w'))
    (ih2 : Hid (∀ (w : World) (P D : Int), P = (p + pw d : Nat) → D = d → StringsAt w V evs → Calls Try.prog 51 #[V, .agg #[.int .i64 k, .int .i64 M, .int .i64 n, .int .i64 R, T], .int .i64 P, .int .i64 D] w fun e w' => TreeR w B e w')) :
    Calls Try.prog 51 #[V, .agg #[.int .i64 k, .int .i64 M, .int .i64 n, .int .i64 R, T], .int .i64 P, .int .i64 D] w fun e w' => TreeR w (⟨2, 0, ByteArray.empty⟩ :: (A ++ B)) e w' := by
  have hV1 := hV
  obtain ⟨ao, cap, rfl, _⟩ := hV1
  have HVw : Hid _ := hV
  obtain ⟨i0, hi, hz0, hz1, hz2⟩ := info_parts Try.infoNode
  subst eP eD
  go_enter Try.func51, Try.ntmps51
  go_wp2_with fail
  have hM0 : MsgBox (w.alloc (.cells #[.int .i64 k, .int .i64 M, .int .i64 n, .int .i64 R, T] 42)) w.heap.size k M n R T := by refine ⟨?_, ?_, ?_, ?_, ?_⟩ <;> simp
  have hW : Below w.heap.size w (w.alloc (.cells #[.int .i64 k, .int .i64 M, .int .i64 n, .int .i64 R, T] 42)) := (Below.refl _ _).alloc (Nat.le_refl _) _
  have hWs : (w.alloc (.cells #[.int .i64 k, .int .i64 M, .int .i64 n, .int .i64 R, T] 42)).heap.size = w.heap.size + 1 := by simp
  generalize w.alloc (.cells #[.int .i64 k, .int .i64 M, .int .i64 n, .int .i64 R, T] 42) = W at hM0 hW hWs ⊢
  rw [show ((d : Int) + 1) = ((d + 1 : Nat) : Int) from rfl]
  refine (kind_any k M n R T p (d + 1) _ hd (by omega)).mono ?_
  rintro e w1 ⟨rfl, hb1⟩
  rw [hk]
  have hM1 := hM0.below hb1
  have hV1 := (hV.below hW).below hb1
  have hW1 := hW.trans (hb1.mono hW.size)
  have hs1 : w.heap.size + 1 ≤ w1.heap.size := by have := hb1.size; omega
  have hX : Below w1.heap.size w1 ((w1.alloc (.cells #[.int .i64 2, .int .i64 0, .string ⟨#[]⟩] 100)).alloc (.cells #[.int .i64 2, .int .i64 0, .string ⟨#[]⟩] 100)) := ((Below.refl _ _).alloc (Nat.le_refl _) _).alloc (by simp) _
  obtain ⟨m0, m1, m2, m3, m4⟩ := hM1.below hX
  have hO0 := owns_fresh (w1.alloc (.cells #[.int .i64 2, .int .i64 0, .string ⟨#[]⟩] 100)) w.heap.size ⟨2, 0, ⟨#[]⟩⟩ (by simp; omega)
  rw [show (w1.alloc (.cells #[.int .i64 2, .int .i64 0, .string ⟨#[]⟩] 100)).heap.size = w1.heap.size + 1 by simp] at hO0
  have HO : Hid _ := hO0
  clear hO0
  have HV : Hid _ := hV1.below hX
  have HW : Hid _ := hW1.trans (hX.mono hW1.size)
  clear hb1 hW hM0 hV hV1 hM1 hX
  go_wp2_with fail
  have hO0 := HO.out
  have hV0 := HV.out
  have hW0 := HW.out
  have hs0 := hW0.size
  have hWlt : w.heap.size < ((w1.alloc (.cells #[.int .i64 2, .int .i64 0, .string ⟨#[]⟩] 100)).alloc (.cells #[.int .i64 2, .int .i64 0, .string ⟨#[]⟩] 100)).heap.size := by simp; omega
  have hM0 : MsgBox ((w1.alloc (.cells #[.int .i64 2, .int .i64 0, .string ⟨#[]⟩] 100)).alloc (.cells #[.int .i64 2, .int .i64 0, .string ⟨#[]⟩] 100)) w.heap.size k M n R T := ⟨m0, m1, m2, m3, m4⟩
  clear HO HV HW m0 m1 m2 m3 m4
  generalize (w1.alloc (.cells #[.int .i64 2, .int .i64 0, .string ⟨#[]⟩] 100)).alloc (.cells #[.int .i64 2, .int .i64 0, .string ⟨#[]⟩] 100) = X at hO0 hV0 hW0 hs0 hM0 hWlt ⊢
  refine (ih.out X d rfl hV0).mono ?_
  rintro e w2 ⟨v', rfl, hO2, hb2⟩
  have hO1 := owns_below hO0 hb2
  have hM2 := hM0.below hb2
  have hX2 : w.heap.size < w2.heap.size := by have := hb2.size; have := hWlt; omega
  have hW2 := hW0.trans (hb2.mono hs0)
  have hs2 := hW2.size
  obtain ⟨g, cp, rfl⟩ : ∃ g cp, v' = .slice (some ⟨g, 0, none⟩) A.length cp := by
    rcases hO2.2 with ⟨_, h0⟩ | ⟨g, cp, cur, rfl, _⟩
    · omega
    · exact ⟨g, cp, rfl⟩
  have hc2 := owns_cells3 hO2
  have HC : Hid _ := hc2
  have hcl := cellsN_length A
  clear hc2 hO0 hV0 hb2 ih
  go_wp2_with (at_builtin; refine wpList_append_lies _ rfl (.tmp 49) (.tmp 50) 40 rfl w.heap.size 100 i0 (.agg #[.int .i64 0, .int .i64 0, .string ByteArray.empty]) 3 32 Try.underlying40 hi hz0 hz1 hz2 rfl (by decide) _ _ _ rfl hO1 ⟨g, 0, none⟩ A.length cp (cellsN A) rfl hcl HC.out (cellsN_one A) (by omega) (by unfold maxLen; omega) (by omega) hs2 _ rfl ?_)
  intro g3 cp3 w3 hO3 hg3 hat3 _
  have hB3 : Below w.heap.size w w3 := hW2.grown hg3 hs2 (fun g hg => (hO1.lt g hg).1)
  rw [← cellsN_append] at hO3
  have hM3 : MsgBox w3 w.heap.size k M n R T := hM2.grown hg3 (by have := hX2; omega) (by simp [Value.ownBlock]; omega)
  have hV3 := StringsAt.below HVw.out hB3
  have hs3 := hB3.size
  have h16 : pw d ≤ 65536 := pw_le (e := 16) (by omega)
  have hRi : ((p : Int) + (pw d : Int)) < (n : Int) := by omega
  obtain ⟨m0, m1, m2, m3, m4⟩ := hM3
  have hw1 : IntKind.i64.wrap (d : Int) = d := by go_arith
  have hw2 : IntKind.i64.wrap ((p : Int) + (pw d : Int)) = (p : Int) + (pw d : Int) := by go_arith
  have PW : ∀ w', Calls Try.prog 49 #[.int .i64 d] w' fun e w'' => e = .returned (.int .i64 (pw d)) ∧ w'' = w' := fun w' => power_any d w' (by omega)
  clear hO1 hO2 hg3 hat3 HC hM2 HVw
  go_wp2
  go_still_tail 9, (by kernel_rfl)
  still_call (PW _)
  repeat still_step
  refine wpStill_nil ?_
  generalize hwd : (World.mk w3.heap w3.tape (w3.drawn + 1) w3.os w3.output) = wd
  have hbd : Below w3.heap.size w3 wd := by rw [← hwd]; exact (Below.refl _ _).drew
  clear hwd
  go_wp2_with fail
  refine (ih2.out wd _ d (by omega) rfl (StringsAt.below hV3 hbd)).mono ?_
  rintro e w4 ⟨v4, rfl, hO4, hb4⟩
  have hO5 := owns_below (owns_below hO3 hbd) hb4
  have hB4 := (hB3.trans (hbd.mono hs3)).trans (hb4.mono (Nat.le_trans hs3 hbd.size))
  have hs4 := hB4.size
  obtain ⟨g4, cp4, rfl⟩ : ∃ g cp, v4 = .slice (some ⟨g, 0, none⟩) B.length cp := by
    rcases hO4.2 with ⟨_, h0⟩ | ⟨g, cp, cur, rfl, _⟩
    · omega
    · exact ⟨g, cp, rfl⟩
  have HC : Hid _ := owns_cells3 hO4
  have hcl4 := cellsN_length B
  clear hO3 hV3 hb4 ih2 hbd m0 m1 m2 m3 m4 PW
  go_wp2_with (at_builtin; refine wpList_append_lies _ rfl (.tmp 64) (.tmp 65) 40 rfl w.heap.size 100 i0 (.agg #[.int .i64 0, .int .i64 0, .string ByteArray.empty]) 3 32 Try.underlying40 hi hz0 hz1 hz2 rfl (by decide) _ _ _ rfl hO5 ⟨g4, 0, none⟩ B.length cp4 (cellsN B) rfl hcl4 HC.out (cellsN_one B) (by omega) (by unfold maxLen; omega) (by omega) hs4 _ rfl ?_)
  intro g6 cp6 w6 hO6 hg6 hat6 _
  have hB6 : Below w.heap.size w w6 := hB4.grown hg6 hs4 (fun g hg => (hO5.lt g hg).1)
  rw [← cellsN_append] at hO6
  clear hO5 hO4 hg6 hat6 HC
  go_wp2
  go_ret
  refine ⟨_, rfl, ?_, hB6⟩
  have e1 : (⟨2, 0, ByteArray.empty⟩ :: (A ++ B) : List PN).length = 1 + A.length + B.length := by simp; omega
  rw [e1]
  exact hO6
end Go.Proofs.Ytlndinigbppafaa
