/-
  Texts of ours, joined: LogA, LogB, LogD, CnB, Hon, StA, StB, ArgIn, Lv, SoA.
-/
import Derived.Test.YtlndinigbppafaaGreatTreeH
import Derived.LaidEql
import Derived.Lib.BufferWrite
import Derived.Lib.UnsafeStr
import Derived.Laws.MakeOwn
import Derived.Deep.RegionLaw
import Derived.Deep.AppendLies
import Derived.Test.YtlndinigbppafaaGreatDec
import Derived.Test.YtlndinigbppafaaGreatSnd
import Derived.Test.YtlndinigbppafaaGreatAudJ
import Derived.Test.YtlndinigbppafaaGreatSm
import Derived.Test.YtlndinigbppafaaGreatRows
import Derived.ProofKit
import Derived.SliceStrings
import Derived.Conc.Holds
import Derived.SizedLaws
import Derived.ChangeMaps5
/-
  The walks of the program's member and growth: the proofs of a version.
-/
namespace Go.Proofs.YtlndinigbppafaaGreat
open Go.RowKit

theorem evAt_le (evs : List ByteArray) (p m : Nat) (h : ∀ s ∈ evs, s.size ≤ m) : (evAt evs p).size ≤ m := by
  unfold evAt
  rcases Nat.lt_or_ge p evs.length with hp | hp
  · rw [List.getElem?_eq_getElem hp]; exact h _ (List.getElem_mem hp)
  · rw [List.getElem?_eq_none hp]; exact Nat.zero_le _
theorem pruneN_small (evs : List ByteArray) (f : Nat → Nat → Bool) (h : ∀ s ∈ evs, s.size ≤ 255) (d p : Nat) : ∀ x ∈ pruneN evs f d p, (0 ≤ x.kind ∧ x.kind ≤ 255) ∧ (0 ≤ x.dig ∧ x.dig ≤ 65535) ∧ x.ev.size ≤ 255 := by
  have e0 : ByteArray.empty.size = 0 := rfl
  induction d generalizing p with
  | zero =>
    intro x hx
    have h1 := dig_bd evs 0 p
    have h2 := evAt_le evs p 255 h
    unfold pruneN at hx
    split at hx
    · simp at hx; subst hx; exact ⟨by simp, h1, by show ByteArray.empty.size ≤ 255; omega⟩
    · simp at hx; subst hx; exact ⟨by simp, by simp, h2⟩
  | succ d ih =>
    intro x hx
    have h1 := dig_bd evs (d + 1) p
    unfold pruneN at hx
    split at hx
    · simp at hx; subst hx; exact ⟨by simp, h1, by show ByteArray.empty.size ≤ 255; omega⟩
    · split at hx
      · simp only [List.mem_cons, List.mem_append] at hx
        rcases hx with rfl | hx | hx
        · exact ⟨by simp, by simp, by show ByteArray.empty.size ≤ 255; omega⟩
        · exact ih p x hx
        · exact ih _ x hx
      · simp only [List.mem_cons] at hx
        rcases hx with rfl | hx
        · exact ⟨by simp, by simp, by show ByteArray.empty.size ≤ 255; omega⟩
        · exact ih p x hx

/-- A member proof's bytes. -/
def memberB (evs : List ByteArray) (i : Int) : List UInt8 := encM 3 i evs.length 0 (pruneN evs (ruleM i) (dep evs.length) 0)
/-- A growth proof's bytes. -/
def growthB (evs : List ByteArray) (m : Int) : List UInt8 := encM 2 m evs.length (dig evs (dep evs.length) 0) (pruneN evs (ruleG m) (dep evs.length) 0)
/-- A commitment's bytes. -/
def commitB (evs : List ByteArray) : List UInt8 := encM 1 0 evs.length (dig evs (dep evs.length) 0) []

theorem small_prune (evs : List ByteArray) (f : Nat → Nat → Bool) (k M R : Int) (hk : 0 ≤ k ∧ k ≤ 255) (hM : 0 ≤ M ∧ M ≤ 65535) (hR : 0 ≤ R ∧ R ≤ 65535) (hn : evs.length ≤ 65535) (hs : ∀ s ∈ evs, s.size ≤ 255) : SmallM k M evs.length R (pruneN evs f (dep evs.length) 0) := by
  refine ⟨hk, hM, ⟨by omega, by omega⟩, hR, ?_, pruneN_small evs f hs _ _⟩
  have h1 := pruneN_len evs f (dep evs.length) 0
  have h2 : pw (dep evs.length) ≤ 65536 := pw_le (e := 16) (dep_le _ 16 (by rw [pw_16]; omega))
  omega

set_option maxRecDepth 100000 in
set_option maxHeartbeats 1000000 in
theorem member_any (evs : List ByteArray) (V : Value) (i n : Int) (w : World) (hV : Prunes V (fun f => pruneN evs f (dep evs.length) 0)) (hi : 0 ≤ i ∧ i ≤ 65535) (en : n = evs.length) (hn : evs.length ≤ 65535) (hs : ∀ s ∈ evs, s.size ≤ 255) :
    Calls Tryz.prog 62 #[V, .int .i64 i, .int .i64 n] w fun e w' => ∃ v', e = .returned v' ∧ w'.ownsRow w.heap.size 5 1 v' (memberB evs i).length (bytes8 (memberB evs i)) ∧ Below w.heap.size w w' := by
  obtain ⟨t, a, F, rfl, hm, hE, hA, hC⟩ := hV
  subst en
  go_enter Tryz.func62, Tryz.ntmps62
  go_wp2
  go_region_held3 (fun _ => True) (trivial)
    (first
      | (go_at_call 99; refine (memberRule_any _ _).mono ?_; rintro e w1 ⟨R, rfl, hR1, hb1⟩; have hq1 : Below w.heap.size w w1 := below_step ((Below.refl _ _).drew) hb1)
      | (refine Calls.mono (hC.out (ruleM i) R _ hR1) ?_; rintro e w2 ⟨v2, rfl, hN2, hb2⟩; obtain ⟨x2, y2, rfl, hrest⟩ := id hN2; clear hrest; have hq2 : Below w.heap.size w w2 := below_step hq1 hb2))
  all_goals go_wp2_with fail
  all_goals refine (wireMessage_any 3 i evs.length 0 _ _ _ hN2 (small_prune evs (ruleM i) 3 i 0 (by omega) hi (by omega) hn hs) (by omega)).mono ?_
  all_goals rintro e w3 ⟨v3, rfl, hO3, hb3⟩
  all_goals go_wp2
  all_goals go_ret
  all_goals exact ⟨_, rfl, owns_base hO3 hq2.size, hq2.trans (hb3.mono hq2.size)⟩

set_option maxRecDepth 100000 in
set_option maxHeartbeats 1000000 in
theorem growth_any (evs : List ByteArray) (V : Value) (m n : Int) (w : World) (hV : Prunes V (fun f => pruneN evs f (dep evs.length) 0)) (hD : NodeV (dig evs (dep evs.length) 0) V) (hm' : 0 ≤ m ∧ m ≤ 65535) (en : n = evs.length) (hn : evs.length ≤ 65535) (hs : ∀ s ∈ evs, s.size ≤ 255) :
    Calls Tryz.prog 61 #[V, .int .i64 m, .int .i64 n] w fun e w' => ∃ v', e = .returned v' ∧ w'.ownsRow w.heap.size 5 1 v' (growthB evs m).length (bytes8 (growthB evs m)) ∧ Below w.heap.size w w' := by
  have hdb := dig_bd evs (dep evs.length) 0
  have HM : Hid (growthB evs m = encM 2 m evs.length (dig evs (dep evs.length) 0) (pruneN evs (ruleG m) (dep evs.length) 0)) := rfl
  generalize dig evs (dep evs.length) 0 = g at *
  obtain ⟨t, a, F, rfl, hm, hE, hA, hC⟩ := hV
  subst en
  go_enter Tryz.func61, Tryz.ntmps61
  go_wp2
  go_region_held3 (fun _ => True) (trivial)
    (first
      | (go_at_call 98; refine (growthRule_any _ _).mono ?_; rintro e w1 ⟨R, rfl, hR1, hb1⟩; have hq1 : Below w.heap.size w w1 := below_step ((Below.refl _ _).drew) hb1)
      | (refine Calls.mono (hC.out (ruleG m) R _ hR1) ?_; rintro e w2 ⟨v2, rfl, hN2, hb2⟩; obtain ⟨x2, y2, rfl, hrest⟩ := id hN2; clear hrest; have hq2 : Below w.heap.size w w2 := below_step hq1 hb2))
  all_goals have hs2 := hq2.size
  all_goals clear hm hE hA hC hR1
  all_goals rcases digest_call hD with ⟨x, y, z, hVe⟩ | ⟨x, y, z, hVe⟩ | ⟨x, y, z, u, hVe⟩
  all_goals simp only [Value.iface.injEq] at hVe
  all_goals obtain ⟨rfl, rfl⟩ := hVe
  all_goals go_wp2_with (first
    | (go_at_call 227; refine (leafDigest_any _ _ _ _ _).mono ?_; rintro e w' ⟨rfl, rfl⟩)
    | (go_at_call 232; refine (aloneDigest_any _ _ _ _ _).mono ?_; rintro e w' ⟨rfl, rfl⟩)
    | (go_at_call 240; refine (twoDigest_any _ _ _ _ _ _).mono ?_; rintro e w' ⟨rfl, rfl⟩))
  all_goals refine (wireMessage_any 2 m evs.length g _ _ _ (hN2.keep (keepA _ _)) (small_prune evs (ruleG m) 2 m g (by omega) hm' hdb hn hs) (by omega)).mono ?_
  all_goals rintro e w3 ⟨v3, rfl, hO3, hb3⟩
  all_goals rw [← HM.out] at hO3
  all_goals go_wp2
  all_goals go_ret
  all_goals exact ⟨_, rfl, owns_base hO3 (by simp; omega), (hq2.alloc hs2 _).trans (hb3.mono (by simp; omega))⟩
end Go.Proofs.YtlndinigbppafaaGreat

/-
  The walks of the program's log: what is read of it.
-/
namespace Go.Proofs.YtlndinigbppafaaGreat
open Go.RowKit

/-- Strings as cells. -/
def strs8 (evs : List ByteArray) : List Value := evs.map Value.string
/-- A log that NewLog made, with these events: its own block, its row of events. -/
def LogAt (w : World) (b0 B : Nat) (S : Value) (evs : List ByteArray) : Prop :=
  b0 ≤ B ∧ w.heap[B]? = some (.cells #[.pointer (some ⟨B, 0, none⟩), S] 41 (0, 0)) ∧ w.ownsRow b0 9 1 S evs.length (strs8 evs)

theorem LogAt.below {w w' : World} {b0 B : Nat} {S : Value} {evs : List ByteArray} (h : LogAt w b0 B S evs) (hb : Below w.heap.size w w') : LogAt w' b0 B S evs := by
  obtain ⟨h0, h1, h2⟩ := h
  exact ⟨h0, by rw [hb.block B (lt_of_heap h1)]; exact h1, owns_below h2 hb⟩
theorem LogAt.made {w : World} {b0 B : Nat} {S : Value} {evs : List ByteArray} (h : LogAt w b0 B S evs) : w.cell? ⟨B, 0, none⟩ = some (.pointer (some ⟨B, 0, none⟩)) := by
  rw [cell_of_row _ _ _ _ _ _ h.2.1]; rfl
theorem LogAt.evs {w : World} {b0 B : Nat} {S : Value} {evs : List ByteArray} (h : LogAt w b0 B S evs) : w.cell? ⟨B, 1, none⟩ = some S := by
  rw [cell_of_row _ _ _ _ _ _ h.2.1]; rfl
/-- Its events, and the first n of them. -/
theorem LogAt.slice {w : World} {b0 B : Nat} {S : Value} {evs : List ByteArray} (h : LogAt w b0 B S evs) : ∃ ao cap, S = .slice ao evs.length cap ∧ evs.length ≤ cap ∧ cap ≤ maxLen ∧ ∀ n, n ≤ evs.length → StringsAt w (.slice ao n cap) (evs.take n) := by
  obtain ⟨_, _, h2, h3⟩ := h
  rcases h3 with ⟨rfl, h0⟩ | ⟨g, cap, cur, rfl, _, hgg, hle, hmax, _, htake⟩
  · refine ⟨none, 0, by rw [h0], by omega, by decide, fun n hn => ⟨none, 0, by rw [List.length_take]; congr 1; omega, fun hl => ?_⟩⟩
    rw [List.length_take] at hl; omega
  · refine ⟨_, cap, rfl, hle, hmax, fun n hn => ⟨_, cap, by rw [List.length_take]; congr 1; omega, fun _ => ⟨g, 0, rfl, lt_of_heap hgg, fun j hj => ?_⟩⟩⟩
    rw [List.length_take] at hj
    rw [cell_of_row _ _ _ _ _ _ hgg, Nat.zero_add]
    have h1 : (strs8 evs)[j]? = some (.string evs[j]) := by simp [strs8, show j < evs.length by omega]
    rw [← htake, List.getElem?_take, if_pos (by omega)] at h1
    simpa using h1

theorem Tryz.infoLog : (Tryz.prog.info? 41).map (fun i => i.size) = some 2 := by kernel_rfl
theorem same_ptr (d : Nat) (w : World) (a : Addr) : (Op.equalIn (d + 1) 37 (.pointer (some a)) (.pointer (some a))).run Tryz.prog w = .ok true w := by
  obtain ⟨i, hi, _⟩ : ∃ i, Tryz.prog.info? 41 = some i ∧ i.size = 2 := by
    have h := Tryz.infoLog
    cases e : Tryz.prog.info? 41 with
    | none => rw [e] at h; cases h
    | some i => rw [e] at h; exact ⟨i, rfl, by simpa using h⟩
  simp [Op.equalIn, run_underlying Tryz.underlying37, sizeOf, typeInfo, hi, run_sameAddr_same]
theorem neq_self (w : World) (a : Addr) : (binOp .neq 37 (.pointer (some a)) (.pointer (some a))).run Tryz.prog w = .ok (.bool false) w := by
  have h : (Op.equal 37 (.pointer (some a)) (.pointer (some a))).run Tryz.prog w = .ok true w := same_ptr 9999 w a
  simp only [binOp]
  simp [h]

set_option maxRecDepth 100000 in
set_option maxHeartbeats 400000 in
theorem closed_any (w : World) (b0 B : Nat) (S : Value) (evs : List ByteArray) (h : LogAt w b0 B S evs) :
    Calls Tryz.prog 72 #[.pointer (some ⟨B, 0, none⟩)] w fun e w' => e = .returned (.bool false) ∧ w' = w := by
  have hm := h.made
  have hne := neq_self w ⟨B, 0, none⟩
  go_enter Tryz.func72, Tryz.ntmps72
  go_wp2
  go_ret
  exact ⟨rfl, rfl⟩

set_option maxRecDepth 100000 in
set_option maxHeartbeats 400000 in
theorem len_log (w : World) (b0 B : Nat) (S : Value) (evs : List ByteArray) (h : LogAt w b0 B S evs) :
    Calls Tryz.prog 42 #[.pointer (some ⟨B, 0, none⟩)] w fun e w' => e = .returned (.int .i64 evs.length) ∧ w' = w := by
  have hm := h.evs
  obtain ⟨ao, cap, rfl, hc, _⟩ := h.slice
  go_enter Tryz.func42, Tryz.ntmps42
  go_wp2_with (go_at_call 72; refine (closed_any _ _ _ _ _ h).mono ?_; rintro e w' ⟨rfl, rfl⟩)
  go_ret
  exact ⟨rfl, rfl⟩

set_option maxRecDepth 100000 in
set_option maxHeartbeats 400000 in
theorem check_ok (w : World) (b0 B : Nat) (S : Value) (evs : List ByteArray) (n : Int) (h : LogAt w b0 B S evs) (h1 : 1 ≤ n) (h2 : n ≤ evs.length) :
    Calls Tryz.prog 55 #[.pointer (some ⟨B, 0, none⟩), .int .i64 n] w fun e w' => e = .returned (.int .i64 0) ∧ w' = w := by
  have hm := h.evs
  obtain ⟨ao, cap, rfl, hc, _⟩ := h.slice
  go_enter Tryz.func55, Tryz.ntmps55
  go_wp2_with (go_at_call 72; refine (closed_any _ _ _ _ _ h).mono ?_; rintro e w' ⟨rfl, rfl⟩)
  go_ret
  exact ⟨rfl, rfl⟩

set_option maxRecDepth 100000 in
set_option maxHeartbeats 400000 in
theorem check_no (w : World) (b0 B : Nat) (S : Value) (evs : List ByteArray) (n : Int) (h : LogAt w b0 B S evs) (h1 : n < 1 ∨ (evs.length : Int) < n) :
    Calls Tryz.prog 55 #[.pointer (some ⟨B, 0, none⟩), .int .i64 n] w fun e w' => e = .returned (.int .i64 1) ∧ w' = w := by
  have hm := h.evs
  obtain ⟨ao, cap, rfl, hc, _⟩ := h.slice
  by_cases hn : n < 1
  · go_enter Tryz.func55, Tryz.ntmps55
    go_wp2_with (go_at_call 72; refine (closed_any _ _ _ _ _ h).mono ?_; rintro e w' ⟨rfl, rfl⟩)
    go_ret
    exact ⟨rfl, rfl⟩
  · have hn2 : (evs.length : Int) < n := by omega
    have hn3 : 1 ≤ n := by omega
    go_enter Tryz.func55, Tryz.ntmps55
    go_wp2_with (go_at_call 72; refine (closed_any _ _ _ _ _ h).mono ?_; rintro e w' ⟨rfl, rfl⟩)
    go_ret
    exact ⟨rfl, rfl⟩

set_option maxRecDepth 100000 in
set_option maxHeartbeats 400000 in
theorem version_any (w : World) (b0 B : Nat) (S : Value) (evs : List ByteArray) (n : Nat) (N : Int) (eN : N = n) (h : LogAt w b0 B S evs) (h1 : 1 ≤ n) (h2 : n ≤ evs.length) (hn : evs.length ≤ 65535) (hs : ∀ s ∈ evs, s.size ≤ 255) :
    Calls Tryz.prog 56 #[.pointer (some ⟨B, 0, none⟩), .int .i64 N] w fun e w' => e = .returned (treeV (evs.take n) (dep n) 0) ∧ Below w.heap.size w w' := by
  subst eN
  have hm := h.evs
  obtain ⟨ao, cap, rfl, hc, hmax, hS⟩ := h.slice
  have hv := hS n h2
  have hnc : (n : Int) ≤ (cap : Int) := by omega
  have hl : (evs.take n).length = n := by rw [List.length_take]; omega
  clear hS
  go_enter Tryz.func56, Tryz.ntmps56
  go_wp2_with fail
  refine (Build_any (evs.take n) _ _ (by omega) (by omega) (fun s hm => by have := hs s (List.mem_of_mem_take hm); omega) hv).mono ?_
  rintro e w1 ⟨rfl, hb⟩
  rw [hl]
  go_wp2
  go_ret
  exact ⟨rfl, hb⟩
end Go.Proofs.YtlndinigbppafaaGreat

/-
  The walks of the program's log: Root, Commitment, Member, Growth.
-/
namespace Go.Proofs.YtlndinigbppafaaGreat
open Go.RowKit

theorem take_small {evs : List ByteArray} {n m : Nat} (hs : ∀ s ∈ evs, s.size ≤ m) : ∀ s ∈ evs.take n, s.size ≤ m := fun s h => hs s (List.mem_of_mem_take h)

set_option maxRecDepth 100000 in
set_option maxHeartbeats 400000 in
theorem root_no (w : World) (b0 B : Nat) (S : Value) (evs : List ByteArray) (n : Int) (h : LogAt w b0 B S evs) (hn : n < 1 ∨ (evs.length : Int) < n) :
    Calls Tryz.prog 33 #[.pointer (some ⟨B, 0, none⟩), .int .i64 n] w fun e w' => e = .returned (.tuple #[.int .i64 0, .int .i64 1]) ∧ w' = w := by
  go_enter Tryz.func33, Tryz.ntmps33
  go_wp2_with (go_at_call 55; refine (check_no _ _ _ _ _ _ h hn).mono ?_; rintro e w' ⟨rfl, rfl⟩)
  go_ret2
  exact ⟨rfl, rfl⟩

set_option maxRecDepth 100000 in
set_option maxHeartbeats 1000000 in
theorem root_ok (w : World) (b0 B : Nat) (S : Value) (evs : List ByteArray) (n : Nat) (h : LogAt w b0 B S evs) (h1 : 1 ≤ n) (h2 : n ≤ evs.length) (hn : evs.length ≤ 65535) (hs : ∀ s ∈ evs, s.size ≤ 255) :
    Calls Tryz.prog 33 #[.pointer (some ⟨B, 0, none⟩), .int .i64 n] w fun e w' => e = .returned (.tuple #[.int .i64 (dig (evs.take n) (dep n) 0), .int .i64 0]) ∧ Below w.heap.size w w' := by
  have hV := treeV_node (evs.take n) (dep n) 0
  generalize dig (evs.take n) (dep n) 0 = g at hV ⊢
  go_enter Tryz.func33, Tryz.ntmps33
  go_wp2_with fail
  refine (check_ok _ _ _ _ _ n h (by omega) (by omega)).mono ?_
  rintro e w' ⟨rfl, rfl⟩
  go_wp2_with fail
  refine (version_any _ _ _ _ _ n _ rfl h h1 h2 hn hs).mono ?_
  rintro e w1 ⟨rfl, hb1⟩
  rcases digest_call hV with ⟨x, y, z, hVe⟩ | ⟨x, y, z, hVe⟩ | ⟨x, y, z, u, hVe⟩
  all_goals rw [hVe]
  all_goals clear hVe hV
  all_goals go_wp2_with (first
    | (go_at_call 227; refine (leafDigest_any _ _ _ _ _).mono ?_; rintro e w' ⟨rfl, rfl⟩)
    | (go_at_call 232; refine (aloneDigest_any _ _ _ _ _).mono ?_; rintro e w' ⟨rfl, rfl⟩)
    | (go_at_call 240; refine (twoDigest_any _ _ _ _ _ _).mono ?_; rintro e w' ⟨rfl, rfl⟩))
  all_goals go_ret2
  all_goals exact ⟨rfl, hb1.alloc hb1.size _⟩

set_option maxRecDepth 100000 in
set_option maxHeartbeats 400000 in
theorem commit_no (w : World) (b0 B : Nat) (S : Value) (evs : List ByteArray) (n : Int) (h : LogAt w b0 B S evs) (hn : n < 1 ∨ (evs.length : Int) < n) :
    Calls Tryz.prog 23 #[.pointer (some ⟨B, 0, none⟩), .int .i64 n] w fun e w' => e = .returned (.tuple #[.slice none 0 0, .int .i64 1]) ∧ w' = w := by
  go_enter Tryz.func23, Tryz.ntmps23
  go_wp2_with (go_at_call 55; refine (check_no _ _ _ _ _ _ h hn).mono ?_; rintro e w' ⟨rfl, rfl⟩)
  go_ret2
  exact ⟨rfl, rfl⟩
set_option maxRecDepth 100000 in
set_option maxHeartbeats 400000 in
theorem member_no (w : World) (b0 B : Nat) (S : Value) (evs : List ByteArray) (i n : Int) (h : LogAt w b0 B S evs) (hn : n < 1 ∨ (evs.length : Int) < n) :
    Calls Tryz.prog 26 #[.pointer (some ⟨B, 0, none⟩), .int .i64 i, .int .i64 n] w fun e w' => e = .returned (.tuple #[.slice none 0 0, .int .i64 1]) ∧ w' = w := by
  go_enter Tryz.func26, Tryz.ntmps26
  go_wp2_with (go_at_call 55; refine (check_no _ _ _ _ _ _ h hn).mono ?_; rintro e w' ⟨rfl, rfl⟩)
  go_ret2
  exact ⟨rfl, rfl⟩
set_option maxRecDepth 100000 in
set_option maxHeartbeats 400000 in
theorem growth_no (w : World) (b0 B : Nat) (S : Value) (evs : List ByteArray) (m n : Int) (h : LogAt w b0 B S evs) (hn : n < 1 ∨ (evs.length : Int) < n) :
    Calls Tryz.prog 25 #[.pointer (some ⟨B, 0, none⟩), .int .i64 m, .int .i64 n] w fun e w' => e = .returned (.tuple #[.slice none 0 0, .int .i64 1]) ∧ w' = w := by
  go_enter Tryz.func25, Tryz.ntmps25
  go_wp2_with (go_at_call 55; refine (check_no _ _ _ _ _ _ h hn).mono ?_; rintro e w' ⟨rfl, rfl⟩)
  go_ret2
  exact ⟨rfl, rfl⟩
set_option maxRecDepth 100000 in
set_option maxHeartbeats 400000 in
theorem member_no2 (w : World) (b0 B : Nat) (S : Value) (evs : List ByteArray) (i n : Int) (h : LogAt w b0 B S evs) (h1 : 1 ≤ n) (h2 : n ≤ evs.length) (hi : i < 0 ∨ n ≤ i) :
    Calls Tryz.prog 26 #[.pointer (some ⟨B, 0, none⟩), .int .i64 i, .int .i64 n] w fun e w' => e = .returned (.tuple #[.slice none 0 0, .int .i64 1]) ∧ w' = w := by
  by_cases hi0 : i < 0
  · go_enter Tryz.func26, Tryz.ntmps26
    go_wp2_with (go_at_call 55; refine (check_ok _ _ _ _ _ _ h h1 h2).mono ?_; rintro e w' ⟨rfl, rfl⟩)
    go_ret2
    exact ⟨rfl, rfl⟩
  · have hi1 : n ≤ i := by omega
    have hi2 : 0 ≤ i := by omega
    go_enter Tryz.func26, Tryz.ntmps26
    go_wp2_with (go_at_call 55; refine (check_ok _ _ _ _ _ _ h h1 h2).mono ?_; rintro e w' ⟨rfl, rfl⟩)
    go_ret2
    exact ⟨rfl, rfl⟩
set_option maxRecDepth 100000 in
set_option maxHeartbeats 400000 in
theorem growth_no2 (w : World) (b0 B : Nat) (S : Value) (evs : List ByteArray) (m n : Int) (h : LogAt w b0 B S evs) (h1 : 1 ≤ n) (h2 : n ≤ evs.length) (hi : m < 1 ∨ n < m) :
    Calls Tryz.prog 25 #[.pointer (some ⟨B, 0, none⟩), .int .i64 m, .int .i64 n] w fun e w' => e = .returned (.tuple #[.slice none 0 0, .int .i64 1]) ∧ w' = w := by
  by_cases hi0 : m < 1
  · go_enter Tryz.func25, Tryz.ntmps25
    go_wp2_with (go_at_call 55; refine (check_ok _ _ _ _ _ _ h h1 h2).mono ?_; rintro e w' ⟨rfl, rfl⟩)
    go_ret2
    exact ⟨rfl, rfl⟩
  · have hi1 : n < m := by omega
    have hi2 : 1 ≤ m := by omega
    go_enter Tryz.func25, Tryz.ntmps25
    go_wp2_with (go_at_call 55; refine (check_ok _ _ _ _ _ _ h h1 h2).mono ?_; rintro e w' ⟨rfl, rfl⟩)
    go_ret2
    exact ⟨rfl, rfl⟩

set_option maxRecDepth 100000 in
set_option maxHeartbeats 1000000 in
theorem member_ok (w : World) (b0 B : Nat) (S : Value) (evs : List ByteArray) (i : Int) (n : Nat) (h : LogAt w b0 B S evs) (h1 : 1 ≤ n) (h2 : n ≤ evs.length) (hi0 : 0 ≤ i) (hi1 : i < n) (hn : evs.length ≤ 65535) (hs : ∀ s ∈ evs, s.size ≤ 255) :
    Calls Tryz.prog 26 #[.pointer (some ⟨B, 0, none⟩), .int .i64 i, .int .i64 n] w fun e w' => ∃ v', e = .returned (.tuple #[v', .int .i64 0]) ∧ w'.ownsRow w.heap.size 5 1 v' (memberB (evs.take n) i).length (bytes8 (memberB (evs.take n) i)) ∧ Below w.heap.size w w' := by
  have hl : (evs.take n).length = n := by rw [List.length_take]; omega
  have hP := prunes_tree (evs.take n) (dep n) (dep_le _ 16 (by rw [pw_16]; omega)) 0 (by have : pw (dep n) ≤ 65536 := pw_le (e := 16) (dep_le _ 16 (by rw [pw_16]; omega)); omega)
  have HP : Hid (Prunes (treeV (evs.take n) (dep n) 0) (fun f => pruneN (evs.take n) f (dep (evs.take n).length) 0)) := by rw [hl]; exact hP
  clear hP
  have HL : Hid ((evs.take n).length = n) := hl
  clear hl
  go_enter Tryz.func26, Tryz.ntmps26
  go_wp2_with fail
  refine (check_ok _ _ _ _ _ n h (by omega) (by omega)).mono ?_
  rintro e w' ⟨rfl, rfl⟩
  go_wp2_with fail
  refine (version_any _ _ _ _ _ n _ rfl h h1 h2 hn hs).mono ?_
  rintro e w1 ⟨rfl, hb1⟩
  go_wp2_with fail
  refine (member_any (evs.take n) _ i n _ HP.out ⟨hi0, by omega⟩ (by rw [HL.out]) (by rw [HL.out]; omega) (take_small hs)).mono ?_
  rintro e w2 ⟨v2, rfl, hO2, hb2⟩
  go_wp2
  go_ret2
  exact ⟨_, rfl, owns_base hO2 hb1.size, hb1.trans (hb2.mono hb1.size)⟩

set_option maxRecDepth 100000 in
set_option maxHeartbeats 1000000 in
theorem growth_ok (w : World) (b0 B : Nat) (S : Value) (evs : List ByteArray) (m : Int) (n : Nat) (h : LogAt w b0 B S evs) (h1 : 1 ≤ n) (h2 : n ≤ evs.length) (hi0 : 1 ≤ m) (hi1 : m ≤ n) (hn : evs.length ≤ 65535) (hs : ∀ s ∈ evs, s.size ≤ 255) :
    Calls Tryz.prog 25 #[.pointer (some ⟨B, 0, none⟩), .int .i64 m, .int .i64 n] w fun e w' => ∃ v', e = .returned (.tuple #[v', .int .i64 0]) ∧ w'.ownsRow w.heap.size 5 1 v' (growthB (evs.take n) m).length (bytes8 (growthB (evs.take n) m)) ∧ Below w.heap.size w w' := by
  have hl : (evs.take n).length = n := by rw [List.length_take]; omega
  have hP := prunes_tree (evs.take n) (dep n) (dep_le _ 16 (by rw [pw_16]; omega)) 0 (by have : pw (dep n) ≤ 65536 := pw_le (e := 16) (dep_le _ 16 (by rw [pw_16]; omega)); omega)
  have HP : Hid (Prunes (treeV (evs.take n) (dep n) 0) (fun f => pruneN (evs.take n) f (dep (evs.take n).length) 0)) := by rw [hl]; exact hP
  have HV : Hid (NodeV (dig (evs.take n) (dep (evs.take n).length) 0) (treeV (evs.take n) (dep n) 0)) := by rw [hl]; exact treeV_node _ _ _
  clear hP
  have HL : Hid ((evs.take n).length = n) := hl
  clear hl
  go_enter Tryz.func25, Tryz.ntmps25
  go_wp2_with fail
  refine (check_ok _ _ _ _ _ n h (by omega) (by omega)).mono ?_
  rintro e w' ⟨rfl, rfl⟩
  go_wp2_with fail
  refine (version_any _ _ _ _ _ n _ rfl h h1 h2 hn hs).mono ?_
  rintro e w1 ⟨rfl, hb1⟩
  go_wp2_with fail
  refine (growth_any (evs.take n) _ m n _ HP.out HV.out ⟨by omega, by omega⟩ (by rw [HL.out]) (by rw [HL.out]; omega) (take_small hs)).mono ?_
  rintro e w2 ⟨v2, rfl, hO2, hb2⟩
  go_wp2
  go_ret2
  exact ⟨_, rfl, owns_base hO2 hb1.size, hb1.trans (hb2.mono hb1.size)⟩

set_option maxRecDepth 100000 in
set_option maxHeartbeats 1000000 in
theorem commit_ok (w : World) (b0 B : Nat) (S : Value) (evs : List ByteArray) (n : Nat) (h : LogAt w b0 B S evs) (h1 : 1 ≤ n) (h2 : n ≤ evs.length) (hn : evs.length ≤ 65535) (hs : ∀ s ∈ evs, s.size ≤ 255) :
    Calls Tryz.prog 23 #[.pointer (some ⟨B, 0, none⟩), .int .i64 n] w fun e w' => ∃ v', e = .returned (.tuple #[v', .int .i64 0]) ∧ w'.ownsRow w.heap.size 5 1 v' (commitB (evs.take n)).length (bytes8 (commitB (evs.take n))) ∧ Below w.heap.size w w' := by
  have hl : (evs.take n).length = n := by rw [List.length_take]; omega
  have HM : Hid (commitB (evs.take n) = encM 1 0 n (dig (evs.take n) (dep n) 0) []) := by show commitB _ = _; unfold commitB; rw [hl]
  have hV := treeV_node (evs.take n) (dep n) 0
  have hd := dig_bd (evs.take n) (dep n) 0
  clear hl
  generalize dig (evs.take n) (dep n) 0 = g at hV hd HM
  go_enter Tryz.func23, Tryz.ntmps23
  go_wp2_with fail
  refine (check_ok _ _ _ _ _ n h (by omega) (by omega)).mono ?_
  rintro e w' ⟨rfl, rfl⟩
  go_wp2_with fail
  refine (version_any _ _ _ _ _ n _ rfl h h1 h2 hn hs).mono ?_
  rintro e w1 ⟨rfl, hb1⟩
  have hs1 := hb1.size
  rcases digest_call hV with ⟨x, y, z, hVe⟩ | ⟨x, y, z, hVe⟩ | ⟨x, y, z, u, hVe⟩
  all_goals rw [hVe]
  all_goals clear hVe hV
  all_goals go_wp2_with (first
    | (go_at_call 227; refine (leafDigest_any _ _ _ _ _).mono ?_; rintro e w' ⟨rfl, rfl⟩)
    | (go_at_call 232; refine (aloneDigest_any _ _ _ _ _).mono ?_; rintro e w' ⟨rfl, rfl⟩)
    | (go_at_call 240; refine (twoDigest_any _ _ _ _ _ _).mono ?_; rintro e w' ⟨rfl, rfl⟩))
  all_goals refine (wireMessage_any 1 0 n g _ [] _ ⟨none, 0, rfl, fun _ => rfl, fun hl => (by simp at hl)⟩ ⟨by omega, by omega, by omega, hd, by simp, fun x hx => (by cases hx)⟩ (by omega)).mono ?_
  all_goals rintro e w3 ⟨v3, rfl, hO3, hb3⟩
  all_goals rw [← HM.out] at hO3
  all_goals go_wp2
  all_goals go_ret2
  all_goals exact ⟨_, rfl, owns_base hO3 (by simp; omega), ((hb1.alloc hs1 _).alloc (by simp; omega) _).trans (hb3.mono (by simp; omega))⟩
end Go.Proofs.YtlndinigbppafaaGreat

/-
  The walks of strings.Clone, and of the program's NewLog.
-/
namespace Go.Proofs.YtlndinigbppafaaGreat
open Go.RowKit

theorem Tryz.ptrByte : Tryz.prog.cellsOf 5 = 1 := by kernel_rfl

set_option maxRecDepth 100000 in
set_option maxHeartbeats 1000000 in
theorem cloneLite_any (s : ByteArray) (w : World) (hs : s.size ≤ 1000000) :
    Calls Tryz.prog 107 #[.string s] w fun e w' => e = .returned (.string s) ∧ Below w.heap.size w w' := by
  by_cases h0 : s.size = 0
  · obtain rfl : s = ⟨#[]⟩ := by
      apply ByteArray.ext
      exact Array.eq_empty_of_size_eq_zero h0
    go_enter Tryz.func107, Tryz.ntmps107
    go_wp2
    go_ret
    exact ⟨rfl, Below.refl _ _⟩
  · obtain ⟨i0, hi, hz0, hz1, hz2⟩ := info_parts Tryz.infoByte
    have hinfo : (Tryz.prog.info? 5).map (·.size) = some 1 := by rw [hi]; simp [hz1]
    -- the new row, and what the copy makes of it
    obtain ⟨Z, hZ⟩ : ∃ Z, Z = madeCells (Value.int .u8 0).cells (((s.size : Nat) : Int).toNat * i0.size) := ⟨_, rfl⟩
    have hZs : Z.size = s.size := by rw [hZ, size_madeCells, hz1]; simp
    have hmk : ∀ u : World, (Instr.makeSlice 27 (.int .i64 (s.size : Int)) (.int .i64 (s.size : Int))).run Tryz.prog u = .ok (.slice (some ⟨u.heap.size, 0, none⟩) s.size s.size) (u.alloc (.cells Z 5)) := fun u => by
      have h := run_make (P := Tryz.prog) u 27 5 i0 (.int .u8 0) Tryz.underlying27 hi hz0 .i64 .i64 (s.size : Int) (s.size : Int) (by omega) (by omega) (by rw [hz2]; omega) (by omega)
      rw [← hZ] at h
      simpa using h
    clear hZ
    have hcp := Lib.run_copy_row_string (P := Tryz.prog) (w.alloc (.cells Z 5)) 27 9 3 5 w.heap.size 0 s.size s.size s Z 5 Tryz.underlying27 hinfo (heap_alloc_new w _) (Nat.le_refl _) (by omega)
    obtain ⟨Y, hY⟩ : ∃ Y, Y = (Z.toList.take 0 ++ Lib.byteCells s.data.toList ++ Z.toList.drop (0 + s.size)).toArray := ⟨_, rfl⟩
    rw [← hY] at hcp
    have hYl : Y.toList = Lib.byteCells s.data.toList := by
      rw [hY, List.toList_toArray, List.take_zero, List.nil_append, List.drop_of_length_le (by rw [Array.length_toList]; omega), List.append_nil]
    have hYs : Y.size = s.size := by rw [← Array.length_toList, hYl, Lib.byteCells_length, ← Lib.size_eq]
    have hgY : ((w.alloc (.cells Z 5)).setRow w.heap.size Y).heap[w.heap.size]? = some (.cells Y 5 (0, 0)) := setRow_heap _ _ Z _ 5 (0, 0) (heap_alloc_new w _)
    have hne : s.data.toList ≠ [] := fun e => h0 (by rw [Lib.size_eq, e]; rfl)
    have hUS := Lib.run_unsafeString_row (P := Tryz.prog) ((w.alloc (.cells Z 5)).setRow w.heap.size Y) 208 3 9 5 Tryz.underlying208 Tryz.ptrByte w.heap.size Y.size (by unfold World.shape?; rw [hgY]) s.data.toList hne (by rw [← Lib.size_eq]; omega) (by rw [← Lib.size_eq]; omega)
      (fun j x hx => Lib.cells_of_row hgY Y.size j _ (by rw [List.take_of_length_le (by rw [Array.length_toList]; exact Nat.le_refl _), hYl]; simp [Lib.byteCells, hx]))
    rw [← Lib.size_eq] at hUS
    clear hY
    go_enter Tryz.func107, Tryz.ntmps107
    go_wp2
    go_ret
    have hb1 : Below w.heap.size w (w.alloc (.cells Z 5)) := (Below.refl _ w).alloc (Nat.le_refl _) _
    have hb2 : Below w.heap.size (w.alloc (.cells Z 5)) ((w.alloc (.cells Z 5)).setRow w.heap.size Y) := ⟨rfl, rfl, rfl, by simp, fun k hk => setRow_other _ _ _ _ (by omega)⟩
    exact ⟨rfl, Lib.below_freeze (hb1.trans hb2) (p := ⟨w.heap.size, 0, none⟩) (Nat.le_refl _) _⟩

set_option maxRecDepth 100000 in
set_option maxHeartbeats 400000 in
theorem clone_any (s : ByteArray) (w : World) (hs : s.size ≤ 1000000) :
    Calls Tryz.prog 73 #[.string s] w fun e w' => e = .returned (.string s) ∧ Below w.heap.size w w' := by
  go_enter Tryz.func73, Tryz.ntmps73
  go_wp2_with (go_at_call 107; refine (cloneLite_any _ _ hs).mono ?_; rintro e w' ⟨rfl, hb⟩)
  go_ret
  exact ⟨rfl, hb⟩

set_option maxRecDepth 100000 in
set_option maxHeartbeats 400000 in
theorem newLog_any (w : World) :
    Calls Tryz.prog 54 #[] w fun e w' => e = .returned (.pointer (some ⟨w.heap.size, 0, none⟩)) ∧ LogAt w' w.heap.size w.heap.size (.slice none 0 0) [] ∧ Below w.heap.size w w' ∧ w'.heap.size = w.heap.size + 1 := by
  go_enter Tryz.func54, Tryz.ntmps54
  go_wp2
  go_ret
  refine ⟨rfl, ⟨Nat.le_refl _, ?_, World.ownsRow_nil _ _ _ _⟩, (Below.refl _ _).alloc (Nat.le_refl _) _, by simp⟩
  exact heap_alloc_new w _
end Go.Proofs.YtlndinigbppafaaGreat

/-
  The walk of the program's Append.
-/
namespace Go.Proofs.YtlndinigbppafaaGreat
open Go.RowKit

theorem Tryz.infoStr : (Tryz.prog.info? 9).map (fun i => (i.zero, i.size, i.bytes)) = some (some (.string ByteArray.empty), 1, 16) := by kernel_rfl

theorem LogAt.drew {w : World} {b0 B : Nat} {S : Value} {evs : List ByteArray} (h : LogAt w b0 B S evs) : LogAt w.drew b0 B S evs := h.below ((Below.refl _ _).drew)
theorem log_row_ne {w : World} {b0 B : Nat} {S : Value} {evs : List ByteArray} (h : LogAt w b0 B S evs) : some B ≠ S.ownBlock := by
  intro e
  rcases h.2.2.2 with ⟨rfl, _⟩ | ⟨g, cap, cur, rfl, _, hgg, _⟩
  · simp [Value.ownBlock] at e
  · simp [Value.ownBlock] at e
    subst e
    have := h.2.1
    rw [hgg] at this
    simp at this

theorem strs8_append (evs : List ByteArray) (s : ByteArray) : strs8 (evs ++ [s]) = strs8 evs ++ [.string s] := by unfold strs8; rw [List.map_append]; rfl

/-- What is left behind an append. -/
theorem log_appended {w0 w1 w2 : World} {b0 B g cap2 : Nat} {S : Value} {evs : List ByteArray} {s : ByteArray} {X : Obj} (h : LogAt w0 b0 B S evs) (hb1 : Below w0.drew.heap.size w0.drew w1)
    (hown2 : w2.ownsRow b0 9 1 (.slice (some ⟨g, 0, none⟩) (evs.length + 1) cap2) (evs.length + 1) (strs8 evs ++ [.string s])) (hgrow : (w1.alloc X).grownBy w2 S.ownBlock) (hat : S.ownBlock = some g ∨ g = (w1.alloc X).heap.size) :
    LogAt (w2.setCell ⟨B, 1, none⟩ (.slice (some ⟨g, 0, none⟩) (evs.length + 1) cap2)) b0 B (.slice (some ⟨g, 0, none⟩) (evs.length + 1) cap2) (evs ++ [s]) ∧ Frame2 w0 (w2.setCell ⟨B, 1, none⟩ (.slice (some ⟨g, 0, none⟩) (evs.length + 1) cap2)) B S.ownBlock := by
  have hne := log_row_ne h
  have hBlt := lt_of_heap h.2.1
  have hs1 : w0.heap.size ≤ w1.heap.size := hb1.size
  have hgB : g ≠ B := by
    rcases hat with hat | hat
    · intro e; rw [hat, e] at hne; exact hne rfl
    · rw [hat]; simp; omega
  have h1 := h.drew.below hb1
  have hB2 : w2.heap[B]? = some (.cells #[.pointer (some ⟨B, 0, none⟩), S] 41 (0, 0)) := by
    rw [hgrow.block B (by simp; omega) hne, Below.heap_alloc _ _ _ (by omega)]
    exact h1.2.1
  have hother : ∀ k, k ≠ B → (w2.setCell ⟨B, 1, none⟩ (.slice (some ⟨g, 0, none⟩) (evs.length + 1) cap2)).heap[k]? = w2.heap[k]? := fun k hk => Below.heap_setCell _ _ _ _ hk
  refine ⟨⟨h.1, ?_, ?_⟩, ⟨?_, ?_, ?_, ?_, fun k hk hkB hkr => ?_⟩⟩
  · simp [World.setCell, Array.getElem?_modify, hB2]
  · rw [List.length_append, strs8_append]
    obtain ⟨o1, o2⟩ := hown2
    refine ⟨o1, ?_⟩
    rcases o2 with o2 | ⟨g', cp, cur, e, q1, q2, q3⟩
    · exact .inl o2
    · simp only [Value.slice.injEq, Option.some.injEq, Addr.mk.injEq] at e
      obtain ⟨⟨rfl, _, _⟩, _, rfl⟩ := e
      exact .inr ⟨g, _, cur, rfl, q1, by rw [hother g hgB]; exact q2, q3⟩
  · exact hgrow.os.trans hb1.os
  · exact hgrow.tape.trans hb1.tape
  · exact hgrow.output.trans hb1.output
  · have := hgrow.size
    simp at this
    simp [World.setCell]
    omega
  · rw [hother k hkB, hgrow.block k (by simp; omega) hkr, Below.heap_alloc _ _ _ (by omega)]
    exact hb1.block k hk

theorem own_at {w0 w1 : World} {X : Obj} {g n cap2 : Nat} {S : Value} (hb1 : Below w0.drew.heap.size w0.drew w1) (hat : S.ownBlock = some g ∨ g = (w1.alloc X).heap.size) :
    (Value.slice (some ⟨g, 0, none⟩) n cap2).ownBlock = S.ownBlock ∨ ∃ g', (Value.slice (some ⟨g, 0, none⟩) n cap2).ownBlock = some g' ∧ w0.heap.size ≤ g' := by
  rcases hat with h | h
  · left; rw [h]; rfl
  · right
    refine ⟨g, rfl, ?_⟩
    have : w0.heap.size ≤ w1.heap.size := hb1.size
    rw [h]; simp; omega

set_option maxRecDepth 100000 in
set_option maxHeartbeats 1000000 in
theorem append_ok (w : World) (b0 B : Nat) (S : Value) (evs : List ByteArray) (s : ByteArray) (h : LogAt w b0 B S evs) (hs : s.size ≤ 50) (hn : evs.length < 500) (hb0 : b0 ≤ w.heap.size) :
    Calls Tryz.prog 40 #[.pointer (some ⟨B, 0, none⟩), .string s] w fun e w' => ∃ S', e = .returned (.tuple #[.int .i64 evs.length, .int .i64 0]) ∧ LogAt w' b0 B S' (evs ++ [s]) ∧ Frame2 w w' B S.ownBlock ∧ (S'.ownBlock = S.ownBlock ∨ ∃ g, S'.ownBlock = some g ∧ w.heap.size ≤ g) := by
  obtain ⟨i0, hi, hz0, hz1, hz2⟩ := info_parts Tryz.infoStr
  have hm := h.evs
  have hz : w.frozen? ⟨B, 1, none⟩ = false := by unfold World.frozen?; rw [h.2.1]; rfl
  obtain ⟨ao, cap, rfl, hc, _⟩ := id h.slice
  have hne := log_row_ne h
  go_enter Tryz.func40, Tryz.ntmps40
  go_wp2_with (go_at_call 72; refine (closed_any _ _ _ _ _ h).mono ?_; rintro e w0 ⟨rfl, rfl⟩)
  go_region_law (first
    | (go_simp; go_at_call 73; refine (clone_any _ _ (by omega)).mono ?_; rintro e w1 ⟨rfl, hb1⟩; have h1 := h.drew.below hb1; have c1 := h1.evs; have z1 : w1.frozen? ⟨B, 1, none⟩ = false := (by unfold World.frozen?; rw [h1.2.1]; rfl); have hB1 : B < w1.heap.size := lt_of_heap h1.2.1; have hs1 : b0 ≤ w1.heap.size := Nat.le_trans hb0 hb1.size)
    | (refine step_append_lies _ rfl (.tmp 24) (.tmp 27) 22 rfl b0 9 i0 (.string ByteArray.empty) 1 16 Tryz.underlying22 hi hz0 hz1 hz2 rfl (by decide) (.slice ao evs.length cap) evs.length (strs8 evs) (by simp [Act.eval]) (h1.2.2.alloc _) ⟨w1.heap.size, 0, none⟩ 1 1 [.string s] (by simp [Act.eval]) rfl (World.news_of_block (heap_alloc_new w1 _)) (by intro u hu; simp at hu; subst hu; rfl) (by decide) (by unfold maxLen; omega) (by omega) (by simp; omega) _ rfl ?_; intro g cap2 w2 hown2 hgrow hat hlt; have c2 : w2.cell? ⟨B, 1, none⟩ = some (.slice ao evs.length cap) := (hgrow.cell_far ⟨B, 1, none⟩ (by simp; omega) hne).trans (cell_keep c1 ((Below.refl _ _).alloc (Nat.le_refl _) _)); have z2 : w2.frozen? ⟨B, 1, none⟩ = false := (hgrow.frozen_far ⟨B, 1, none⟩ (by simp; omega) hne).trans (frozen_keep c1 z1 ((Below.refl _ _).alloc (Nat.le_refl _) _))))
  all_goals have R := log_appended h hb1 hown2 hgrow hat
  all_goals have hat2 := own_at (cap2 := cap2) (n := evs.length + 1) (S := .slice ao evs.length cap) hb1 hat
  all_goals clear hown2 hgrow hat h1 z1 c1
  all_goals go_wp2
  all_goals go_ret2
  all_goals exact ⟨_, by simp, R.1, R.2, hat2⟩
end Go.Proofs.YtlndinigbppafaaGreat

/-
  The walks of Append where it is refused, and of the statements' pick.
-/
namespace Go.Proofs.YtlndinigbppafaaGreat
open Go.RowKit

set_option maxRecDepth 100000 in
set_option maxHeartbeats 400000 in
theorem append_long (w : World) (b0 B : Nat) (S : Value) (evs : List ByteArray) (s : ByteArray) (h : LogAt w b0 B S evs) (hs : 50 < s.size) (hm : s.size ≤ maxLen) :
    Calls Tryz.prog 40 #[.pointer (some ⟨B, 0, none⟩), .string s] w fun e w' => e = .returned (.tuple #[.int .i64 0, .int .i64 2]) ∧ w' = w := by
  unfold maxLen at hm
  go_enter Tryz.func40, Tryz.ntmps40
  go_wp2_with (go_at_call 72; refine (closed_any _ _ _ _ _ h).mono ?_; rintro e w0 ⟨rfl, rfl⟩)
  go_ret2
  exact ⟨rfl, rfl⟩
set_option maxRecDepth 100000 in
set_option maxHeartbeats 400000 in
theorem append_many (w : World) (b0 B : Nat) (S : Value) (evs : List ByteArray) (s : ByteArray) (h : LogAt w b0 B S evs) (hs : s.size ≤ 50) (hn : 500 ≤ evs.length) (hn2 : evs.length ≤ 1000) :
    Calls Tryz.prog 40 #[.pointer (some ⟨B, 0, none⟩), .string s] w fun e w' => e = .returned (.tuple #[.int .i64 0, .int .i64 3]) ∧ w' = w := by
  have hm := h.evs
  obtain ⟨ao, cap, rfl, hc, _⟩ := id h.slice
  go_enter Tryz.func40, Tryz.ntmps40
  go_wp2_with (go_at_call 72; refine (closed_any _ _ _ _ _ h).mono ?_; rintro e w0 ⟨rfl, rfl⟩)
  go_ret2
  exact ⟨rfl, rfl⟩

/-- Which of n things a raw number speaks of. -/
def pickZ (c n : Int) : Int := (if c < 0 then -(c + 1) else c) % n
theorem pickZ_bd (c n : Int) (h : 0 < n) : 0 ≤ pickZ c n ∧ pickZ c n < n := ⟨Int.emod_nonneg _ (by omega), Int.emod_lt_of_pos _ h⟩

set_option maxRecDepth 100000 in
set_option maxHeartbeats 400000 in
theorem pick_any (c n : Int) (w : World) (h0 : -9223372036854775808 ≤ c) (h1 : c ≤ 9223372036854775807) (hn : 0 < n) (hn2 : n ≤ 1000000) :
    Calls Tryz.prog 22 #[.int .i64 c, .int .i64 n] w fun e w' => e = .returned (.int .i64 (pickZ c n)) ∧ w' = w := by
  by_cases hc : c < 0
  · have HP : Hid (pickZ c n = (-(c + 1)) % n) := by show pickZ c n = _; unfold pickZ; rw [if_pos hc]
    go_enter Tryz.func22, Tryz.ntmps22
    go_wp2
    go_ret
    exact ⟨ret_int (by rw [HP.out, ← Int.neg_tmod, Int.tmod_eq_emod_of_nonneg (by omega)]), rfl⟩
  · have HP : Hid (pickZ c n = c % n) := by show pickZ c n = _; unfold pickZ; rw [if_neg hc]
    go_enter Tryz.func22, Tryz.ntmps22
    go_wp2
    go_ret
    exact ⟨ret_int (by rw [HP.out]), rfl⟩

/-- '[]byte' of a row of one byte that was laid for it: the mark behind its end. -/
theorem conv_same (u : World) (b : Nat) (x : Value) (hb : b = u.heap.size) : (convert 27 27 (.slice (some ⟨b, 0, none⟩) 1 1)).run Tryz.prog (u.alloc (.cells #[x] 5)) = .ok (.slice (some ⟨b, 0, none⟩) 1 1) (u.alloc (.cells #[x] 5 (1, 2))) := by
  subst hb
  have hsh : (u.alloc (.cells #[x] 5)).shape? u.heap.size = some (5, 1) := by
    unfold World.shape?; rw [heap_alloc_new u _]; rfl
  have hfr : (u.alloc (.cells #[x] 5)).freeze ⟨u.heap.size, 1, none⟩ 1 = u.alloc (.cells #[x] 5 (1, 2)) := by
    have hm : ∀ (a : Array Obj) (y : Obj) (f : Obj → Obj), (a.push y).modify a.size f = a.push (f y) := by
      intro a y f
      apply Array.ext
      · simp
      · intro i h1 h2
        simp only [Array.getElem_modify, Array.getElem_push]
        by_cases h : a.size = i
        · subst h; simp
        · have hi : i < a.size := by simp at h1; omega
          simp [h, hi]
    unfold World.freeze
    rw [if_neg (by decide)]
    show ({ u.alloc (.cells #[x] 5) with heap := (u.heap.push (.cells #[x] 5)).modify u.heap.size _ } : World) = _
    rw [hm]
    rfl
  simp [convert, run_underlying Tryz.underlying27, run_underlying Tryz.underlying5, markStringish, hsh, hfr]
theorem byte_atF (x : Int) (w : World) (b : Nat) (fr : Nat × Nat) (h0 : 0 ≤ x) (h1 : x ≤ 255) (hb : b = w.heap.size) : BytesAt (w.alloc (.cells #[.int .u8 x] 5 fr)) (.slice (some ⟨b, 0, none⟩) 1 1) [b8 x] := by
  subst hb
  refine ⟨_, _, rfl, fun h => (by cases h), fun _ => ⟨_, _, _, _, rfl, heap_alloc_new w _, fun j hj => ?_⟩⟩
  match j, hj with
  | 0, _ => show some (Value.int .u8 x) = some (.int .u8 ((b8 x).toNat : Int)); rw [b8_nat x h0 h1]
theorem sm_0a : sm [[b8 0], [b8 97]].flatten = 883 := by decide
theorem dig_a : dig (List.take 1 ([] ++ [⟨#[97]⟩])) (dep 1) 0 = 883 := by decide

set_option maxRecDepth 100000 in
set_option maxHeartbeats 1000000 in
theorem rooted_any (w : World) :
    Calls Tryz.prog 53 #[] w fun e w' => e = .returned (.bool true) ∧ Below w.heap.size w w' := by
  have hc2 := conv_same
  go_enter Tryz.func53, Tryz.ntmps53
  go_wp2_with fail
  refine (newLog_any _).mono ?_
  rintro e w1 ⟨rfl, hL1, hb1, hs1⟩
  go_wp2_with fail
  refine (sum_any [[b8 0], [b8 97]] _ _ (rows2 _ _ _ _ _ _ (by simp; omega) ((byte_at 0 _ _ (by decide) (by decide) (by omega)).keep (keepA _ _)) (byte_atF 97 _ _ _ (by decide) (by decide) (by simp; omega))) (by simp) (by intro l hl; simp at hl; rcases hl with rfl | rfl <;> simp)).mono ?_
  rintro e w2 ⟨rfl, rfl⟩
  rw [sm_0a]
  go_wp2_with fail
  have hbA : Below w1.heap.size w1 (((w1.alloc (.cells #[.int .u8 0] 5)).alloc (.cells #[.int .u8 97] 5 (1, 2))).alloc (.cells #[.slice (some ⟨w.heap.size + 1, 0, none⟩) 1 1, .slice (some ⟨w.heap.size + 1 + 1, 0, none⟩) 1 1] 27)) := (((Below.refl _ _).alloc (Nat.le_refl _) _).alloc (by simp) _).alloc (by simp; omega) _
  have hLA := hL1.below hbA
  have hbw := hb1.trans (hbA.mono hb1.size)
  generalize ((w1.alloc (.cells #[.int .u8 0] 5)).alloc (.cells #[.int .u8 97] 5 (1, 2))).alloc (.cells #[.slice (some ⟨w.heap.size + 1, 0, none⟩) 1 1, .slice (some ⟨w.heap.size + 1 + 1, 0, none⟩) 1 1] 27) = wA at hLA hbw ⊢
  clear hbA hL1 hc2
  refine (append_ok wA _ _ _ [] _ hLA (by decide) (by decide) hbw.size).mono ?_
  rintro e w3 ⟨S', rfl, hL3, hF3, _⟩
  have hb3 : Below w.heap.size w w3 := hbw.trans (hF3.below (Nat.le_refl _) (fun k hk => by simp [Value.ownBlock] at hk) hbw.size)
  go_wp2_with fail
  refine (root_ok w3 _ _ _ _ 1 hL3 (by decide) (by simp) (by simp) (by intro s hs; simp at hs; subst hs; decide)).mono ?_
  rintro e w4 ⟨rfl, hb4⟩
  rw [dig_a]
  go_wp2
  go_ret
  exact ⟨rfl, hb3.trans (hb4.mono hb3.size)⟩
end Go.Proofs.YtlndinigbppafaaGreat

/-
  The walk of the statements' kept: a log of the first events, each cut.
-/
namespace Go.Proofs.YtlndinigbppafaaGreat
open Go.RowKit

/-- An event, cut to fifty bytes. -/
def cut50 (s : ByteArray) : ByteArray := if 50 < s.size then s.extract 0 50 else s
def firstB : ByteArray := ⟨#[102, 105, 114, 115, 116]⟩
/-- The events that kept keeps. -/
def keptL (ps : List ByteArray) : List ByteArray := if ps = [] then [firstB] else (ps.take 60).map cut50
theorem cut50_le (s : ByteArray) : (cut50 s).size ≤ 50 := by
  unfold cut50; split
  · simp [ByteArray.size_extract]; omega
  · omega
theorem keptL_le (ps : List ByteArray) : ∀ s ∈ keptL ps, s.size ≤ 50 := by
  intro s hs
  unfold keptL at hs
  split at hs
  · simp at hs; subst hs; decide
  · obtain ⟨p, _, rfl⟩ := List.mem_map.1 hs; exact cut50_le p
theorem keptL_len (ps : List ByteArray) : 1 ≤ (keptL ps).length ∧ (keptL ps).length ≤ 60 := by
  unfold keptL; split
  · simp
  · rename_i h
    have : 0 < ps.length := List.length_pos_iff.2 h
    rw [List.length_map, List.length_take]; omega
theorem keptL_get (ps : List ByteArray) (k : Nat) (h : k < (keptL ps).length) : (keptL ps)[k] = if hp : k < ps.length then cut50 ps[k] else firstB := by
  by_cases hps : ps = []
  · subst hps
    have e : keptL [] = [firstB] := rfl
    have hk : k = 0 := by rw [e] at h; simpa using h
    subst hk
    simp [keptL]
  · have e : keptL ps = (ps.take 60).map cut50 := by unfold keptL; rw [if_neg hps]
    have hl : k < ps.length := by rw [e, List.length_map, List.length_take] at h; omega
    rw [dif_pos hl]
    simp only [e, List.getElem_map, List.getElem_take]

theorem log_grown {w w' : World} {b0 B : Nat} {S : Value} {evs : List ByteArray} {row : Option Nat} (h : LogAt w b0 B S evs) (hg : w.grownBy w' row) (hB : row ≠ some B) (hr : ∀ g, S.ownBlock = some g → row ≠ some g) : LogAt w' b0 B S evs := by
  refine ⟨h.1, ?_, ?_⟩
  · rw [hg.block B (lt_of_heap h.2.1) (fun e => hB e.symm)]; exact h.2.1
  · refine h.2.2.kept hg ?_
    cases hS : S.ownBlock with
    | none => left; rfl
    | some g => right; exact fun e => hr g hS e.symm
theorem row_ne_log {w : World} {b0 b1 B n : Nat} {S o : Value} {evs : List ByteArray} {xs : List Value} (h : LogAt w b0 B S evs) (ho : w.ownsRow b1 9 1 o n xs) : o.ownBlock ≠ some B := by
  intro e
  rcases ho.2 with ⟨rfl, _⟩ | ⟨g, cap, cur, rfl, _, hgg, _⟩
  · simp [Value.ownBlock] at e
  · simp [Value.ownBlock] at e
    subst e
    have := h.2.1
    rw [hgg] at this
    simp at this

/-- Behind the log's append the other row stands. -/
theorem kept_mid {wr w2 : World} {b0 B k : Nat} {S S' o : Value} {evs : List ByteArray} {xs : List Value} (hL : LogAt wr b0 B S evs) (hO : wr.ownsRow b0 9 1 o k xs) (hD : ∀ g, o.ownBlock = some g → S.ownBlock ≠ some g)
    (hF : Frame2 wr w2 B S.ownBlock) (hat : S'.ownBlock = S.ownBlock ∨ ∃ g, S'.ownBlock = some g ∧ wr.heap.size ≤ g) : w2.ownsRow b0 9 1 o k xs ∧ (∀ g, o.ownBlock = some g → S'.ownBlock ≠ some g) := by
  refine ⟨owns_frame2 hO hF (row_ne_log hL hO) hD, fun g hg => ?_⟩
  rcases hat with hat | ⟨g', hat, hge⟩
  · rw [hat]; exact hD g hg
  · rw [hat]
    intro e
    have := (hO.lt g hg).2
    simp at e
    omega
/-- Behind the other row's append the log stands. -/
theorem kept_end {w2 w3 : World} {X : Obj} {b0 B k n g cp : Nat} {S' o : Value} {evs' : List ByteArray} {xs : List Value} (hL2 : LogAt w2 b0 B S' evs') (hO2 : w2.ownsRow b0 9 1 o k xs) (hD2 : ∀ g, o.ownBlock = some g → S'.ownBlock ≠ some g)
    (hgrow : (w2.alloc X).grownBy w3 o.ownBlock) (hat : o.ownBlock = some g ∨ g = w2.heap.size + 1) : LogAt w3 b0 B S' evs' ∧ ∀ g', (Value.slice (some ⟨g, 0, none⟩) n cp).ownBlock = some g' → S'.ownBlock ≠ some g' := by
  have hLA := hL2.below ((Below.refl _ _).alloc (Nat.le_refl _) X)
  refine ⟨log_grown hLA hgrow (row_ne_log hL2 hO2) (fun g' hg' e => hD2 g' e hg'), fun g' hg' => ?_⟩
  have : g = g' := by simpa [Value.ownBlock] using hg'
  subst this
  rcases hat with hat | hat
  · exact hD2 g hat
  · intro e
    have h1 := (hL2.2.2.lt g e).2
    rw [hat] at h1
    omega

set_option maxRecDepth 100000 in
set_option maxHeartbeats 2000000 in
theorem kept_any (ps : List ByteArray) (v : Value) (w : World) (hv : StringsAt w v ps) (hn : ps.length ≤ 9223372036854775807) (hp : ∀ p ∈ ps, p.size ≤ 9223372036854775807) :
    Calls Tryz.prog 20 #[v] w fun e w' => ∃ (B : Nat) (S o : Value), e = .returned (.tuple #[.pointer (some ⟨B, 0, none⟩), o, .bool true]) ∧ LogAt w' w.heap.size B S (keptL ps) ∧ w'.ownsRow w.heap.size 9 1 o (keptL ps).length (strs8 (keptL ps)) ∧ (∀ g, o.ownBlock = some g → S.ownBlock ≠ some g) ∧ Below w.heap.size w w' := by
  obtain ⟨i0, hi, hz0, hz1, hz2⟩ := info_parts Tryz.infoStr
  obtain ⟨ao, cap, rfl, hcell⟩ := hv
  have hK1 := (keptL_len ps).1
  have hK2 := (keptL_len ps).2
  go_enter Tryz.func20, Tryz.ntmps20
  go_wp2_with fail
  refine (newLog_any _).mono ?_
  rintro e w1 ⟨rfl, hL1, hb1, hs1⟩
  have HS1 : Hid (w1.heap.size = w.heap.size + 1) := hs1
  clear hs1
  go_wp2
  go_loopw [6, 7] (fun o i wr => ∃ (k : Nat) (S : Value), k ≤ (keptL ps).length ∧ i = .int .i64 k ∧ LogAt wr w.heap.size w.heap.size S ((keptL ps).take k) ∧ wr.ownsRow w.heap.size 9 1 o k (strs8 ((keptL ps).take k)) ∧ (∀ g, o.ownBlock = some g → S.ownBlock ≠ some g) ∧ Below w.heap.size w wr)
    (fun _ i _ => (keptL ps).length - (intOf i).toNat)
  case atStart => exact ⟨0, _, Nat.zero_le _, rfl, hL1, World.ownsRow_nil _ _ _ _, fun g hg => by simp [Value.ownBlock] at hg, hb1⟩
  case round =>
    obtain ⟨k, S, hk, rfl, hL, hO, hD, hB⟩ := hrel
    have hBs := hB.size
    by_cases hlt : k < (keptL ps).length
    · have HG : Hid _ := keptL_get ps k hlt
      have HT : Hid ((keptL ps).take (k + 1) = (keptL ps).take k ++ [(keptL ps)[k]]) := take_snoc _ _ hlt
      have hle := keptL_le ps _ (List.getElem_mem hlt)
      have hl2 : ((keptL ps).take k).length = k := by rw [List.length_take]; omega
      by_cases hpk : k < ps.length
      · have hk60 : k < 60 := by omega
        obtain ⟨b, o, rfl, hbB, hcl⟩ := hcell (by omega)
        have hck := (hB.cell (p := ⟨b, o + k, none⟩) hbB).trans (hcl k hpk)
        have hsz := hp _ (List.getElem_mem hpk)
        by_cases h50 : 50 < ps[k].size
        · have h50i : (50 : Int) < (ps[k].size : Int) := by omega
          have HX : Hid ((keptL ps)[k] = ps[k].extract 0 50) := by show _ = _; rw [HG.out, dif_pos hpk]; unfold cut50; rw [if_pos h50]
          clear hcl hcell
          go_wp2_with fail
          refine (append_ok wr _ _ S ((keptL ps).take k) (ps[k].extract 0 50) hL (by rw [← HX.out]; exact hle) (by omega) hBs).mono ?_
          rintro e w2 ⟨S', rfl, hL2, hF2, hat2⟩
          rw [← HX.out, ← HT.out] at hL2
          obtain ⟨hO2, hD2⟩ := kept_mid hL hO hD hF2 hat2
          have hB2 : Below w.heap.size w w2 := hB.trans (hF2.below (Nat.le_refl _) (fun g hg => (hL.2.2.lt g hg).1) hBs)
          have hB2s := hB2.size
          rw [hl2]
          clear hL hO hD hF2 hat2 hB hBs hck
          go_wp2_with (at_builtin; refine wpList_append_lies _ rfl (.tmp 54) (.tmp 56) 22 rfl w.heap.size 9 i0 (.string ByteArray.empty) 1 16 Tryz.underlying22 hi hz0 hz1 hz2 rfl (by decide) _ _ _ rfl (hO2.alloc _) ⟨w2.heap.size, 0, none⟩ 1 1 [.string (ps[k].extract 0 50)] rfl rfl (World.news_of_block (heap_alloc_new w2 _)) (by intro u hu; simp at hu; subst hu; rfl) (by decide) (by unfold maxLen; omega) (by omega) (by simp; omega) _ rfl ?_)
          intro g cp w3 hown3 hgrow hat hlt3
          obtain ⟨hL3, hD3⟩ := kept_end (n := k + 1) (cp := cp) hL2 hO2 hD2 hgrow hat
          have hB3 := (hB2.alloc hB2s _).grown hgrow (by simp; omega) (fun g hg => (hO2.lt g hg).1)
          have hown4 : w3.ownsRow w.heap.size 9 1 (.slice (some ⟨g, 0, none⟩) (k + 1) cp) (k + 1) (strs8 ((keptL ps).take (k + 1))) := by rw [HT.out, strs8_append, HX.out]; exact hown3
          clear hown3 hgrow hat hL2 hO2 hD2 hB2
          go_wp2
          go_roundw
          case rel => exact ⟨k + 1, S', by omega, by go_num, hL3, hown4, hD3, hB3⟩
          case measure => simp [intOf]; omega
        · have h50i : (ps[k].size : Int) ≤ 50 := by omega
          have HX : Hid ((keptL ps)[k] = ps[k]) := by show _ = _; rw [HG.out, dif_pos hpk]; unfold cut50; rw [if_neg h50]
          clear hcl hcell
          go_wp2_with fail
          refine (append_ok wr _ _ S ((keptL ps).take k) ps[k] hL (by rw [← HX.out]; exact hle) (by omega) hBs).mono ?_
          rintro e w2 ⟨S', rfl, hL2, hF2, hat2⟩
          rw [← HX.out, ← HT.out] at hL2
          obtain ⟨hO2, hD2⟩ := kept_mid hL hO hD hF2 hat2
          have hB2 : Below w.heap.size w w2 := hB.trans (hF2.below (Nat.le_refl _) (fun g hg => (hL.2.2.lt g hg).1) hBs)
          have hB2s := hB2.size
          rw [hl2]
          clear hL hO hD hF2 hat2 hB hBs hck
          go_wp2_with (at_builtin; refine wpList_append_lies _ rfl (.tmp 54) (.tmp 56) 22 rfl w.heap.size 9 i0 (.string ByteArray.empty) 1 16 Tryz.underlying22 hi hz0 hz1 hz2 rfl (by decide) _ _ _ rfl (hO2.alloc _) ⟨w2.heap.size, 0, none⟩ 1 1 [.string ps[k]] rfl rfl (World.news_of_block (heap_alloc_new w2 _)) (by intro u hu; simp at hu; subst hu; rfl) (by decide) (by unfold maxLen; omega) (by omega) (by simp; omega) _ rfl ?_)
          intro g cp w3 hown3 hgrow hat hlt3
          obtain ⟨hL3, hD3⟩ := kept_end (n := k + 1) (cp := cp) hL2 hO2 hD2 hgrow hat
          have hB3 := (hB2.alloc hB2s _).grown hgrow (by simp; omega) (fun g hg => (hO2.lt g hg).1)
          have hown4 : w3.ownsRow w.heap.size 9 1 (.slice (some ⟨g, 0, none⟩) (k + 1) cp) (k + 1) (strs8 ((keptL ps).take (k + 1))) := by rw [HT.out, strs8_append, HX.out]; exact hown3
          clear hown3 hgrow hat hL2 hO2 hD2 hB2
          go_wp2
          go_roundw
          case rel => exact ⟨k + 1, S', by omega, by go_num, hL3, hown4, hD3, hB3⟩
          case measure => simp [intOf]; omega
      · have hps : ps = [] := by
          rcases Nat.eq_zero_or_pos ps.length with h | h
          · exact List.eq_nil_of_length_eq_zero h
          · exfalso
            have e : keptL ps = (ps.take 60).map cut50 := by unfold keptL; rw [if_neg (List.ne_nil_of_length_pos h)]
            rw [e, List.length_map, List.length_take] at hlt; omega
        have hk0 : k = 0 := by
          have e : keptL ps = [firstB] := by unfold keptL; rw [if_pos hps]
          rw [e] at hlt; simpa using hlt
        have HX : Hid ((keptL ps)[k] = ⟨#[102, 105, 114, 115, 116]⟩) := by show _ = _; rw [HG.out, dif_neg hpk]; rfl
        have hck : True := trivial
        have hpl : ps.length ≤ k := by omega
        have hk1 : (k : Int) < 1 := by omega
        clear hcell hps hk0
        go_wp2_with fail
        refine (append_ok wr _ _ S ((keptL ps).take k) ⟨#[102, 105, 114, 115, 116]⟩ hL (by rw [← HX.out]; exact hle) (by omega) hBs).mono ?_
        rintro e w2 ⟨S', rfl, hL2, hF2, hat2⟩
        rw [← HX.out, ← HT.out] at hL2
        obtain ⟨hO2, hD2⟩ := kept_mid hL hO hD hF2 hat2
        have hB2 : Below w.heap.size w w2 := hB.trans (hF2.below (Nat.le_refl _) (fun g hg => (hL.2.2.lt g hg).1) hBs)
        have hB2s := hB2.size
        rw [hl2]
        clear hL hO hD hF2 hat2 hB hBs hck
        go_wp2_with (at_builtin; refine wpList_append_lies _ rfl (.tmp 54) (.tmp 56) 22 rfl w.heap.size 9 i0 (.string ByteArray.empty) 1 16 Tryz.underlying22 hi hz0 hz1 hz2 rfl (by decide) _ _ _ rfl (hO2.alloc _) ⟨w2.heap.size, 0, none⟩ 1 1 [.string ⟨#[102, 105, 114, 115, 116]⟩] rfl rfl (World.news_of_block (heap_alloc_new w2 _)) (by intro u hu; simp at hu; subst hu; rfl) (by decide) (by unfold maxLen; omega) (by omega) (by simp; omega) _ rfl ?_)
        intro g cp w3 hown3 hgrow hat hlt3
        obtain ⟨hL3, hD3⟩ := kept_end (n := k + 1) (cp := cp) hL2 hO2 hD2 hgrow hat
        have hB3 := (hB2.alloc hB2s _).grown hgrow (by simp; omega) (fun g hg => (hO2.lt g hg).1)
        have hown4 : w3.ownsRow w.heap.size 9 1 (.slice (some ⟨g, 0, none⟩) (k + 1) cp) (k + 1) (strs8 ((keptL ps).take (k + 1))) := by rw [HT.out, strs8_append, HX.out]; exact hown3
        clear hown3 hgrow hat hL2 hO2 hD2 hB2
        go_wp2
        go_roundw
        case rel => exact ⟨k + 1, S', by omega, by go_num, hL3, hown4, hD3, hB3⟩
        case measure => simp [intOf]; omega
    · have hkl : k = (keptL ps).length := by omega
      subst hkl
      rw [List.take_length] at hL hO
      have hx : ¬ ((keptL ps).length < ps.length ∧ (keptL ps).length < 60) ∧ ¬ (keptL ps).length < 1 := by
        refine ⟨fun ⟨h1, h2⟩ => ?_, by omega⟩
        have e : keptL ps = (ps.take 60).map cut50 := by unfold keptL; rw [if_neg (List.ne_nil_of_length_pos (by omega))]
        rw [e, List.length_map, List.length_take] at h1 h2; omega
      obtain ⟨g, cp, rfl, _, _⟩ := hO.form (by omega)
      by_cases hx1 : (keptL ps).length < ps.length
      · have hx2 : 60 ≤ (keptL ps).length := by omega
        clear hx hcell
        go_wp2_with (go_at_call 42; refine (len_log _ _ _ _ _ hL).mono ?_; rintro e w4 ⟨rfl, rfl⟩)
        go_ret3
        exact ⟨_, S, _, by simp, hL, hO, hD, hB⟩
      · clear hx hcell
        go_wp2_with (go_at_call 42; refine (len_log _ _ _ _ _ hL).mono ?_; rintro e w4 ⟨rfl, rfl⟩)
        go_ret3
        exact ⟨_, S, _, by simp, hL, hO, hD, hB⟩
end Go.Proofs.YtlndinigbppafaaGreat

/-
  A log's member and growth proofs are messages that may be, as plain mathematics.
-/
namespace Go.Proofs.YtlndinigbppafaaGreat

theorem kind_zero {k M N : Int} {p d : Nat} (h : (if k = 2 then ((p : Int) + pw d ≤ M ∨ M ≤ p) else (M < p ∨ (p : Int) + pw d ≤ M))) : kindOf k M N p d = 0 := by
  unfold kindOf; rw [if_pos h]
theorem kind_leaf {k M N : Int} {p : Nat} (h : ¬ (if k = 2 then ((p : Int) + pw 0 ≤ M ∨ M ≤ p) else (M < p ∨ (p : Int) + pw 0 ≤ M))) : kindOf k M N p 0 = 1 := by
  unfold kindOf; rw [if_neg h, if_pos rfl]
theorem kind_two {k M N : Int} {p d : Nat} (h : ¬ (if k = 2 then ((p : Int) + pw (d + 1) ≤ M ∨ M ≤ p) else (M < p ∨ (p : Int) + pw (d + 1) ≤ M))) (h2 : (p : Int) + pw d < N) : kindOf k M N p (d + 1) = 2 := by
  unfold kindOf; rw [if_neg h, if_neg (by omega), if_pos (by simpa using h2)]
theorem kind_alone {k M N : Int} {p d : Nat} (h : ¬ (if k = 2 then ((p : Int) + pw (d + 1) ≤ M ∨ M ≤ p) else (M < p ∨ (p : Int) + pw (d + 1) ≤ M))) (h2 : ¬ (p : Int) + pw d < N) : kindOf k M N p (d + 1) = 3 := by
  unfold kindOf; rw [if_neg h, if_neg (by omega), if_neg (by simpa using h2)]

/-- What a proof tells of a tree is of the proof's shape. -/
theorem prune_shp (evs : List ByteArray) (hs : ∀ s ∈ evs, s.size ≤ 50) (k M : Int) (f : Nat → Nat → Bool)
    (hf : ∀ p d : Nat, f p d = true ↔ (if k = 2 then ((p : Int) + pw d ≤ M ∨ M ≤ p) else (M < p ∨ (p : Int) + pw d ≤ M))) (d p : Nat) : Shp k M evs.length d p (pruneN evs f d p) := by
  induction d generalizing p with
  | zero =>
    unfold pruneN
    split
    · rename_i h
      have := dig_bd evs 0 p
      exact .stub 0 p _ (kind_zero ((hf p 0).1 h)) this.1 this.2
    · rename_i h
      exact .leaf p _ (kind_leaf (fun h' => h ((hf p 0).2 h'))) (evAt_le evs p 50 hs)
  | succ d ih =>
    unfold pruneN
    split
    · rename_i h
      have := dig_bd evs (d + 1) p
      exact .stub (d + 1) p _ (kind_zero ((hf p (d + 1)).1 h)) this.1 this.2
    · rename_i h
      have hn : ¬ (if k = 2 then ((p : Int) + pw (d + 1) ≤ M ∨ M ≤ p) else (M < p ∨ (p : Int) + pw (d + 1) ≤ M)) := fun h' => h ((hf p (d + 1)).2 h')
      split
      · rename_i h2
        exact .two d p _ _ (kind_two hn (by omega)) (ih p) (ih (p + pw d))
      · rename_i h2
        exact .alone d p _ (kind_alone hn (by omega)) (ih p)

theorem ruleM_iff (i : Int) (p d : Nat) : ruleM i p d = true ↔ (if (3 : Int) = 2 then ((p : Int) + pw d ≤ i ∨ i ≤ p) else (i < p ∨ (p : Int) + pw d ≤ i)) := by
  rw [if_neg (by omega)]
  unfold ruleM
  simp only [Bool.or_eq_true, Bool.not_eq_true', decide_eq_false_iff_not]
  omega
theorem ruleG_iff (m : Int) (p d : Nat) : ruleG m p d = true ↔ (if (2 : Int) = 2 then ((p : Int) + pw d ≤ m ∨ m ≤ p) else (m < p ∨ (p : Int) + pw d ≤ m)) := by
  rw [if_pos rfl]
  unfold ruleG
  simp only [Bool.or_eq_true, decide_eq_true_eq]
  omega

/-- A member proof's value. -/
def memberM (evs : List ByteArray) (i : Int) : Msg := ⟨3, i, evs.length, 0, pruneN evs (ruleM i) (dep evs.length) 0⟩
/-- A growth proof's value. -/
def growthM (evs : List ByteArray) (m : Int) : Msg := ⟨2, m, evs.length, dig evs (dep evs.length) 0, pruneN evs (ruleG m) (dep evs.length) 0⟩
/-- A commitment's value. -/
def commitM (evs : List ByteArray) : Msg := ⟨1, 0, evs.length, dig evs (dep evs.length) 0, []⟩

theorem memberB_eq (evs : List ByteArray) (i : Int) : memberB evs i = encV (memberM evs i) := rfl
theorem growthB_eq (evs : List ByteArray) (m : Int) : growthB evs m = encV (growthM evs m) := rfl
theorem commitB_eq (evs : List ByteArray) : commitB evs = encV (commitM evs) := rfl

theorem member_valid (evs : List ByteArray) (i : Int) (hs : ∀ s ∈ evs, s.size ≤ 50) (hi : 0 ≤ i ∧ i < evs.length) (hn : evs.length ≤ 500) : ValidM (memberM evs i) := by
  refine ⟨.inr (.inr rfl), ⟨?_, ?_⟩, ⟨?_, ?_⟩, fun h => ?_, fun h => ?_, fun _ => ⟨hi.1, hi.2, rfl⟩, fun _ => ?_⟩
  · show (1 : Int) ≤ (evs.length : Int); omega
  · show (evs.length : Int) ≤ 500; omega
  · show (0 : Int) ≤ 0; omega
  · show (0 : Int) ≤ 65535; omega
  · exact absurd (show (3 : Int) = 1 from h) (by omega)
  · exact absurd (show (3 : Int) = 2 from h) (by omega)
  · show Shp 3 i evs.length (dep (evs.length : Int).toNat) 0 _
    rw [Int.toNat_natCast]
    exact prune_shp evs hs 3 i _ (ruleM_iff i) _ _
theorem growth_valid (evs : List ByteArray) (m : Int) (hs : ∀ s ∈ evs, s.size ≤ 50) (hm : 1 ≤ m ∧ m ≤ evs.length) (hn : evs.length ≤ 500) : ValidM (growthM evs m) := by
  refine ⟨.inr (.inl rfl), ⟨?_, ?_⟩, dig_bd evs _ _, fun h => ?_, fun _ => hm, fun h => ?_, fun _ => ?_⟩
  · show (1 : Int) ≤ (evs.length : Int); omega
  · show (evs.length : Int) ≤ 500; omega
  · exact absurd (show (2 : Int) = 1 from h) (by omega)
  · exact absurd (show (2 : Int) = 3 from h) (by omega)
  · show Shp 2 m evs.length (dep (evs.length : Int).toNat) 0 _
    rw [Int.toNat_natCast]
    exact prune_shp evs hs 2 m _ (ruleG_iff m) _ _
theorem commit_valid (evs : List ByteArray) (h1 : 1 ≤ evs.length) (hn : evs.length ≤ 500) : ValidM (commitM evs) := by
  refine ⟨.inl rfl, ⟨?_, ?_⟩, dig_bd evs _ _, fun _ => ⟨rfl, rfl⟩, fun h => ?_, fun h => ?_, fun h => absurd rfl h⟩
  · show (1 : Int) ≤ (evs.length : Int); omega
  · show (evs.length : Int) ≤ 500; omega
  · exact absurd (show (1 : Int) = 2 from h) (by omega)
  · exact absurd (show (1 : Int) = 3 from h) (by omega)

/-- A message that may be is far shorter than MaxMessage. -/
theorem ValidM.short {x : Msg} (h : ValidM x) : 0 < (encV x).length ∧ (encV x).length ≤ 200 := by
  unfold encV encM
  have h1 := encH_le x.kind x.m x.n x.root
  rw [List.length_append]
  have h0 : 0 < (encH x.kind x.m x.n x.root).length := by unfold encH; simp
  refine ⟨by omega, ?_⟩
  by_cases hk : x.kind = 1
  · rw [(h.c hk).2]
    have e : (encNs ([] : List PN)).length = 0 := rfl
    omega
  · have := shp_len (h.t hk)
    have := dep_500 x.n h.n.2
    omega
end Go.Proofs.YtlndinigbppafaaGreat

/-
  What a log tells of its trees works out to its roots; an event of the same digest can always be found: plain mathematics.
-/
namespace Go.Proofs.YtlndinigbppafaaGreat

/-- What a proof tells of a tree, as a tree. -/
def pruneT (evs : List ByteArray) (f : Nat → Nat → Bool) : Nat → Nat → PT
  | 0, p => if f p 0 = true then .stub (dig evs 0 p) else .leaf (evAt evs p)
  | d + 1, p => if f p (d + 1) = true then .stub (dig evs (d + 1) p) else
      if p + pw d < evs.length then .two (pruneT evs f d p) (pruneT evs f d (p + pw d)) else .alone (pruneT evs f d p)

theorem pruneT_flat (evs : List ByteArray) (f : Nat → Nat → Bool) (d p : Nat) : (pruneT evs f d p).flat = pruneN evs f d p := by
  induction d generalizing p with
  | zero => unfold pruneT pruneN; split <;> rfl
  | succ d ih =>
    unfold pruneT pruneN
    split
    · rfl
    · split
      · simp only [PT.flat, ih]
      · simp only [PT.flat, ih]
theorem pruneT_sh (evs : List ByteArray) (hs : ∀ s ∈ evs, s.size ≤ 50) (k M : Int) (f : Nat → Nat → Bool)
    (hf : ∀ p d : Nat, f p d = true ↔ (if k = 2 then ((p : Int) + pw d ≤ M ∨ M ≤ p) else (M < p ∨ (p : Int) + pw d ≤ M))) (d p : Nat) : PT.Sh k M evs.length d p (pruneT evs f d p) := by
  induction d generalizing p with
  | zero =>
    unfold pruneT
    split
    · rename_i h
      have := dig_bd evs 0 p
      exact .stub 0 p _ (kind_zero ((hf p 0).1 h)) this.1 this.2
    · rename_i h
      exact .leaf p _ (kind_leaf (fun h' => h ((hf p 0).2 h'))) (evAt_le evs p 50 hs)
  | succ d ih =>
    unfold pruneT
    split
    · rename_i h
      have := dig_bd evs (d + 1) p
      exact .stub (d + 1) p _ (kind_zero ((hf p (d + 1)).1 h)) this.1 this.2
    · rename_i h
      have hn : ¬ (if k = 2 then ((p : Int) + pw (d + 1) ≤ M ∨ M ≤ p) else (M < p ∨ (p : Int) + pw (d + 1) ≤ M)) := fun h' => h ((hf p (d + 1)).2 h')
      split
      · rename_i h2
        exact .two d p _ _ (kind_two hn (by omega)) (ih p) (ih (p + pw d))
      · rename_i h2
        exact .alone d p _ (kind_alone hn (by omega)) (ih p)
/-- Whatever is left out, the digest is the tree's. -/
theorem pruneT_dg (evs : List ByteArray) (f : Nat → Nat → Bool) (d p : Nat) : (pruneT evs f d p).dg evs.length d p = dig evs d p := by
  induction d generalizing p with
  | zero => unfold pruneT dig; split <;> rfl
  | succ d ih =>
    unfold pruneT
    split
    · rfl
    · unfold dig
      split
      · rename_i h
        simp only [PT.dg, Nat.add_sub_cancel, if_pos (show (p : Int) + pw d < evs.length by omega), ih]
      · simp only [PT.dg, Nat.add_sub_cancel, ih]
theorem evAt_take (evs : List ByteArray) (m p : Nat) (h : p < m) : evAt (evs.take m) p = evAt evs p := by
  unfold evAt; rw [List.getElem?_take, if_pos h]
/-- A node all of whose events are below m is one in both versions. -/
theorem dig_full (evs : List ByteArray) (m : Nat) (hm : m ≤ evs.length) (d p : Nat) (h : p + pw d ≤ m) : dig (evs.take m) d p = dig evs d p := by
  induction d generalizing p with
  | zero => unfold dig; rw [evAt_take evs m p (by rw [pw_zero] at h; omega)]
  | succ d ih =>
    have h2 := pw_succ d
    have h3 := pw_pos d
    unfold dig
    rw [List.length_take, if_pos (by omega), if_pos (by omega), ih p (by omega), ih (p + pw d) (by omega)]
/-- Growth: as one for m it is the root of m. -/
theorem cut_dg (evs : List ByteArray) (m : Nat) (hm : m ≤ evs.length) (d p : Nat) (hp : p < m) : (pruneT evs (ruleG m) d p).dg m d p = dig (evs.take m) d p := by
  have hlen : (evs.take m).length = m := by rw [List.length_take]; omega
  have hr : ∀ q e, ruleG m q e = true ↔ (q + pw e ≤ m ∨ m ≤ q) := by
    intro q e
    unfold ruleG
    simp only [Bool.or_eq_true, decide_eq_true_eq]
    omega
  induction d generalizing p with
  | zero =>
    unfold pruneT
    rw [if_pos ((hr p 0).2 (by rw [pw_zero]; omega))]
    exact (dig_full evs m hm 0 p (by rw [pw_zero]; omega)).symm
  | succ d ih =>
    unfold pruneT
    by_cases hf : p + pw (d + 1) ≤ m
    · rw [if_pos ((hr p (d + 1)).2 (.inl hf))]
      exact (dig_full evs m hm (d + 1) p hf).symm
    · rw [if_neg (fun h => by have := (hr p (d + 1)).1 h; omega)]
      unfold dig
      rw [hlen]
      by_cases h2 : p + pw d < evs.length
      · rw [if_pos h2]
        by_cases h3 : p + pw d < m
        · rw [if_pos h3]
          simp only [PT.dg, Nat.add_sub_cancel, if_pos (show (p : Int) + pw d < m by omega), ih p hp, ih (p + pw d) h3]
        · rw [if_neg h3]
          simp only [PT.dg, Nat.add_sub_cancel, if_neg (show ¬ (p : Int) + pw d < m by omega), ih p hp]
      · rw [if_neg h2, if_neg (by omega)]
        simp only [PT.dg, Nat.add_sub_cancel, ih p hp]
theorem left_prune (evs : List ByteArray) (m : Nat) (h1 : 1 ≤ m) (k : Nat) : dep m + k ≤ dep evs.length → (pruneT evs (ruleG m) (dep m + k) 0).left k = pruneT evs (ruleG m) (dep m) 0 := by
  induction k with
  | zero => intro _; rfl
  | succ k ih =>
    intro hd
    have hpN : pw (dep m + k) < evs.length := dep_least _ _ (by omega)
    have hpm : m < pw (dep m + k + 1) := by
      have h1 := dep_spec m
      have h2 : pw (dep m) < pw (dep m + k + 1) := pw_lt (by omega)
      omega
    have e : pruneT evs (ruleG m) (dep m + (k + 1)) 0 = .two (pruneT evs (ruleG m) (dep m + k) 0) (pruneT evs (ruleG m) (dep m + k) (0 + pw (dep m + k))) := by
      rw [← Nat.add_assoc]
      show pruneT evs (ruleG m) ((dep m + k) + 1) 0 = _
      rw [pruneT, if_neg, if_pos (by omega)]
      unfold ruleG
      simp only [Bool.or_eq_true, decide_eq_true_eq]
      omega
    rw [e]
    exact ih (by omega)

theorem member_pt (evs : List ByteArray) (i : Int) (hs : ∀ s ∈ evs, s.size ≤ 50) : (memberM evs i).pt = pruneT evs (ruleM i) (dep evs.length) 0 := by
  have h := par_flat (pruneT_sh evs hs 3 i _ (ruleM_iff i) (dep evs.length) 0) []
  show (par (dep (evs.length : Int).toNat) (pruneN evs (ruleM i) (dep evs.length) 0)).1 = _
  rw [Int.toNat_natCast, ← pruneT_flat, ← List.append_nil (PT.flat _), h]
theorem growth_pt (evs : List ByteArray) (m : Int) (hs : ∀ s ∈ evs, s.size ≤ 50) : (growthM evs m).pt = pruneT evs (ruleG m) (dep evs.length) 0 := by
  have h := par_flat (pruneT_sh evs hs 2 m _ (ruleG_iff m) (dep evs.length) 0) []
  show (par (dep (evs.length : Int).toNat) (pruneN evs (ruleG m) (dep evs.length) 0)).1 = _
  rw [Int.toNat_natCast, ← pruneT_flat, ← List.append_nil (PT.flat _), h]
/-- A member proof's digest. -/
theorem member_wk (evs : List ByteArray) (i : Int) (hs : ∀ s ∈ evs, s.size ≤ 50) : wk (memberM evs i) (memberM evs i).n = dig evs (dep evs.length) 0 := by
  unfold wk
  rw [Nat.sub_self, member_pt evs i hs]
  show (pruneT evs (ruleM i) (dep evs.length) 0).dg (evs.length : Int) (dep (evs.length : Int).toNat) 0 = _
  rw [Int.toNat_natCast]
  exact pruneT_dg _ _ _ _
/-- A growth proof's digests. -/
theorem growth_wk (evs : List ByteArray) (m : Nat) (hs : ∀ s ∈ evs, s.size ≤ 50) : wk (growthM evs m) (growthM evs m).n = dig evs (dep evs.length) 0 := by
  unfold wk
  rw [Nat.sub_self, growth_pt evs m hs]
  show (pruneT evs (ruleG m) (dep evs.length) 0).dg (evs.length : Int) (dep (evs.length : Int).toNat) 0 = _
  rw [Int.toNat_natCast]
  exact pruneT_dg _ _ _ _
theorem growth_wkm (evs : List ByteArray) (m : Nat) (h1 : 1 ≤ m) (hm : m ≤ evs.length) (hs : ∀ s ∈ evs, s.size ≤ 50) : wk (growthM evs m) m = dig (evs.take m) (dep m) 0 := by
  unfold wk
  rw [growth_pt evs m hs]
  show ((pruneT evs (ruleG m) (dep evs.length) 0).left (dep (evs.length : Int).toNat - dep (m : Int).toNat)).dg m (dep (m : Int).toNat) 0 = _
  rw [Int.toNat_natCast, Int.toNat_natCast]
  have hle : dep m ≤ dep evs.length := dep_le _ _ (Nat.le_trans hm (dep_spec _))
  have := left_prune evs m h1 (dep evs.length - dep m) (by omega)
  rw [show dep m + (dep evs.length - dep m) = dep evs.length by omega] at this
  rw [this]
  exact cut_dg evs m hm (dep m) 0 (by omega)

/-- The event that a member proof tells. -/
theorem member_lvs (evs : List ByteArray) (i : Nat) (hi : i < evs.length) (d p : Nat) (h0 : p ≤ i) (h1 : i < p + pw d) : lvs (pruneN evs (ruleM i) d p) = [evAt evs i] := by
  have stubs : ∀ d p, (i < p ∨ p + pw d ≤ i) → lvs (pruneN evs (ruleM i) d p) = [] := by
    intro d p h
    have hr : ruleM i p d = true := by
      unfold ruleM
      simp only [Bool.or_eq_true, Bool.not_eq_true', decide_eq_false_iff_not]
      omega
    cases d with
    | zero => unfold pruneN; rw [if_pos hr]; rfl
    | succ d => unfold pruneN; rw [if_pos hr]; rfl
  induction d generalizing p with
  | zero =>
    rw [pw_zero] at h1
    have hp : p = i := by omega
    subst hp
    unfold pruneN
    rw [if_neg]
    · rfl
    · simp [ruleM, pw_zero]
      exact decide_eq_true (by omega)
  | succ d ih =>
    have h2 := pw_succ d
    unfold pruneN
    rw [if_neg (by
      unfold ruleM
      simp only [Bool.or_eq_true, Bool.not_eq_true', decide_eq_false_iff_not]
      omega)]
    split
    · rw [lvs_two, lvs_append]
      by_cases h : i < p + pw d
      · rw [ih p h0 h, stubs d (p + pw d) (by omega)]; rfl
      · rw [ih (p + pw d) (by omega) (by omega), stubs d p (by omega)]; rfl
    · rw [lvs_alone]
      exact ih p h0 (by omega)
end Go.Proofs.YtlndinigbppafaaGreat

/-
  The walks of what the statements begin with: known, unseen, shown.
-/
namespace Go.Proofs.YtlndinigbppafaaGreat
open Go.RowKit Go.Deep

theorem tk_of {ts : List Msg} {x : Msg} (hv : ValidM x) (hl : ts.length < 300) (ha : acc ts x = 0) : tkE ts (encV x) = 0 ∧ tkL ts (encV x) = ts ++ [x] := by
  unfold tkE tkL
  rw [decS_enc hv]
  simp only
  rw [if_neg (by omega), if_neg (by simp [ha]; omega)]
  exact ⟨ha, rfl⟩
theorem tk_no {ts : List Msg} {x : Msg} {r : Int} (hv : ValidM x) (hl : ts.length < 300) (ha : acc ts x = r) (hr : r ≠ 0) : tkE ts (encV x) = r ∧ tkL ts (encV x) = ts := by
  unfold tkE tkL
  rw [decS_enc hv]
  simp only
  rw [if_neg (by omega), if_pos (.inr (by rw [ha]; exact hr))]
  exact ⟨ha, rfl⟩
theorem acc_commit (ts : List Msg) (evs : List ByteArray) (h : versL ts = []) : acc ts (commitM evs) = 0 := by
  unfold acc commitM
  simp [h]
theorem acc_member (ts : List Msg) (evs : List ByteArray) (i : Int) (hs : ∀ s ∈ evs, s.size ≤ 50) (h : rootOf (versL ts) evs.length = some (dig evs (dep evs.length) 0)) : acc ts (memberM evs i) = 0 := by
  have hw := member_wk evs i hs
  unfold acc
  rw [if_neg (by simp [memberM]), if_neg (by simp [memberM])]
  have hn : (memberM evs i).n = evs.length := rfl
  rw [hn] at hw ⊢
  rw [h]
  simp [hw]
theorem acc_growth (ts : List Msg) (evs : List ByteArray) (m : Nat) (h1 : 1 ≤ m) (hm : m ≤ evs.length) (hs : ∀ s ∈ evs, s.size ≤ 50) (h : (versL ts).getLast? = some ((m : Int), dig (evs.take m) (dep m) 0)) : acc ts (growthM evs m) = 0 := by
  have hw := growth_wk evs m hs
  have hw2 := growth_wkm evs m h1 hm hs
  unfold acc
  rw [if_neg (by simp [growthM]), if_pos (by simp [growthM]), h]
  have hn : (growthM evs m).n = evs.length := rfl
  have hmm : (growthM evs m).m = m := rfl
  have hr : (growthM evs m).root = dig evs (dep evs.length) 0 := rfl
  rw [hn] at hw
  simp only [hmm, hn, hr, hw, hw2]
  simp

/-- The commitment of a log of the one event 'a', and the proof of its event. -/
def evA : List ByteArray := [⟨#[97]⟩]
theorem evA_small : ∀ s ∈ evA, s.size ≤ 50 := by
  intro s hs
  simp [evA] at hs
  subst hs
  decide
def cmA : Msg := commitM evA
def mbA : Msg := memberM evA 0
theorem cmA_valid : ValidM cmA := commit_valid evA (by decide) (by decide)
theorem mbA_valid : ValidM mbA := member_valid evA 0 evA_small (by decide) (by decide)
theorem enc_cmA : encV cmA = [1, 0, 1, 3, 115] := by decide
theorem enc_mbA : encV mbA = [3, 0, 0, 0, 1, 1, 1, 97] := by decide
theorem tk_cmA : tkE [] [1, 0, 1, 3, 115] = 0 ∧ tkL [] [1, 0, 1, 3, 115] = [cmA] := by
  rw [← enc_cmA]
  exact tk_of cmA_valid (by simp) (acc_commit [] evA rfl)
theorem versL_cmA : versL [cmA] = [(1, 883)] := by decide
theorem tk_mbA : tkE [cmA] [3, 0, 0, 0, 1, 1, 1, 97] = 0 ∧ tkL [cmA] [3, 0, 0, 0, 1, 1, 1, 97] = [cmA, mbA] := by
  rw [← enc_mbA]
  exact tk_of mbA_valid (by simp) (acc_member [cmA] evA 0 evA_small (by decide))
theorem txL_A : txL [cmA, mbA] = [[0, 97]] := by decide

theorem evL_mem {ts : List Msg} : ∀ e ∈ evL ts, ∃ x ∈ ts, x.kind = 3 ∧ e = (x.m, lastL x.tree) := by
  have h : ∀ (l : List Msg) (es : List Ent), SortE es → ∀ e ∈ l.foldl (fun l x => if x.kind = 3 then insE l (x.m, lastL x.tree) else l) es, e ∈ es ∨ ∃ x ∈ l, x.kind = 3 ∧ e = (x.m, lastL x.tree) := by
    intro l
    induction l with
    | nil => intro es _ e he; exact .inl he
    | cons x l ih =>
      intro es hs e he
      rw [List.foldl_cons] at he
      by_cases hk : x.kind = 3
      · rw [if_pos hk] at he
        rcases ih _ (ins_sort hs _) e he with h | ⟨y, hy, h1, h2⟩
        · rcases (ins_mem hs _ _).1 h with h | h
          · exact .inl h
          · exact .inr ⟨x, by simp, hk, h⟩
        · exact .inr ⟨y, by simp [hy], h1, h2⟩
      · rw [if_neg hk] at he
        rcases ih _ hs e he with h | ⟨y, hy, h1, h2⟩
        · exact .inl h
        · exact .inr ⟨y, by simp [hy], h1, h2⟩
  intro e he
  rcases h ts [] SortE.nil e he with h | h
  · cases h
  · exact h
theorem mem_evL {ts : List Msg} {x : Msg} (hx : x ∈ ts) (hk : x.kind = 3) : (x.m, lastL x.tree) ∈ evL ts := by
  have h : ∀ (l : List Msg) (es : List Ent), SortE es → (∀ e ∈ es, e ∈ l.foldl (fun l x => if x.kind = 3 then insE l (x.m, lastL x.tree) else l) es) ∧ (x ∈ l → (x.m, lastL x.tree) ∈ l.foldl (fun l x => if x.kind = 3 then insE l (x.m, lastL x.tree) else l) es) := by
    intro l
    induction l with
    | nil => intro es _; exact ⟨fun e he => he, fun h => by cases h⟩
    | cons y l ih =>
      intro es hs
      rw [List.foldl_cons]
      by_cases hk2 : y.kind = 3
      · rw [if_pos hk2]
        have h1 := ih _ (ins_sort hs (y.m, lastL y.tree))
        refine ⟨fun e he => h1.1 e ((ins_mem hs _ _).2 (.inl he)), fun hm => ?_⟩
        rcases List.mem_cons.1 hm with rfl | hm
        · exact h1.1 _ ((ins_mem hs _ _).2 (.inr rfl))
        · exact h1.2 hm
      · rw [if_neg hk2]
        have h1 := ih _ hs
        refine ⟨h1.1, fun hm => ?_⟩
        rcases List.mem_cons.1 hm with rfl | hm
        · exact absurd hk hk2
        · exact h1.2 hm
  exact (h ts [] SortE.nil).2 hx
theorem took_valid {ts : List Msg} (h : Took ts) : ∀ x ∈ ts, ValidM x := by
  induction h with
  | nil => intro x hx; cases hx
  | snoc ts y _ hv _ _ ih =>
    intro x hx
    rcases List.mem_append.1 hx with hx | hx
    · exact ih x hx
    · simp at hx; subst hx; exact hv
theorem last_lvs {x : Msg} (hx : ValidM x) (hk : x.kind = 3) : lastL x.tree ∈ lvs x.tree := by
  obtain ⟨a, a1, _⟩ := memb_rc (S := fun _ => True) hx hk (fun _ _ => trivial)
  unfold lastL
  rw [a1]
  simp
/-- Who knows two events of one number has two preimages of one sum. -/
theorem sound_ev {ts : List Msg} (h : Took ts) (hS : ∀ a ∈ txL ts, ∀ b ∈ txL ts, sm a = sm b → a = b) {e e' : Ent} (he : e ∈ evL ts) (he' : e' ∈ evL ts) (h1 : e.1 = e'.1) : e.2 = e'.2 := by
  obtain ⟨x, hx, kx, rfl⟩ := evL_mem e he
  obtain ⟨y, hy, ky, rfl⟩ := evL_mem e' he'
  exact sound_pure h hS hx hy kx ky h1 (last_lvs (took_valid h x hx) kx) (last_lvs (took_valid h y hy) ky)
theorem Shows.is {ts : List Msg} {w w' : World} {x y x' y' : Value} {k k' : Bool} (h : Shows ts w x y k) (h' : Shows ts w' x' y' k') : k = k' := by
  cases h with
  | no hi =>
    cases h' with
    | no _ => rfl
    | yes a b _ _ _ _ hl hs _ _ ha hb _ _ =>
      have := hi _ ha _ hb hs
      exact absurd (ba_ext this) (fun e => by subst e; exact ltB_irrefl _ hl)
  | yes a b _ _ _ _ hl hs _ _ ha hb _ _ =>
    cases h' with
    | no hi =>
      have := hi _ ha _ hb hs
      exact absurd (ba_ext this) (fun e => by subst e; exact ltB_irrefl _ hl)
    | yes _ _ _ _ _ _ _ _ _ _ _ _ _ _ => rfl
end Go.Proofs.YtlndinigbppafaaGreat

/-
  The walks of what the statements begin with: known, unseen, shown.
-/
namespace Go.Proofs.YtlndinigbppafaaGreat
open Go.RowKit Go.Deep

theorem bytes_lit (w : World) (l : List UInt8) (b n : Nat) (cur : Array Value) (hb : b = w.heap.size) (hn : n = l.length) (hc : cur = (bytes8 l).toArray) (hl : l.length ≤ 1000) : BytesC (w.alloc (.cells cur 5)) (.slice (some ⟨b, 0, none⟩) n n) l := by
  subst hb hn hc
  refine ⟨⟨_, _, rfl, fun h => (by cases h), fun _ => ⟨_, _, _, _, rfl, heap_alloc_new w _, fun j hj => ?_⟩⟩, _, _, rfl, Nat.le_refl _, by unfold maxLen; omega⟩
  rw [Nat.zero_add]
  simp [bytes8, hj]

set_option maxRecDepth 100000 in
set_option maxHeartbeats 1000000 in
theorem known_any (w : World) :
    Calls Tryz.prog 19 #[] w fun e w' => e = .returned (.bool true) ∧ Below w.heap.size w w' := by
  go_enter Tryz.func19, Tryz.ntmps19
  go_wp2_with fail
  refine (newAud_any w).mono ?_
  rintro e w1 ⟨rfl, hA1, hb1⟩
  go_wp2_with fail
  refine (rooted_any w1).mono ?_
  rintro e w2 ⟨rfl, hb2⟩
  have hA2 := hA1.below hb2
  have hB2 := below_step hb1 hb2
  clear hA1 hb1 hb2
  have hC3 := bytes_lit w2 [1, 0, 1, 3, 115] w2.heap.size 5 #[.int .u8 1, .int .u8 0, .int .u8 1, .int .u8 3, .int .u8 115] rfl rfl rfl (by decide)
  have hb3 : Below w2.heap.size w2 (w2.alloc (.cells #[.int .u8 1, .int .u8 0, .int .u8 1, .int .u8 3, .int .u8 115] 5)) := (Below.refl _ _).alloc (Nat.le_refl _) _
  have HA3 : Hid (AudAt (w2.alloc (.cells #[.int .u8 1, .int .u8 0, .int .u8 1, .int .u8 3, .int .u8 115] 5)) w.heap.size w.heap.size []) := hA2.below hb3
  have hB3 := below_step hB2 hb3
  clear hA2 hB2 hb3
  go_wp2_with fail
  generalize w2.alloc (.cells #[.int .u8 1, .int .u8 0, .int .u8 1, .int .u8 3, .int .u8 115] 5) = w3 at hC3 HA3 hB3 ⊢
  refine (take_any w3 _ _ [] _ _ HA3.out hC3).mono ?_
  rintro e w4 ⟨rfl, hA4, hK4⟩
  rw [tk_cmA.1]
  rw [tk_cmA.2] at hA4
  have hB4 := hB3.trans ((KeepsA.below hK4 hB3.size).mono (Nat.le_refl _))
  clear hC3 HA3 hB3 hK4
  go_wp2_with fail
  refine (versions_any w4 _ _ _ hA4).mono ?_
  rintro e w5 ⟨V, rfl, hV, hb5⟩
  have hB5 := hB4.trans (hb5.mono hB4.size)
  clear hA4 hB4 hb5
  rw [versL_cmA] at hV
  obtain ⟨ao, cap, rfl, hc⟩ := hV
  obtain ⟨b, o, rfl, hlt, hc⟩ := hc (by decide)
  obtain ⟨c0, c1⟩ := hc 0 (by decide)
  simp only [List.getElem_cons_zero, Nat.zero_mul, Nat.add_zero] at c0 c1
  clear hc
  go_wp2
  go_ret
  exact ⟨rfl, hB5⟩

theorem below_take {w u v : World} {n : Nat} (h : Below n w u) (hK : KeepsA n u v) (hn : n ≤ u.heap.size) : Below n w v := h.trans (KeepsA.below hK hn)

set_option maxRecDepth 100000 in
set_option maxHeartbeats 1000000 in
theorem unseen_any (w : World) :
    Calls Tryz.prog 28 #[] w fun e w' => e = .returned (.bool true) ∧ Below w.heap.size w w' := by
  go_enter Tryz.func28, Tryz.ntmps28
  go_wp2_with fail
  refine (newAud_any w).mono ?_
  rintro e w2 ⟨rfl, hA2, hB2⟩
  have hC3 := bytes_lit w2 [1, 0, 1, 3, 115] w2.heap.size 5 #[.int .u8 1, .int .u8 0, .int .u8 1, .int .u8 3, .int .u8 115] rfl rfl rfl (by decide)
  have hb3 : Below w2.heap.size w2 (w2.alloc (.cells #[.int .u8 1, .int .u8 0, .int .u8 1, .int .u8 3, .int .u8 115] 5)) := (Below.refl _ _).alloc (Nat.le_refl _) _
  have HA3 : Hid (AudAt (w2.alloc (.cells #[.int .u8 1, .int .u8 0, .int .u8 1, .int .u8 3, .int .u8 115] 5)) w.heap.size w.heap.size []) := hA2.below hb3
  have hB3 := below_step hB2 hb3
  clear hA2 hB2 hb3
  go_wp2_with fail
  generalize w2.alloc (.cells #[.int .u8 1, .int .u8 0, .int .u8 1, .int .u8 3, .int .u8 115] 5) = w3 at hC3 HA3 hB3 ⊢
  refine (take_any w3 _ _ [] _ _ HA3.out hC3).mono ?_
  rintro e w4 ⟨rfl, hA4, hK4⟩
  rw [tk_cmA.1]
  rw [tk_cmA.2] at hA4
  have hB4 := below_take hB3 hK4 hB3.size
  clear hC3 HA3 hB3 hK4
  have hC3 := bytes_lit w4 [3, 0, 0, 0, 1, 1, 1, 97] w4.heap.size 8 #[.int .u8 3, .int .u8 0, .int .u8 0, .int .u8 0, .int .u8 1, .int .u8 1, .int .u8 1, .int .u8 97] rfl rfl rfl (by decide)
  have hb3 : Below w4.heap.size w4 (w4.alloc (.cells #[.int .u8 3, .int .u8 0, .int .u8 0, .int .u8 0, .int .u8 1, .int .u8 1, .int .u8 1, .int .u8 97] 5)) := (Below.refl _ _).alloc (Nat.le_refl _) _
  have HA3 : Hid (AudAt (w4.alloc (.cells #[.int .u8 3, .int .u8 0, .int .u8 0, .int .u8 0, .int .u8 1, .int .u8 1, .int .u8 1, .int .u8 97] 5)) w.heap.size w.heap.size [cmA]) := hA4.below hb3
  have hB3 := below_step hB4 hb3
  clear hA4 hB4 hb3
  go_wp2_with fail
  generalize w4.alloc (.cells #[.int .u8 3, .int .u8 0, .int .u8 0, .int .u8 0, .int .u8 1, .int .u8 1, .int .u8 1, .int .u8 97] 5) = w5 at hC3 HA3 hB3 ⊢
  refine (take_any w5 _ _ [cmA] _ _ HA3.out hC3).mono ?_
  rintro e w6 ⟨rfl, hA6, hK6⟩
  rw [tk_mbA.1]
  rw [tk_mbA.2] at hA6
  have hB6 := below_take hB3 hK6 hB3.size
  clear hC3 HA3 hB3 hK6
  go_wp2_with fail
  refine (collision_any w6 _ _ _ hA6).mono ?_
  rintro e w7 ⟨x, y, k, rfl, hS, hb7⟩
  have hB7 := hB6.trans (hb7.mono hB6.size)
  have hS0 : Shows [cmA, mbA] w7 (.slice none 0 0) (.slice none 0 0) false := .no (by rw [txL_A]; intro a ha b hb _; simp at ha hb; rw [ha, hb])
  cases hS with
  | yes a b ax ay cx cy hl hs s1 s2 ha hb =>
    rw [txL_A] at ha hb
    simp at ha hb
    exact absurd (ba_ext (ha.trans hb.symm)) (fun e => by subst e; exact ltB_irrefl _ hl)
  | no _ =>
    clear hS0 hA6 hB6 hb7
    go_wp2
    go_ret
    exact ⟨rfl, hB7⟩

set_option maxRecDepth 100000 in
set_option maxHeartbeats 1000000 in
theorem shown_any (w : World) (b0 A : Nat) (ts : List Msg) (h : AudAt w b0 A ts) (hn : ¬ ∀ a ∈ txL ts, ∀ b ∈ txL ts, sm a = sm b → a = b) :
    Calls Tryz.prog 31 #[.pointer (some ⟨A, 0, none⟩)] w fun e w' => e = .returned (.bool true) ∧ Below w.heap.size w w' := by
  go_enter Tryz.func31, Tryz.ntmps31
  go_wp2_with fail
  refine (collision_any w _ _ _ h).mono ?_
  rintro e w1 ⟨x, y, k, rfl, hS, hb1⟩
  cases hS with
  | no hi => exact absurd hi hn
  | yes a b ax ay cx cy hl hs s1 s2 ha hb hxa hyb =>
    have ea : (⟨a.data.toList.toArray⟩ : ByteArray) = a := by simp
    have eb : (⟨b.data.toList.toArray⟩ : ByteArray) = b := by simp
    have c1 := conv_slice w1 _ ax cx hxa.1
    have c2 := conv_slice w1 _ ay cy hyb.1
    have la : a.data.toList.length = a.size := by simp
    have lb : b.data.toList.length = b.size := by simp
    rw [ea, la] at c1
    rw [eb, lb] at c2
    rw [la] at hxa
    rw [lb] at hyb
    clear la lb
    have hlt : Op.bytesLess a.toList b.toList = true := by rw [less_lt]; simpa using hl
    clear ea eb hn h ha hb
    have hrA := rowsOne w1 w1.heap.size _ _ rfl hxa.1
    have hbA : Below w1.heap.size w1 (w1.alloc (.cells #[.slice (some ax) a.size cx] 27)) := (Below.refl _ _).alloc (Nat.le_refl _) _
    have hyA : BytesAt (w1.alloc (.cells #[.slice (some ax) a.size cx] 27)) (.slice (some ay) b.size cy) b.data.toList := hyb.1.keep (keepA _ _)
    have hrB := rowsOne (w1.alloc (.cells #[.slice (some ax) a.size cx] 27)) (w1.heap.size + 1) _ _ (by simp) hyA
    go_wp2_with fail
    refine (sum_any [a.data.toList] _ _ hrA (by simp) (by simp; omega)).mono ?_
    rintro e w2 ⟨rfl, rfl⟩
    go_wp2_with fail
    refine (sum_any [b.data.toList] _ _ hrB (by simp) (by simp; omega)).mono ?_
    rintro e w3 ⟨rfl, rfl⟩
    have e2 : [b.data.toList].flatten = b.data.toList := by simp
    rw [e2]
    go_wp2
    go_ret
    exact ⟨rfl, hb1.trans (((hbA.alloc (by simp) _)).mono hb1.size)⟩
end Go.Proofs.YtlndinigbppafaaGreat

/-
  Arguments that are handed in: lists of strings and numbers, however long; five of them.
-/
namespace Go.Proofs.YtlndinigbppafaaGreat
open Go.ChangeShapes Go.WideShapes Go.ChangeAt Go.RowKit

theorem Tryz.cellsStrA : Tryz.prog.cellsOf 9 = 1 := by kernel_rfl
theorem Tryz.ownA : ownKnob Tryz.prog.godebug = none := by kernel_rfl
theorem Tryz.laidA : laidOutB Tryz.prog = true := by kernel_rfl

theorem wf64 {n : Int} (h : (Lit.int .i64 n).wf = true) : -9223372036854775808 ≤ n ∧ n ≤ 9223372036854775807 := by
  simp only [Lit.wf, Bool.and_eq_true, decide_eq_true_eq] at h
  exact h

set_option maxRecDepth 100000 in
/-- An argument that is a list of strings: what it holds. -/
theorem strings_wide {H : Type} {enc : TypeId × Value → H} {W : World} {base : Nat} {v : Value} {d : DataW H} {p : List MemPlace}
    (hok : Value.okWide Tryz.prog W .any base 22 v) (h : DataW.Trod enc Tryz.prog W 0 (fun _ => true) true 22 v d p) (hlt : ∀ x ∈ p, x.block < W.heap.size) :
    ∃ ps : List ByteArray, StringsAt W v ps ∧ ps.length ≤ maxLen ∧ ∀ s ∈ ps, s.size ≤ maxLen := by
  obtain ⟨a0, len, cap, rfl⟩ := okWide_slice Tryz.underlying22 hok
  obtain ⟨fuel, hf⟩ := h
  rcases open_strings Tryz.underlying22 Tryz.underlying9 Tryz.cellsStrA hf with ⟨hcs, hx⟩ | ⟨a, len', cap', ss, hcs, _, hl, hm, hz, hx, hcell, hws⟩
  · simp [Value.cells] at hcs
    obtain ⟨rfl, rfl, rfl⟩ := hcs
    exact ⟨[], ⟨none, 0, rfl, fun h => by simp at h⟩, by simp, fun s hs => by cases hs⟩
  · simp [Value.cells] at hcs
    obtain ⟨rfl, rfl, rfl⟩ := hcs
    simp only [Prod.mk.injEq] at hx
    obtain ⟨rfl, rfl⟩ := hx
    simp only [if_true] at hz
    refine ⟨ss.take len, ⟨some a, cap, by rw [List.length_take]; congr 1; omega, fun h => ?_⟩, ?_, fun s hs => hws s (List.mem_of_mem_take hs)⟩
    · rw [List.length_take] at h
      obtain ⟨b, off, spot⟩ := a
      have hspot : spot = none := by simpa [Addr.add] using World.cell?_spot (hcell 0 (by omega))
      subst hspot
      refine ⟨b, off, rfl, hlt (.cell b off) (MemPlace.mem_row.2 ⟨0, by omega, by simp⟩), fun j hj => ?_⟩
      rw [List.length_take] at hj
      rw [← add_plain, hcell j (by omega)]
      simp [List.getElem?_eq_getElem (show j < ss.length by omega)]
    · rw [List.length_take]; omega

section
variable {H : Type} {enc : TypeId × Value → H} {P : Program} {w : World} {base : Nat} {spare : Nat → Bool} {held : Bool}
theorem trodAll_five {t0 t1 t2 t3 t4 : TypeId} {args : Array Value} {ds : List (DataW H)} {ps : List MemPlace} (h : DataW.TrodAll enc P w base spare held [t0, t1, t2, t3, t4] args.toList ds ps) :
    ∃ v0 v1 v2 v3 v4 d0 d1 d2 d3 d4 p0 p1 p2 p3 p4, args = #[v0, v1, v2, v3, v4] ∧ ds = [d0, d1, d2, d3, d4] ∧ ps = p0 ++ (p1 ++ (p2 ++ (p3 ++ p4))) ∧ DataW.Trod enc P w base spare held t0 v0 d0 p0 ∧ DataW.Trod enc P w base spare held t1 v1 d1 p1 ∧ DataW.Trod enc P w base spare held t2 v2 d2 p2 ∧ DataW.Trod enc P w base spare held t3 v3 d3 p3 ∧ DataW.Trod enc P w base spare held t4 v4 d4 p4 := by
  obtain ⟨v0, vs, d0, ds0, p0, q0, hargs, rfl, rfl, h0, r0⟩ := trodAll_cons h
  obtain ⟨v1, vs1, d1, ds1, p1, q1, rfl, rfl, rfl, h1, r1⟩ := trodAll_cons r0
  obtain ⟨v2, vs2, d2, ds2, p2, q2, rfl, rfl, rfl, h2, r2⟩ := trodAll_cons r1
  obtain ⟨v3, vs3, d3, ds3, p3, q3, rfl, rfl, rfl, h3, r3⟩ := trodAll_cons r2
  obtain ⟨v4, vs4, d4, ds4, p4, q4, rfl, rfl, rfl, h4, r4⟩ := trodAll_cons r3
  obtain ⟨rfl, rfl, rfl⟩ := trodAll_nil r4
  exact ⟨v0, v1, v2, v3, v4, d0, d1, d2, d3, d4, p0, p1, p2, p3, p4, by cases args; simp_all, rfl, by simp, h0, h1, h2, h3, h4⟩
theorem trodAll_mk5 {t0 t1 t2 t3 t4 : TypeId} {v0 v1 v2 v3 v4 : Value} {d0 d1 d2 d3 d4 : DataW H} {p0 p1 p2 p3 p4 : List MemPlace} (h0 : DataW.Trod enc P w base spare held t0 v0 d0 p0) (h1 : DataW.Trod enc P w base spare held t1 v1 d1 p1) (h2 : DataW.Trod enc P w base spare held t2 v2 d2 p2) (h3 : DataW.Trod enc P w base spare held t3 v3 d3 p3) (h4 : DataW.Trod enc P w base spare held t4 v4 d4 p4) :
    DataW.TrodAll enc P w base spare held [t0, t1, t2, t3, t4] [v0, v1, v2, v3, v4] [d0, d1, d2, d3, d4] (p0 ++ (p1 ++ (p2 ++ (p3 ++ p4)))) := ⟨p0, _, h0, trodAll_mk4 h1 h2 h3 h4, rfl⟩
end
end Go.Proofs.YtlndinigbppafaaGreat

/-
  A call that starts no goroutine meets what is asked of one that may: nobody else is there at the return.
-/
namespace Go.Proofs.YtlndinigbppafaaGreat
open Go.Conc

theorem leaves_of_done {P : Program} {m : Machine} (h : m.othersDone = true) : ∀ g ∈ m.gs.toList.drop 1, g.Leaves P := by
  intro g hg
  refine ⟨0, ?_⟩
  unfold Machine.othersDone at h
  simp only [List.all_eq_true] at h
  have := h g hg
  show g.status = .finished
  revert this
  cases g.status <;> simp

theorem leaving_of_handed {a : Assume} {C : Checked} {os : Os} {f : FuncId} {r : Reach} {Pre : World → Array Value → Prop} {Post : World → Array Value → Value → World → Prop}
    (h : ReturnsInHanded a C os f r Pre Post) : ReturnsInLeavingWide a C os f r Pre Post :=
  fun enter => ReturnsInOpen.mono (fun _ _ _ x => ⟨x.2.1, ⟨leaves_of_done x.1.1, x.1.2⟩, x.2.2⟩) (fun _ x => x) (h enter)
end Go.Proofs.YtlndinigbppafaaGreat

/-
  The walk of Sound.
-/
namespace Go.Proofs.YtlndinigbppafaaGreat
open Go.RowKit Go.Deep

/-- A string made bytes. -/
theorem conv_C (w : World) (s : ByteArray) (c : Nat) (fr : Nat × Nat) (h : s.size ≤ c ∧ c ≤ maxLen) :
    BytesC (w.alloc (.cells (bytesRow s c) 5 fr)).drew (.slice (some ⟨w.heap.size, 0, none⟩) s.size c) s.data.toList ∧ Below w.heap.size w (w.alloc (.cells (bytesRow s c) 5 fr)).drew := by
  have e : s.data.toList.length = s.size := by simp
  exact ⟨⟨(made_at w s _ _ _ _ rfl rfl).keep (keepD _), _, _, by rw [e], by omega, h.2⟩, ((Below.refl _ _).alloc (Nat.le_refl _) _).drew⟩

set_option maxRecDepth 100000 in
set_option maxHeartbeats 1000000 in
theorem sound_any (ps : List ByteArray) (v : Value) (w : World) (hv : StringsAt w v ps) (hn : ps.length ≤ 9223372036854775807) (hp : ∀ p ∈ ps, p.size ≤ maxLen) :
    Calls Tryz.prog 7 #[v] w fun e w' => e = .returned (.bool true) ∧ Below w.heap.size w w' := by
  obtain ⟨ao, cap, rfl, hcell⟩ := hv
  go_enter Tryz.func7, Tryz.ntmps7
  go_wp2_with fail
  refine (known_any w).mono ?_
  rintro e w1 ⟨rfl, hB1⟩
  go_wp2_with fail
  refine (unseen_any w1).mono ?_
  rintro e w2 ⟨rfl, hb2⟩
  have hB2 := below_step hB1 hb2
  clear hB1 hb2
  go_wp2_with fail
  refine (newAud_any w2).mono ?_
  rintro e w3 ⟨rfl, hA3, hb3⟩
  have hB3 := below_step hB2 hb3
  have hs2 := hB2.size
  clear hB2 hb3
  go_wp2
  go_loopw [6] (fun i wr => ∃ (k : Nat) (ts : List Msg), k ≤ ps.length ∧ i = .int .i64 k ∧ AudAt wr w2.heap.size w2.heap.size ts ∧ Below w.heap.size w wr) (fun i _ => ps.length - (intOf i).toNat)
  case atStart => exact ⟨0, [], Nat.zero_le _, rfl, hA3, hB3⟩
  case round =>
    obtain ⟨k, ts, hk, rfl, hA, hB⟩ := hrel
    have hBs := hB.size
    have hAs := hA.lt
    by_cases hlt : k < ps.length
    · obtain ⟨b, o, rfl, hbB, hcl⟩ := hcell (by omega)
      have hck := (hB.cell (p := ⟨b, o + k, none⟩) hbB).trans (hcl k hlt)
      have hsz := hp _ (List.getElem_mem hlt)
      have hcv := @run_bytes_of_string Tryz.prog wr 9 27 5 ps[k] Tryz.underlying9 Tryz.underlying27 Tryz.underlying5
      have hG : ps[k].size ≤ grownCap wr ps[k].size 0 5 ∧ grownCap wr ps[k].size 0 5 ≤ maxLen := ⟨grownCap_ge _ _ 0 5, grownCap_le_maxLen wr _ 0 5 hsz⟩
      clear hcl hcell
      go_wp2_with fail
      obtain ⟨hC, hbC⟩ := conv_C wr ps[k] (grownCap wr ps[k].size 0 5) ((bytesRow ps[k] (grownCap wr ps[k].size 0 5)).size, (bytesRow ps[k] (grownCap wr ps[k].size 0 5)).size + 1) hG
      refine (take_any _ _ _ ts _ _ (hA.below hbC) hC).mono ?_
      rintro e w4 ⟨rfl, hA4, hK4⟩
      have hB4 := below_step hB hbC
      have hB5 : Below w.heap.size w w4 := hB4.trans ((KeepsA.below hK4 (Nat.le_trans (by omega) hbC.size)).mono hs2)
      clear hck hcv hA hB hK4 hC hbC hB4
      go_wp2
      go_roundw
      case rel => exact ⟨k + 1, _, by omega, by go_num, hA4, hB5⟩
      case measure => simp [intOf]; omega
    · have hkk : k = ps.length := by omega
      clear hcell hlt
      subst hkk
      go_wp2_with fail
      refine (events_any _ _ _ _ hA).mono ?_
      rintro e w4 ⟨V, rfl, hV, hb4⟩
      have hB4 := hB.trans (hb4.mono hBs)
      have hA4 := hA.below hb4
      have hel := (evL_inv ts).2
      have hfew := hA.1.few
      obtain ⟨vo, vc, rfl, hce⟩ := hV
      clear hA hB hb4
      go_wp2
      go_loopw [8, 9] (fun t i wr => ∃ (j : Nat) (b : Bool), (j < (evL ts).length ∨ j = 0) ∧ i = .int .i64 ((j : Int) + 1) ∧ t = .bool b ∧ Below w4.heap.size w4 wr ∧ (b = true → ∃ e ∈ evL ts, ∃ e' ∈ evL ts, e.1 = e'.1 ∧ e.2 ≠ e'.2)) (fun _ i _ => (evL ts).length - (intOf i).toNat)
      case atStart => exact ⟨0, false, .inr rfl, rfl, rfl, Below.refl _ _, by simp⟩
      case round =>
        obtain ⟨j, b, hk, rfl, rfl, hbr, hb⟩ := hrel
        have HA4 : Hid (AudAt wr w2.heap.size w2.heap.size ts) := hA4.below hbr
        have hB4r := hB4.trans (hbr.mono hB4.size)
        clear hA4 hB4
        by_cases hlt : j + 1 < (evL ts).length
        · obtain ⟨b1, o, rfl, hbB, hcl⟩ := hce (by omega)
          obtain ⟨c0, c1⟩ := hcl (j + 1) hlt
          obtain ⟨d0, d1⟩ := hcl j (by omega)
          have c0 := cell_keep c0 hbr
          have c1 := cell_keep c1 hbr
          have d0 := cell_keep d0 hbr
          have d1 := cell_keep d1 hbr
          have HQ : Hid (∀ nq, Below w4.heap.size w4 (wr.drewN nq)) := fun nq => below_drewN hbr nq
          have m1 : (evL ts)[j + 1] ∈ evL ts := List.getElem_mem hlt
          have m2 : (evL ts)[j]'(by omega) ∈ evL ts := List.getElem_mem _
          have HT : Hid ((evL ts)[j + 1].1 = ((evL ts)[j]'(by omega)).1 → (evL ts)[j + 1].2 ≠ ((evL ts)[j]'(by omega)).2 → ∃ e ∈ evL ts, ∃ e' ∈ evL ts, e.1 = e'.1 ∧ e.2 ≠ e'.2) := fun h1 h2 => ⟨_, m1, _, m2, h1, h2⟩
          generalize (evL ts)[j + 1].1 = x1 at *
          generalize (evL ts)[j + 1].2 = s1 at *
          generalize ((evL ts)[j]'(by omega)).1 = x2 at *
          generalize ((evL ts)[j]'(by omega)).2 = s2 at *
          have hl2 : (j : Int) + 1 < ((evL ts).length : Int) := by omega
          clear hcl m1 m2 hce
          cases b with
          | true =>
            go_wp2
            go_quiet (fail)
            go_wp2
            go_roundw
            case rel => exact ⟨j + 1, true, .inl hlt, by go_num, rfl, HQ.out nq, fun _ => hb trivial⟩
            case measure => simp [intOf]; omega
          | false =>
            by_cases hx : x1 = x2
            · subst hx
              by_cases hs : s1 = s2
              · subst hs
                go_wp2
                go_quiet (fail)
                go_wp2
                go_roundw
                case rel => exact ⟨j + 1, false, .inl hlt, by go_num, rfl, HQ.out nq, by simp⟩
                case measure => simp [intOf]; omega
              · have hsb : (s1.toList == s2.toList) = false := by
                  rw [Lib.toList_data, Lib.toList_data]
                  simpa using fun h => hs (ba_ext h)
                have hT := HT.out rfl hs
                go_wp2
                go_quiet (fail)
                go_wp2
                go_roundw
                case rel => exact ⟨j + 1, true, .inl hlt, by go_num, rfl, HQ.out nq, fun _ => hT⟩
                case measure => simp [intOf]; omega
            · have hxb : (x1 == x2) = false := by simp [hx]
              go_wp2
              go_quiet (fail)
              go_wp2
              go_roundw
              case rel => exact ⟨j + 1, false, .inl hlt, by go_num, rfl, HQ.out nq, by simp⟩
              case measure => simp [intOf]; omega
        · have hl2 : ((evL ts).length : Int) ≤ (j : Int) + 1 := by omega
          go_wp2_with fail
          refine (collision_any _ _ _ _ HA4.out).mono ?_
          rintro e w5 ⟨x, y, kk, rfl, hS, hb5⟩
          have hB5 := hB4r.trans (hb5.mono hB4r.size)
          have hA5 := HA4.out.below hb5
          cases hS with
          | no hi =>
            have hbf : b = false := by
              cases b with
              | false => rfl
              | true =>
                obtain ⟨e, he, e', he', h1, h2⟩ := hb rfl
                exact absurd (sound_ev hA5.1 hi he he' h1) h2
            subst hbf
            clear hb5 hA5 hce hi HA4
            go_wp2
            go_ret
            exact ⟨rfl, hB5⟩
          | yes a b' ax ay cx cy hl hs s1 s2 ha hb' hxa hyb =>
            have hnot : ¬ ∀ a ∈ txL ts, ∀ b ∈ txL ts, sm a = sm b → a = b := fun hi => absurd (ba_ext (hi _ ha _ hb' hs)) (fun e => by subst e; exact ltB_irrefl _ hl)
            clear hb5 hce hb ha hb' hxa hyb
            go_wp2_with fail
            refine (shown_any _ _ _ _ hA5 hnot).mono ?_
            rintro e w6 ⟨rfl, hb6⟩
            have hB6 := hB5.trans (hb6.mono hB5.size)
            go_wp2
            go_ret
            exact ⟨rfl, hB6⟩
end Go.Proofs.YtlndinigbppafaaGreat
