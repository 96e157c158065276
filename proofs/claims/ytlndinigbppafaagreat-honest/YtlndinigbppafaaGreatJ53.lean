/-
  Texts of ours, joined: LogA, LogB.
-/
import Derived.Test.YtlndinigbppafaaGreatTreeH
import Derived.LaidEql
/-
  The walks of the program's member and growth: the proofs of a version.
-/
namespace Go.Proofs.YtlndinigbppafaaGreat
open Go.RowKit

theorem evAt_le (evs : List ByteArray) (p m : Nat) (h : ∀ s ∈ evs, s.size ≤ m) : (evAt evs p).size ≤ m := by
  unfold evAt
  rcases Nat.lt_or_ge p evs.length with hp | hp
  · rw [List.getElem?_eq_getElem hp]; exact h _ (List.getElem_mem hp)
  · rw [List.getElem?_eq_none hp]; exact Nat.zero_le _
theorem pruneN_small (evs : List ByteArray) (f : Nat → Nat → Bool) (h : ∀ s ∈ evs, s.size ≤ 255) (d p : Nat) : ∀ x ∈ pruneN evs f d p, (0 ≤ x.kind ∧ x.kind ≤ 255) ∧ (0 ≤ x.dig ∧ x.dig ≤ 65535) ∧ x.ev.size ≤ 255 := by
  have e0 : ByteArray.empty.size = 0 := rfl
  induction d generalizing p with
  | zero =>
    intro x hx
    have h1 := dig_bd evs 0 p
    have h2 := evAt_le evs p 255 h
    unfold pruneN at hx
    split at hx
    · simp at hx; subst hx; exact ⟨by simp, h1, by show ByteArray.empty.size ≤ 255; omega⟩
    · simp at hx; subst hx; exact ⟨by simp, by simp, h2⟩
  | succ d ih =>
    intro x hx
    have h1 := dig_bd evs (d + 1) p
    unfold pruneN at hx
    split at hx
    · simp at hx; subst hx; exact ⟨by simp, h1, by show ByteArray.empty.size ≤ 255; omega⟩
    · split at hx
      · simp only [List.mem_cons, List.mem_append] at hx
        rcases hx with rfl | hx | hx
        · exact ⟨by simp, by simp, by show ByteArray.empty.size ≤ 255; omega⟩
        · exact ih p x hx
        · exact ih _ x hx
      · simp only [List.mem_cons] at hx
        rcases hx with rfl | hx
        · exact ⟨by simp, by simp, by show ByteArray.empty.size ≤ 255; omega⟩
        · exact ih p x hx

/-- A member proof's bytes. -/
def memberB (evs : List ByteArray) (i : Int) : List UInt8 := encM 3 i evs.length 0 (pruneN evs (ruleM i) (dep evs.length) 0)
/-- A growth proof's bytes. -/
def growthB (evs : List ByteArray) (m : Int) : List UInt8 := encM 2 m evs.length (dig evs (dep evs.length) 0) (pruneN evs (ruleG m) (dep evs.length) 0)
/-- A commitment's bytes. -/
def commitB (evs : List ByteArray) : List UInt8 := encM 1 0 evs.length (dig evs (dep evs.length) 0) []

theorem small_prune (evs : List ByteArray) (f : Nat → Nat → Bool) (k M R : Int) (hk : 0 ≤ k ∧ k ≤ 255) (hM : 0 ≤ M ∧ M ≤ 65535) (hR : 0 ≤ R ∧ R ≤ 65535) (hn : evs.length ≤ 65535) (hs : ∀ s ∈ evs, s.size ≤ 255) : SmallM k M evs.length R (pruneN evs f (dep evs.length) 0) := by
  refine ⟨hk, hM, ⟨by omega, by omega⟩, hR, ?_, pruneN_small evs f hs _ _⟩
  have h1 := pruneN_len evs f (dep evs.length) 0
  have h2 : pw (dep evs.length) ≤ 65536 := pw_le (e := 16) (dep_le _ 16 (by rw [pw_16]; omega))
  omega

set_option maxRecDepth 100000 in
set_option maxHeartbeats 1000000 in
theorem member_any (evs : List ByteArray) (V : Value) (i n : Int) (w : World) (hV : Prunes V (fun f => pruneN evs f (dep evs.length) 0)) (hi : 0 ≤ i ∧ i ≤ 65535) (en : n = evs.length) (hn : evs.length ≤ 65535) (hs : ∀ s ∈ evs, s.size ≤ 255) :
    Calls Tryz.prog 62 #[V, .int .i64 i, .int .i64 n] w fun e w' => ∃ v', e = .returned v' ∧ w'.ownsRow w.heap.size 5 1 v' (memberB evs i).length (bytes8 (memberB evs i)) ∧ Below w.heap.size w w' := by
  obtain ⟨t, a, F, rfl, hm, hE, hA, hC⟩ := hV
  subst en
  go_enter Tryz.func62, Tryz.ntmps62
  go_wp2
  go_region_held3 (fun _ => True) (trivial)
    (first
      | (go_at_call 99; refine (memberRule_any _ _).mono ?_; rintro e w1 ⟨R, rfl, hR1, hb1⟩; have hq1 : Below w.heap.size w w1 := below_step ((Below.refl _ _).drew) hb1)
      | (refine Calls.mono (hC.out (ruleM i) R _ hR1) ?_; rintro e w2 ⟨v2, rfl, hN2, hb2⟩; obtain ⟨x2, y2, rfl, hrest⟩ := id hN2; clear hrest; have hq2 : Below w.heap.size w w2 := below_step hq1 hb2))
  all_goals go_wp2_with fail
  all_goals refine (wireMessage_any 3 i evs.length 0 _ _ _ hN2 (small_prune evs (ruleM i) 3 i 0 (by omega) hi (by omega) hn hs) (by omega)).mono ?_
  all_goals rintro e w3 ⟨v3, rfl, hO3, hb3⟩
  all_goals go_wp2
  all_goals go_ret
  all_goals exact ⟨_, rfl, owns_base hO3 hq2.size, hq2.trans (hb3.mono hq2.size)⟩

set_option maxRecDepth 100000 in
set_option maxHeartbeats 1000000 in
theorem growth_any (evs : List ByteArray) (V : Value) (m n : Int) (w : World) (hV : Prunes V (fun f => pruneN evs f (dep evs.length) 0)) (hD : NodeV (dig evs (dep evs.length) 0) V) (hm' : 0 ≤ m ∧ m ≤ 65535) (en : n = evs.length) (hn : evs.length ≤ 65535) (hs : ∀ s ∈ evs, s.size ≤ 255) :
    Calls Tryz.prog 61 #[V, .int .i64 m, .int .i64 n] w fun e w' => ∃ v', e = .returned v' ∧ w'.ownsRow w.heap.size 5 1 v' (growthB evs m).length (bytes8 (growthB evs m)) ∧ Below w.heap.size w w' := by
  have hdb := dig_bd evs (dep evs.length) 0
  have HM : Hid (growthB evs m = encM 2 m evs.length (dig evs (dep evs.length) 0) (pruneN evs (ruleG m) (dep evs.length) 0)) := rfl
  generalize dig evs (dep evs.length) 0 = g at *
  obtain ⟨t, a, F, rfl, hm, hE, hA, hC⟩ := hV
  subst en
  go_enter Tryz.func61, Tryz.ntmps61
  go_wp2
  go_region_held3 (fun _ => True) (trivial)
    (first
      | (go_at_call 98; refine (growthRule_any _ _).mono ?_; rintro e w1 ⟨R, rfl, hR1, hb1⟩; have hq1 : Below w.heap.size w w1 := below_step ((Below.refl _ _).drew) hb1)
      | (refine Calls.mono (hC.out (ruleG m) R _ hR1) ?_; rintro e w2 ⟨v2, rfl, hN2, hb2⟩; obtain ⟨x2, y2, rfl, hrest⟩ := id hN2; clear hrest; have hq2 : Below w.heap.size w w2 := below_step hq1 hb2))
  all_goals have hs2 := hq2.size
  all_goals clear hm hE hA hC hR1
  all_goals rcases digest_call hD with ⟨x, y, z, hVe⟩ | ⟨x, y, z, hVe⟩ | ⟨x, y, z, u, hVe⟩
  all_goals simp only [Value.iface.injEq] at hVe
  all_goals obtain ⟨rfl, rfl⟩ := hVe
  all_goals go_wp2_with (first
    | (go_at_call 227; refine (leafDigest_any _ _ _ _ _).mono ?_; rintro e w' ⟨rfl, rfl⟩)
    | (go_at_call 232; refine (aloneDigest_any _ _ _ _ _).mono ?_; rintro e w' ⟨rfl, rfl⟩)
    | (go_at_call 240; refine (twoDigest_any _ _ _ _ _ _).mono ?_; rintro e w' ⟨rfl, rfl⟩))
  all_goals refine (wireMessage_any 2 m evs.length g _ _ _ (hN2.keep (keepA _ _)) (small_prune evs (ruleG m) 2 m g (by omega) hm' hdb hn hs) (by omega)).mono ?_
  all_goals rintro e w3 ⟨v3, rfl, hO3, hb3⟩
  all_goals rw [← HM.out] at hO3
  all_goals go_wp2
  all_goals go_ret
  all_goals exact ⟨_, rfl, owns_base hO3 (by simp; omega), (hq2.alloc hs2 _).trans (hb3.mono (by simp; omega))⟩
end Go.Proofs.YtlndinigbppafaaGreat

/-
  The walks of the program's log: what is read of it.
-/
namespace Go.Proofs.YtlndinigbppafaaGreat
open Go.RowKit

/-- Strings as cells. -/
def strs8 (evs : List ByteArray) : List Value := evs.map Value.string
/-- A log that NewLog made, with these events: its own block, its row of events. -/
def LogAt (w : World) (b0 B : Nat) (S : Value) (evs : List ByteArray) : Prop :=
  b0 ≤ B ∧ w.heap[B]? = some (.cells #[.pointer (some ⟨B, 0, none⟩), S] 41 (0, 0)) ∧ w.ownsRow b0 9 1 S evs.length (strs8 evs)

theorem LogAt.below {w w' : World} {b0 B : Nat} {S : Value} {evs : List ByteArray} (h : LogAt w b0 B S evs) (hb : Below w.heap.size w w') : LogAt w' b0 B S evs := by
  obtain ⟨h0, h1, h2⟩ := h
  exact ⟨h0, by rw [hb.block B (lt_of_heap h1)]; exact h1, owns_below h2 hb⟩
theorem LogAt.made {w : World} {b0 B : Nat} {S : Value} {evs : List ByteArray} (h : LogAt w b0 B S evs) : w.cell? ⟨B, 0, none⟩ = some (.pointer (some ⟨B, 0, none⟩)) := by
  rw [cell_of_row _ _ _ _ _ _ h.2.1]; rfl
theorem LogAt.evs {w : World} {b0 B : Nat} {S : Value} {evs : List ByteArray} (h : LogAt w b0 B S evs) : w.cell? ⟨B, 1, none⟩ = some S := by
  rw [cell_of_row _ _ _ _ _ _ h.2.1]; rfl
/-- Its events, and the first n of them. -/
theorem LogAt.slice {w : World} {b0 B : Nat} {S : Value} {evs : List ByteArray} (h : LogAt w b0 B S evs) : ∃ ao cap, S = .slice ao evs.length cap ∧ evs.length ≤ cap ∧ cap ≤ maxLen ∧ ∀ n, n ≤ evs.length → StringsAt w (.slice ao n cap) (evs.take n) := by
  obtain ⟨_, _, h2, h3⟩ := h
  rcases h3 with ⟨rfl, h0⟩ | ⟨g, cap, cur, rfl, _, hgg, hle, hmax, _, htake⟩
  · refine ⟨none, 0, by rw [h0], by omega, by decide, fun n hn => ⟨none, 0, by rw [List.length_take]; congr 1; omega, fun hl => ?_⟩⟩
    rw [List.length_take] at hl; omega
  · refine ⟨_, cap, rfl, hle, hmax, fun n hn => ⟨_, cap, by rw [List.length_take]; congr 1; omega, fun _ => ⟨g, 0, rfl, lt_of_heap hgg, fun j hj => ?_⟩⟩⟩
    rw [List.length_take] at hj
    rw [cell_of_row _ _ _ _ _ _ hgg, Nat.zero_add]
    have h1 : (strs8 evs)[j]? = some (.string evs[j]) := by simp [strs8, show j < evs.length by omega]
    rw [← htake, List.getElem?_take, if_pos (by omega)] at h1
    simpa using h1

theorem Tryz.infoLog : (Tryz.prog.info? 41).map (fun i => i.size) = some 2 := by kernel_rfl
theorem same_ptr (d : Nat) (w : World) (a : Addr) : (Op.equalIn (d + 1) 37 (.pointer (some a)) (.pointer (some a))).run Tryz.prog w = .ok true w := by
  obtain ⟨i, hi, _⟩ : ∃ i, Tryz.prog.info? 41 = some i ∧ i.size = 2 := by
    have h := Tryz.infoLog
    cases e : Tryz.prog.info? 41 with
    | none => rw [e] at h; cases h
    | some i => rw [e] at h; exact ⟨i, rfl, by simpa using h⟩
  simp [Op.equalIn, run_underlying Tryz.underlying37, sizeOf, typeInfo, hi, run_sameAddr_same]
theorem neq_self (w : World) (a : Addr) : (binOp .neq 37 (.pointer (some a)) (.pointer (some a))).run Tryz.prog w = .ok (.bool false) w := by
  have h : (Op.equal 37 (.pointer (some a)) (.pointer (some a))).run Tryz.prog w = .ok true w := same_ptr 9999 w a
  simp only [binOp]
  simp [h]

set_option maxRecDepth 100000 in
set_option maxHeartbeats 400000 in
theorem closed_any (w : World) (b0 B : Nat) (S : Value) (evs : List ByteArray) (h : LogAt w b0 B S evs) :
    Calls Tryz.prog 72 #[.pointer (some ⟨B, 0, none⟩)] w fun e w' => e = .returned (.bool false) ∧ w' = w := by
  have hm := h.made
  have hne := neq_self w ⟨B, 0, none⟩
  go_enter Tryz.func72, Tryz.ntmps72
  go_wp2
  go_ret
  exact ⟨rfl, rfl⟩

set_option maxRecDepth 100000 in
set_option maxHeartbeats 400000 in
theorem len_log (w : World) (b0 B : Nat) (S : Value) (evs : List ByteArray) (h : LogAt w b0 B S evs) :
    Calls Tryz.prog 42 #[.pointer (some ⟨B, 0, none⟩)] w fun e w' => e = .returned (.int .i64 evs.length) ∧ w' = w := by
  have hm := h.evs
  obtain ⟨ao, cap, rfl, hc, _⟩ := h.slice
  go_enter Tryz.func42, Tryz.ntmps42
  go_wp2_with (go_at_call 72; refine (closed_any _ _ _ _ _ h).mono ?_; rintro e w' ⟨rfl, rfl⟩)
  go_ret
  exact ⟨rfl, rfl⟩

set_option maxRecDepth 100000 in
set_option maxHeartbeats 400000 in
theorem check_ok (w : World) (b0 B : Nat) (S : Value) (evs : List ByteArray) (n : Int) (h : LogAt w b0 B S evs) (h1 : 1 ≤ n) (h2 : n ≤ evs.length) :
    Calls Tryz.prog 55 #[.pointer (some ⟨B, 0, none⟩), .int .i64 n] w fun e w' => e = .returned (.int .i64 0) ∧ w' = w := by
  have hm := h.evs
  obtain ⟨ao, cap, rfl, hc, _⟩ := h.slice
  go_enter Tryz.func55, Tryz.ntmps55
  go_wp2_with (go_at_call 72; refine (closed_any _ _ _ _ _ h).mono ?_; rintro e w' ⟨rfl, rfl⟩)
  go_ret
  exact ⟨rfl, rfl⟩

set_option maxRecDepth 100000 in
set_option maxHeartbeats 400000 in
theorem check_no (w : World) (b0 B : Nat) (S : Value) (evs : List ByteArray) (n : Int) (h : LogAt w b0 B S evs) (h1 : n < 1 ∨ (evs.length : Int) < n) :
    Calls Tryz.prog 55 #[.pointer (some ⟨B, 0, none⟩), .int .i64 n] w fun e w' => e = .returned (.int .i64 1) ∧ w' = w := by
  have hm := h.evs
  obtain ⟨ao, cap, rfl, hc, _⟩ := h.slice
  by_cases hn : n < 1
  · go_enter Tryz.func55, Tryz.ntmps55
    go_wp2_with (go_at_call 72; refine (closed_any _ _ _ _ _ h).mono ?_; rintro e w' ⟨rfl, rfl⟩)
    go_ret
    exact ⟨rfl, rfl⟩
  · have hn2 : (evs.length : Int) < n := by omega
    have hn3 : 1 ≤ n := by omega
    go_enter Tryz.func55, Tryz.ntmps55
    go_wp2_with (go_at_call 72; refine (closed_any _ _ _ _ _ h).mono ?_; rintro e w' ⟨rfl, rfl⟩)
    go_ret
    exact ⟨rfl, rfl⟩

set_option maxRecDepth 100000 in
set_option maxHeartbeats 400000 in
theorem version_any (w : World) (b0 B : Nat) (S : Value) (evs : List ByteArray) (n : Nat) (N : Int) (eN : N = n) (h : LogAt w b0 B S evs) (h1 : 1 ≤ n) (h2 : n ≤ evs.length) (hn : evs.length ≤ 65535) (hs : ∀ s ∈ evs, s.size ≤ 255) :
    Calls Tryz.prog 56 #[.pointer (some ⟨B, 0, none⟩), .int .i64 N] w fun e w' => e = .returned (treeV (evs.take n) (dep n) 0) ∧ Below w.heap.size w w' := by
  subst eN
  have hm := h.evs
  obtain ⟨ao, cap, rfl, hc, hmax, hS⟩ := h.slice
  have hv := hS n h2
  have hnc : (n : Int) ≤ (cap : Int) := by omega
  have hl : (evs.take n).length = n := by rw [List.length_take]; omega
  clear hS
  go_enter Tryz.func56, Tryz.ntmps56
  go_wp2_with fail
  refine (Build_any (evs.take n) _ _ (by omega) (by omega) (fun s hm => by have := hs s (List.mem_of_mem_take hm); omega) hv).mono ?_
  rintro e w1 ⟨rfl, hb⟩
  rw [hl]
  go_wp2
  go_ret
  exact ⟨rfl, hb⟩
end Go.Proofs.YtlndinigbppafaaGreat

/-
  The walks of the program's log: Root, Commitment, Member, Growth.
-/
namespace Go.Proofs.YtlndinigbppafaaGreat
open Go.RowKit

theorem take_small {evs : List ByteArray} {n m : Nat} (hs : ∀ s ∈ evs, s.size ≤ m) : ∀ s ∈ evs.take n, s.size ≤ m := fun s h => hs s (List.mem_of_mem_take h)

set_option maxRecDepth 100000 in
set_option maxHeartbeats 400000 in
theorem root_no (w : World) (b0 B : Nat) (S : Value) (evs : List ByteArray) (n : Int) (h : LogAt w b0 B S evs) (hn : n < 1 ∨ (evs.length : Int) < n) :
    Calls Tryz.prog 33 #[.pointer (some ⟨B, 0, none⟩), .int .i64 n] w fun e w' => e = .returned (.tuple #[.int .i64 0, .int .i64 1]) ∧ w' = w := by
  go_enter Tryz.func33, Tryz.ntmps33
  go_wp2_with (go_at_call 55; refine (check_no _ _ _ _ _ _ h hn).mono ?_; rintro e w' ⟨rfl, rfl⟩)
  go_ret2
  exact ⟨rfl, rfl⟩

set_option maxRecDepth 100000 in
set_option maxHeartbeats 1000000 in
theorem root_ok (w : World) (b0 B : Nat) (S : Value) (evs : List ByteArray) (n : Nat) (h : LogAt w b0 B S evs) (h1 : 1 ≤ n) (h2 : n ≤ evs.length) (hn : evs.length ≤ 65535) (hs : ∀ s ∈ evs, s.size ≤ 255) :
    Calls Tryz.prog 33 #[.pointer (some ⟨B, 0, none⟩), .int .i64 n] w fun e w' => e = .returned (.tuple #[.int .i64 (dig (evs.take n) (dep n) 0), .int .i64 0]) ∧ Below w.heap.size w w' := by
  have hV := treeV_node (evs.take n) (dep n) 0
  generalize dig (evs.take n) (dep n) 0 = g at hV ⊢
  go_enter Tryz.func33, Tryz.ntmps33
  go_wp2_with fail
  refine (check_ok _ _ _ _ _ n h (by omega) (by omega)).mono ?_
  rintro e w' ⟨rfl, rfl⟩
  go_wp2_with fail
  refine (version_any _ _ _ _ _ n _ rfl h h1 h2 hn hs).mono ?_
  rintro e w1 ⟨rfl, hb1⟩
  rcases digest_call hV with ⟨x, y, z, hVe⟩ | ⟨x, y, z, hVe⟩ | ⟨x, y, z, u, hVe⟩
  all_goals rw [hVe]
  all_goals clear hVe hV
  all_goals go_wp2_with (first
    | (go_at_call 227; refine (leafDigest_any _ _ _ _ _).mono ?_; rintro e w' ⟨rfl, rfl⟩)
    | (go_at_call 232; refine (aloneDigest_any _ _ _ _ _).mono ?_; rintro e w' ⟨rfl, rfl⟩)
    | (go_at_call 240; refine (twoDigest_any _ _ _ _ _ _).mono ?_; rintro e w' ⟨rfl, rfl⟩))
  all_goals go_ret2
  all_goals exact ⟨rfl, hb1.alloc hb1.size _⟩

set_option maxRecDepth 100000 in
set_option maxHeartbeats 400000 in
theorem commit_no (w : World) (b0 B : Nat) (S : Value) (evs : List ByteArray) (n : Int) (h : LogAt w b0 B S evs) (hn : n < 1 ∨ (evs.length : Int) < n) :
    Calls Tryz.prog 23 #[.pointer (some ⟨B, 0, none⟩), .int .i64 n] w fun e w' => e = .returned (.tuple #[.slice none 0 0, .int .i64 1]) ∧ w' = w := by
  go_enter Tryz.func23, Tryz.ntmps23
  go_wp2_with (go_at_call 55; refine (check_no _ _ _ _ _ _ h hn).mono ?_; rintro e w' ⟨rfl, rfl⟩)
  go_ret2
  exact ⟨rfl, rfl⟩
set_option maxRecDepth 100000 in
set_option maxHeartbeats 400000 in
theorem member_no (w : World) (b0 B : Nat) (S : Value) (evs : List ByteArray) (i n : Int) (h : LogAt w b0 B S evs) (hn : n < 1 ∨ (evs.length : Int) < n) :
    Calls Tryz.prog 26 #[.pointer (some ⟨B, 0, none⟩), .int .i64 i, .int .i64 n] w fun e w' => e = .returned (.tuple #[.slice none 0 0, .int .i64 1]) ∧ w' = w := by
  go_enter Tryz.func26, Tryz.ntmps26
  go_wp2_with (go_at_call 55; refine (check_no _ _ _ _ _ _ h hn).mono ?_; rintro e w' ⟨rfl, rfl⟩)
  go_ret2
  exact ⟨rfl, rfl⟩
set_option maxRecDepth 100000 in
set_option maxHeartbeats 400000 in
theorem growth_no (w : World) (b0 B : Nat) (S : Value) (evs : List ByteArray) (m n : Int) (h : LogAt w b0 B S evs) (hn : n < 1 ∨ (evs.length : Int) < n) :
    Calls Tryz.prog 25 #[.pointer (some ⟨B, 0, none⟩), .int .i64 m, .int .i64 n] w fun e w' => e = .returned (.tuple #[.slice none 0 0, .int .i64 1]) ∧ w' = w := by
  go_enter Tryz.func25, Tryz.ntmps25
  go_wp2_with (go_at_call 55; refine (check_no _ _ _ _ _ _ h hn).mono ?_; rintro e w' ⟨rfl, rfl⟩)
  go_ret2
  exact ⟨rfl, rfl⟩
set_option maxRecDepth 100000 in
set_option maxHeartbeats 400000 in
theorem member_no2 (w : World) (b0 B : Nat) (S : Value) (evs : List ByteArray) (i n : Int) (h : LogAt w b0 B S evs) (h1 : 1 ≤ n) (h2 : n ≤ evs.length) (hi : i < 0 ∨ n ≤ i) :
    Calls Tryz.prog 26 #[.pointer (some ⟨B, 0, none⟩), .int .i64 i, .int .i64 n] w fun e w' => e = .returned (.tuple #[.slice none 0 0, .int .i64 1]) ∧ w' = w := by
  by_cases hi0 : i < 0
  · go_enter Tryz.func26, Tryz.ntmps26
    go_wp2_with (go_at_call 55; refine (check_ok _ _ _ _ _ _ h h1 h2).mono ?_; rintro e w' ⟨rfl, rfl⟩)
    go_ret2
    exact ⟨rfl, rfl⟩
  · have hi1 : n ≤ i := by omega
    have hi2 : 0 ≤ i := by omega
    go_enter Tryz.func26, Tryz.ntmps26
    go_wp2_with (go_at_call 55; refine (check_ok _ _ _ _ _ _ h h1 h2).mono ?_; rintro e w' ⟨rfl, rfl⟩)
    go_ret2
    exact ⟨rfl, rfl⟩
set_option maxRecDepth 100000 in
set_option maxHeartbeats 400000 in
theorem growth_no2 (w : World) (b0 B : Nat) (S : Value) (evs : List ByteArray) (m n : Int) (h : LogAt w b0 B S evs) (h1 : 1 ≤ n) (h2 : n ≤ evs.length) (hi : m < 1 ∨ n < m) :
    Calls Tryz.prog 25 #[.pointer (some ⟨B, 0, none⟩), .int .i64 m, .int .i64 n] w fun e w' => e = .returned (.tuple #[.slice none 0 0, .int .i64 1]) ∧ w' = w := by
  by_cases hi0 : m < 1
  · go_enter Tryz.func25, Tryz.ntmps25
    go_wp2_with (go_at_call 55; refine (check_ok _ _ _ _ _ _ h h1 h2).mono ?_; rintro e w' ⟨rfl, rfl⟩)
    go_ret2
    exact ⟨rfl, rfl⟩
  · have hi1 : n < m := by omega
    have hi2 : 1 ≤ m := by omega
    go_enter Tryz.func25, Tryz.ntmps25
    go_wp2_with (go_at_call 55; refine (check_ok _ _ _ _ _ _ h h1 h2).mono ?_; rintro e w' ⟨rfl, rfl⟩)
    go_ret2
    exact ⟨rfl, rfl⟩

set_option maxRecDepth 100000 in
set_option maxHeartbeats 1000000 in
theorem member_ok (w : World) (b0 B : Nat) (S : Value) (evs : List ByteArray) (i : Int) (n : Nat) (h : LogAt w b0 B S evs) (h1 : 1 ≤ n) (h2 : n ≤ evs.length) (hi0 : 0 ≤ i) (hi1 : i < n) (hn : evs.length ≤ 65535) (hs : ∀ s ∈ evs, s.size ≤ 255) :
    Calls Tryz.prog 26 #[.pointer (some ⟨B, 0, none⟩), .int .i64 i, .int .i64 n] w fun e w' => ∃ v', e = .returned (.tuple #[v', .int .i64 0]) ∧ w'.ownsRow w.heap.size 5 1 v' (memberB (evs.take n) i).length (bytes8 (memberB (evs.take n) i)) ∧ Below w.heap.size w w' := by
  have hl : (evs.take n).length = n := by rw [List.length_take]; omega
  have hP := prunes_tree (evs.take n) (dep n) (dep_le _ 16 (by rw [pw_16]; omega)) 0 (by have : pw (dep n) ≤ 65536 := pw_le (e := 16) (dep_le _ 16 (by rw [pw_16]; omega)); omega)
  have HP : Hid (Prunes (treeV (evs.take n) (dep n) 0) (fun f => pruneN (evs.take n) f (dep (evs.take n).length) 0)) := by rw [hl]; exact hP
  clear hP
  have HL : Hid ((evs.take n).length = n) := hl
  clear hl
  go_enter Tryz.func26, Tryz.ntmps26
  go_wp2_with fail
  refine (check_ok _ _ _ _ _ n h (by omega) (by omega)).mono ?_
  rintro e w' ⟨rfl, rfl⟩
  go_wp2_with fail
  refine (version_any _ _ _ _ _ n _ rfl h h1 h2 hn hs).mono ?_
  rintro e w1 ⟨rfl, hb1⟩
  go_wp2_with fail
  refine (member_any (evs.take n) _ i n _ HP.out ⟨hi0, by omega⟩ (by rw [HL.out]) (by rw [HL.out]; omega) (take_small hs)).mono ?_
  rintro e w2 ⟨v2, rfl, hO2, hb2⟩
  go_wp2
  go_ret2
  exact ⟨_, rfl, owns_base hO2 hb1.size, hb1.trans (hb2.mono hb1.size)⟩

set_option maxRecDepth 100000 in
set_option maxHeartbeats 1000000 in
theorem growth_ok (w : World) (b0 B : Nat) (S : Value) (evs : List ByteArray) (m : Int) (n : Nat) (h : LogAt w b0 B S evs) (h1 : 1 ≤ n) (h2 : n ≤ evs.length) (hi0 : 1 ≤ m) (hi1 : m ≤ n) (hn : evs.length ≤ 65535) (hs : ∀ s ∈ evs, s.size ≤ 255) :
    Calls Tryz.prog 25 #[.pointer (some ⟨B, 0, none⟩), .int .i64 m, .int .i64 n] w fun e w' => ∃ v', e = .returned (.tuple #[v', .int .i64 0]) ∧ w'.ownsRow w.heap.size 5 1 v' (growthB (evs.take n) m).length (bytes8 (growthB (evs.take n) m)) ∧ Below w.heap.size w w' := by
  have hl : (evs.take n).length = n := by rw [List.length_take]; omega
  have hP := prunes_tree (evs.take n) (dep n) (dep_le _ 16 (by rw [pw_16]; omega)) 0 (by have : pw (dep n) ≤ 65536 := pw_le (e := 16) (dep_le _ 16 (by rw [pw_16]; omega)); omega)
  have HP : Hid (Prunes (treeV (evs.take n) (dep n) 0) (fun f => pruneN (evs.take n) f (dep (evs.take n).length) 0)) := by rw [hl]; exact hP
  have HV : Hid (NodeV (dig (evs.take n) (dep (evs.take n).length) 0) (treeV (evs.take n) (dep n) 0)) := by rw [hl]; exact treeV_node _ _ _
  clear hP
  have HL : Hid ((evs.take n).length = n) := hl
  clear hl
  go_enter Tryz.func25, Tryz.ntmps25
  go_wp2_with fail
  refine (check_ok _ _ _ _ _ n h (by omega) (by omega)).mono ?_
  rintro e w' ⟨rfl, rfl⟩
  go_wp2_with fail
  refine (version_any _ _ _ _ _ n _ rfl h h1 h2 hn hs).mono ?_
  rintro e w1 ⟨rfl, hb1⟩
  go_wp2_with fail
  refine (growth_any (evs.take n) _ m n _ HP.out HV.out ⟨by omega, by omega⟩ (by rw [HL.out]) (by rw [HL.out]; omega) (take_small hs)).mono ?_
  rintro e w2 ⟨v2, rfl, hO2, hb2⟩
  go_wp2
  go_ret2
  exact ⟨_, rfl, owns_base hO2 hb1.size, hb1.trans (hb2.mono hb1.size)⟩

set_option maxRecDepth 100000 in
set_option maxHeartbeats 1000000 in
theorem commit_ok (w : World) (b0 B : Nat) (S : Value) (evs : List ByteArray) (n : Nat) (h : LogAt w b0 B S evs) (h1 : 1 ≤ n) (h2 : n ≤ evs.length) (hn : evs.length ≤ 65535) (hs : ∀ s ∈ evs, s.size ≤ 255) :
    Calls Tryz.prog 23 #[.pointer (some ⟨B, 0, none⟩), .int .i64 n] w fun e w' => ∃ v', e = .returned (.tuple #[v', .int .i64 0]) ∧ w'.ownsRow w.heap.size 5 1 v' (commitB (evs.take n)).length (bytes8 (commitB (evs.take n))) ∧ Below w.heap.size w w' := by
  have hl : (evs.take n).length = n := by rw [List.length_take]; omega
  have HM : Hid (commitB (evs.take n) = encM 1 0 n (dig (evs.take n) (dep n) 0) []) := by show commitB _ = _; unfold commitB; rw [hl]
  have hV := treeV_node (evs.take n) (dep n) 0
  have hd := dig_bd (evs.take n) (dep n) 0
  clear hl
  generalize dig (evs.take n) (dep n) 0 = g at hV hd HM
  go_enter Tryz.func23, Tryz.ntmps23
  go_wp2_with fail
  refine (check_ok _ _ _ _ _ n h (by omega) (by omega)).mono ?_
  rintro e w' ⟨rfl, rfl⟩
  go_wp2_with fail
  refine (version_any _ _ _ _ _ n _ rfl h h1 h2 hn hs).mono ?_
  rintro e w1 ⟨rfl, hb1⟩
  have hs1 := hb1.size
  rcases digest_call hV with ⟨x, y, z, hVe⟩ | ⟨x, y, z, hVe⟩ | ⟨x, y, z, u, hVe⟩
  all_goals rw [hVe]
  all_goals clear hVe hV
  all_goals go_wp2_with (first
    | (go_at_call 227; refine (leafDigest_any _ _ _ _ _).mono ?_; rintro e w' ⟨rfl, rfl⟩)
    | (go_at_call 232; refine (aloneDigest_any _ _ _ _ _).mono ?_; rintro e w' ⟨rfl, rfl⟩)
    | (go_at_call 240; refine (twoDigest_any _ _ _ _ _ _).mono ?_; rintro e w' ⟨rfl, rfl⟩))
  all_goals refine (wireMessage_any 1 0 n g _ [] _ ⟨none, 0, rfl, fun _ => rfl, fun hl => (by simp at hl)⟩ ⟨by omega, by omega, by omega, hd, by simp, fun x hx => (by cases hx)⟩ (by omega)).mono ?_
  all_goals rintro e w3 ⟨v3, rfl, hO3, hb3⟩
  all_goals rw [← HM.out] at hO3
  all_goals go_wp2
  all_goals go_ret2
  all_goals exact ⟨_, rfl, owns_base hO3 (by simp; omega), ((hb1.alloc hs1 _).alloc (by simp; omega) _).trans (hb3.mono (by simp; omega))⟩
end Go.Proofs.YtlndinigbppafaaGreat
