/-
  The walks of the program's member and growth: the proofs of a version.
-/
import Derived.Test.YtlndinigbppafaaTreeH
namespace Go.Proofs.Ytlndinigbppafaa
open Go.RowKit

theorem evAt_le (evs : List ByteArray) (p m : Nat) (h : ∀ s ∈ evs, s.size ≤ m) : (evAt evs p).size ≤ m := by
  unfold evAt
  rcases Nat.lt_or_ge p evs.length with hp | hp
  · rw [List.getElem?_eq_getElem hp]; exact h _ (List.getElem_mem hp)
  · rw [List.getElem?_eq_none hp]; exact Nat.zero_le _
theorem pruneN_small (evs : List ByteArray) (f : Nat → Nat → Bool) (h : ∀ s ∈ evs, s.size ≤ 255) (d p : Nat) : ∀ x ∈ pruneN evs f d p, (0 ≤ x.kind ∧ x.kind ≤ 255) ∧ (0 ≤ x.dig ∧ x.dig ≤ 65535) ∧ x.ev.size ≤ 255 := by
  have e0 : ByteArray.empty.size = 0 := rfl
  induction d generalizing p with
  | zero =>
    intro x hx
    have h1 := dig_bd evs 0 p
    have h2 := evAt_le evs p 255 h
    unfold pruneN at hx
    split at hx
    · simp at hx; subst hx; exact ⟨by simp, h1, by show ByteArray.empty.size ≤ 255; omega⟩
    · simp at hx; subst hx; exact ⟨by simp, by simp, h2⟩
  | succ d ih =>
    intro x hx
    have h1 := dig_bd evs (d + 1) p
    unfold pruneN at hx
    split at hx
    · simp at hx; subst hx; exact ⟨by simp, h1, by show ByteArray.empty.size ≤ 255; omega⟩
    · split at hx
      · simp only [List.mem_cons, List.mem_append] at hx
        rcases hx with rfl | hx | hx
        · exact ⟨by simp, by simp, by show ByteArray.empty.size ≤ 255; omega⟩
        · exact ih p x hx
        · exact ih _ x hx
      · simp only [List.mem_cons] at hx
        rcases hx with rfl | hx
        · exact ⟨by simp, by simp, by show ByteArray.empty.size ≤ 255; omega⟩
        · exact ih p x hx

/-- A member proof's bytes. -/
def memberB (evs : List ByteArray) (i : Int) : List UInt8 := encM 3 i evs.length 0 (pruneN evs (ruleM i) (dep evs.length) 0)
/-- A growth proof's bytes. -/
def growthB (evs : List ByteArray) (m : Int) : List UInt8 := encM 2 m evs.length (dig evs (dep evs.length) 0) (pruneN evs (ruleG m) (dep evs.length) 0)
/-- A commitment's bytes. -/
def commitB (evs : List ByteArray) : List UInt8 := encM 1 0 evs.length (dig evs (dep evs.length) 0) []

theorem small_prune (evs : List ByteArray) (f : Nat → Nat → Bool) (k M R : Int) (hk : 0 ≤ k ∧ k ≤ 255) (hM : 0 ≤ M ∧ M ≤ 65535) (hR : 0 ≤ R ∧ R ≤ 65535) (hn : evs.length ≤ 65535) (hs : ∀ s ∈ evs, s.size ≤ 255) : SmallM k M evs.length R (pruneN evs f (dep evs.length) 0) := by
  refine ⟨hk, hM, ⟨by omega, by omega⟩, hR, ?_, pruneN_small evs f hs _ _⟩
  have h1 := pruneN_len evs f (dep evs.length) 0
  have h2 : pw (dep evs.length) ≤ 65536 := pw_le (e := 16) (dep_le _ 16 (by rw [pw_16]; omega))
  omega

set_option maxRecDepth 100000 in
set_option maxHeartbeats 1000000 in
theorem member_any (evs : List ByteArray) (V : Value) (i n : Int) (w : World) (hV : Prunes V (fun f => pruneN evs f (dep evs.length) 0)) (hi : 0 ≤ i ∧ i ≤ 65535) (en : n = evs.length) (hn : evs.length ≤ 65535) (hs : ∀ s ∈ evs, s.size ≤ 255) :
    Calls Try.prog 45 #[V, .int .i64 i, .int .i64 n] w fun e w' => ∃ v', e = .returned v' ∧ w'.ownsRow w.heap.size 5 1 v' (memberB evs i).length (bytes8 (memberB evs i)) ∧ Below w.heap.size w w' := by
  obtain ⟨t, a, F, rfl, hm, hE, hA, hC⟩ := hV
  subst en
  go_enter Try.func45, Try.ntmps45
  go_wp2
  go_region_held3 (fun _ => True) (trivial)
    (first
      | (go_at_call 63; refine (memberRule_any _ _).mono ?_; rintro e w1 ⟨R, rfl, hR1, hb1⟩; have hq1 : Below w.heap.size w w1 := below_step ((Below.refl _ _).drew) hb1)
      | (refine Calls.mono (hC.out (ruleM i) R _ hR1) ?_; rintro e w2 ⟨v2, rfl, hN2, hb2⟩; obtain ⟨x2, y2, rfl, hrest⟩ := id hN2; clear hrest; have hq2 : Below w.heap.size w w2 := below_step hq1 hb2))
  all_goals go_wp2_with fail
  all_goals refine (wireMessage_any 3 i evs.length 0 _ _ _ hN2 (small_prune evs (ruleM i) 3 i 0 (by omega) hi (by omega) hn hs) (by omega)).mono ?_
  all_goals rintro e w3 ⟨v3, rfl, hO3, hb3⟩
  all_goals go_wp2
  all_goals go_ret
  all_goals exact ⟨_, rfl, owns_base hO3 hq2.size, hq2.trans (hb3.mono hq2.size)⟩

set_option maxRecDepth 100000 in
set_option maxHeartbeats 1000000 in
theorem growth_any (evs : List ByteArray) (V : Value) (m n : Int) (w : World) (hV : Prunes V (fun f => pruneN evs f (dep evs.length) 0)) (hD : NodeV (dig evs (dep evs.length) 0) V) (hm' : 0 ≤ m ∧ m ≤ 65535) (en : n = evs.length) (hn : evs.length ≤ 65535) (hs : ∀ s ∈ evs, s.size ≤ 255) :
    Calls Try.prog 43 #[V, .int .i64 m, .int .i64 n] w fun e w' => ∃ v', e = .returned v' ∧ w'.ownsRow w.heap.size 5 1 v' (growthB evs m).length (bytes8 (growthB evs m)) ∧ Below w.heap.size w w' := by
  have hdb := dig_bd evs (dep evs.length) 0
  have HM : Hid (growthB evs m = encM 2 m evs.length (dig evs (dep evs.length) 0) (pruneN evs (ruleG m) (dep evs.length) 0)) := rfl
  generalize dig evs (dep evs.length) 0 = g at *
  obtain ⟨t, a, F, rfl, hm, hE, hA, hC⟩ := hV
  subst en
  go_enter Try.func43, Try.ntmps43
  go_wp2
  go_region_held3 (fun _ => True) (trivial)
    (first
      | (go_at_call 61; refine (growthRule_any _ _).mono ?_; rintro e w1 ⟨R, rfl, hR1, hb1⟩; have hq1 : Below w.heap.size w w1 := below_step ((Below.refl _ _).drew) hb1)
      | (refine Calls.mono (hC.out (ruleG m) R _ hR1) ?_; rintro e w2 ⟨v2, rfl, hN2, hb2⟩; obtain ⟨x2, y2, rfl, hrest⟩ := id hN2; clear hrest; have hq2 : Below w.heap.size w w2 := below_step hq1 hb2))
  all_goals have hs2 := hq2.size
  all_goals clear hm hE hA hC hR1
  all_goals rcases digest_call hD with ⟨x, y, z, hVe⟩ | ⟨x, y, z, hVe⟩ | ⟨x, y, z, u, hVe⟩
  all_goals simp only [Value.iface.injEq] at hVe
  all_goals obtain ⟨rfl, rfl⟩ := hVe
  all_goals go_wp2_with (first
    | (go_at_call 132; refine (leafDigest_any _ _ _ _ _).mono ?_; rintro e w' ⟨rfl, rfl⟩)
    | (go_at_call 137; refine (aloneDigest_any _ _ _ _ _).mono ?_; rintro e w' ⟨rfl, rfl⟩)
    | (go_at_call 143; refine (twoDigest_any _ _ _ _ _ _).mono ?_; rintro e w' ⟨rfl, rfl⟩))
  all_goals refine (wireMessage_any 2 m evs.length g _ _ _ (hN2.keep (keepA _ _)) (small_prune evs (ruleG m) 2 m g (by omega) hm' hdb hn hs) (by omega)).mono ?_
  all_goals rintro e w3 ⟨v3, rfl, hO3, hb3⟩
  all_goals rw [← HM.out] at hO3
  all_goals go_wp2
  all_goals go_ret
  all_goals exact ⟨_, rfl, owns_base hO3 (by simp; omega), (hq2.alloc hs2 _).trans (hb3.mono (by simp; omega))⟩
end Go.Proofs.Ytlndinigbppafaa
