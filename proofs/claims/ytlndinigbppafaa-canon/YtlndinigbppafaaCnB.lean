/-
  A log's member and growth proofs are messages that may be, as plain mathematics.
-/
import Derived.Test.YtlndinigbppafaaDec
import Derived.Test.YtlndinigbppafaaLogA
namespace Go.Proofs.Ytlndinigbppafaa

theorem kind_zero {k M N : Int} {p d : Nat} (h : (if k = 2 then ((p : Int) + pw d ≤ M ∨ M ≤ p) else (M < p ∨ (p : Int) + pw d ≤ M))) : kindOf k M N p d = 0 := by
  unfold kindOf; rw [if_pos h]
theorem kind_leaf {k M N : Int} {p : Nat} (h : ¬ (if k = 2 then ((p : Int) + pw 0 ≤ M ∨ M ≤ p) else (M < p ∨ (p : Int) + pw 0 ≤ M))) : kindOf k M N p 0 = 1 := by
  unfold kindOf; rw [if_neg h, if_pos rfl]
theorem kind_two {k M N : Int} {p d : Nat} (h : ¬ (if k = 2 then ((p : Int) + pw (d + 1) ≤ M ∨ M ≤ p) else (M < p ∨ (p : Int) + pw (d + 1) ≤ M))) (h2 : (p : Int) + pw d < N) : kindOf k M N p (d + 1) = 2 := by
  unfold kindOf; rw [if_neg h, if_neg (by omega), if_pos (by simpa using h2)]
theorem kind_alone {k M N : Int} {p d : Nat} (h : ¬ (if k = 2 then ((p : Int) + pw (d + 1) ≤ M ∨ M ≤ p) else (M < p ∨ (p : Int) + pw (d + 1) ≤ M))) (h2 : ¬ (p : Int) + pw d < N) : kindOf k M N p (d + 1) = 3 := by
  unfold kindOf; rw [if_neg h, if_neg (by omega), if_neg (by simpa using h2)]

/-- What a proof tells of a tree is of the proof's shape. -/
theorem prune_shp (evs : List ByteArray) (hs : ∀ s ∈ evs, s.size ≤ 50) (k M : Int) (f : Nat → Nat → Bool)
    (hf : ∀ p d : Nat, f p d = true ↔ (if k = 2 then ((p : Int) + pw d ≤ M ∨ M ≤ p) else (M < p ∨ (p : Int) + pw d ≤ M))) (d p : Nat) : Shp k M evs.length d p (pruneN evs f d p) := by
  induction d generalizing p with
  | zero =>
    unfold pruneN
    split
    · rename_i h
      have := dig_bd evs 0 p
      exact .stub 0 p _ (kind_zero ((hf p 0).1 h)) this.1 this.2
    · rename_i h
      exact .leaf p _ (kind_leaf (fun h' => h ((hf p 0).2 h'))) (evAt_le evs p 50 hs)
  | succ d ih =>
    unfold pruneN
    split
    · rename_i h
      have := dig_bd evs (d + 1) p
      exact .stub (d + 1) p _ (kind_zero ((hf p (d + 1)).1 h)) this.1 this.2
    · rename_i h
      have hn : ¬ (if k = 2 then ((p : Int) + pw (d + 1) ≤ M ∨ M ≤ p) else (M < p ∨ (p : Int) + pw (d + 1) ≤ M)) := fun h' => h ((hf p (d + 1)).2 h')
      split
      · rename_i h2
        exact .two d p _ _ (kind_two hn (by omega)) (ih p) (ih (p + pw d))
      · rename_i h2
        exact .alone d p _ (kind_alone hn (by omega)) (ih p)

theorem ruleM_iff (i : Int) (p d : Nat) : ruleM i p d = true ↔ (if (3 : Int) = 2 then ((p : Int) + pw d ≤ i ∨ i ≤ p) else (i < p ∨ (p : Int) + pw d ≤ i)) := by
  rw [if_neg (by omega)]
  unfold ruleM
  simp only [Bool.or_eq_true, Bool.not_eq_true', decide_eq_false_iff_not]
  omega
theorem ruleG_iff (m : Int) (p d : Nat) : ruleG m p d = true ↔ (if (2 : Int) = 2 then ((p : Int) + pw d ≤ m ∨ m ≤ p) else (m < p ∨ (p : Int) + pw d ≤ m)) := by
  rw [if_pos rfl]
  unfold ruleG
  simp only [Bool.or_eq_true, decide_eq_true_eq]
  omega

/-- A member proof's value. -/
def memberM (evs : List ByteArray) (i : Int) : Msg := ⟨3, i, evs.length, 0, pruneN evs (ruleM i) (dep evs.length) 0⟩
/-- A growth proof's value. -/
def growthM (evs : List ByteArray) (m : Int) : Msg := ⟨2, m, evs.length, dig evs (dep evs.length) 0, pruneN evs (ruleG m) (dep evs.length) 0⟩
/-- A commitment's value. -/
def commitM (evs : List ByteArray) : Msg := ⟨1, 0, evs.length, dig evs (dep evs.length) 0, []⟩

theorem memberB_eq (evs : List ByteArray) (i : Int) : memberB evs i = encV (memberM evs i) := rfl
theorem growthB_eq (evs : List ByteArray) (m : Int) : growthB evs m = encV (growthM evs m) := rfl
theorem commitB_eq (evs : List ByteArray) : commitB evs = encV (commitM evs) := rfl

theorem member_valid (evs : List ByteArray) (i : Int) (hs : ∀ s ∈ evs, s.size ≤ 50) (hi : 0 ≤ i ∧ i < evs.length) (hn : evs.length ≤ 500) : ValidM (memberM evs i) := by
  refine ⟨.inr (.inr rfl), ⟨?_, ?_⟩, ⟨?_, ?_⟩, fun h => ?_, fun h => ?_, fun _ => ⟨hi.1, hi.2, rfl⟩, fun _ => ?_⟩
  · show (1 : Int) ≤ (evs.length : Int); omega
  · show (evs.length : Int) ≤ 500; omega
  · show (0 : Int) ≤ 0; omega
  · show (0 : Int) ≤ 65535; omega
  · exact absurd (show (3 : Int) = 1 from h) (by omega)
  · exact absurd (show (3 : Int) = 2 from h) (by omega)
  · show Shp 3 i evs.length (dep (evs.length : Int).toNat) 0 _
    rw [Int.toNat_natCast]
    exact prune_shp evs hs 3 i _ (ruleM_iff i) _ _
theorem growth_valid (evs : List ByteArray) (m : Int) (hs : ∀ s ∈ evs, s.size ≤ 50) (hm : 1 ≤ m ∧ m ≤ evs.length) (hn : evs.length ≤ 500) : ValidM (growthM evs m) := by
  refine ⟨.inr (.inl rfl), ⟨?_, ?_⟩, dig_bd evs _ _, fun h => ?_, fun _ => hm, fun h => ?_, fun _ => ?_⟩
  · show (1 : Int) ≤ (evs.length : Int); omega
  · show (evs.length : Int) ≤ 500; omega
  · exact absurd (show (2 : Int) = 1 from h) (by omega)
  · exact absurd (show (2 : Int) = 3 from h) (by omega)
  · show Shp 2 m evs.length (dep (evs.length : Int).toNat) 0 _
    rw [Int.toNat_natCast]
    exact prune_shp evs hs 2 m _ (ruleG_iff m) _ _
theorem commit_valid (evs : List ByteArray) (h1 : 1 ≤ evs.length) (hn : evs.length ≤ 500) : ValidM (commitM evs) := by
  refine ⟨.inl rfl, ⟨?_, ?_⟩, dig_bd evs _ _, fun _ => ⟨rfl, rfl⟩, fun h => ?_, fun h => ?_, fun h => absurd rfl h⟩
  · show (1 : Int) ≤ (evs.length : Int); omega
  · show (evs.length : Int) ≤ 500; omega
  · exact absurd (show (1 : Int) = 2 from h) (by omega)
  · exact absurd (show (1 : Int) = 3 from h) (by omega)

/-- A message that may be is far shorter than MaxMessage. -/
theorem ValidM.short {x : Msg} (h : ValidM x) : 0 < (encV x).length ∧ (encV x).length ≤ 200 := by
  unfold encV encM
  have h1 := encH_le x.kind x.m x.n x.root
  rw [List.length_append]
  have h0 : 0 < (encH x.kind x.m x.n x.root).length := by unfold encH; simp
  refine ⟨by omega, ?_⟩
  by_cases hk : x.kind = 1
  · rw [(h.c hk).2]
    have e : (encNs ([] : List PN)).length = 0 := rfl
    omega
  · have := shp_len (h.t hk)
    have := dep_500 x.n h.n.2
    omega
end Go.Proofs.Ytlndinigbppafaa
