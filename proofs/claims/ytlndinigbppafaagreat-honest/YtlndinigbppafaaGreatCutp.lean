/-
  A pruned tree's own digest and preimages, and the tree cut to a lesser version: plain mathematics.
-/
import Derived.Test.YtlndinigbppafaaGreatSnd
namespace Go.Proofs.YtlndinigbppafaaGreat

/-- The digest of a tree as it stands. -/
def PT.dS : PT → Int
  | .stub g => g
  | .leaf e => sm (0 :: e.data.toList)
  | .alone c => sm (2 :: two8 c.dS)
  | .two l r => sm (1 :: (two8 l.dS ++ two8 r.dS))
/-- Its preimages. -/
def PT.tS : PT → List (List UInt8)
  | .stub _ => []
  | .leaf e => [0 :: e.data.toList]
  | .alone c => (2 :: two8 c.dS) :: c.tS
  | .two l r => (1 :: (two8 l.dS ++ two8 r.dS)) :: (l.tS ++ r.tS)
/-- The tree for version m. -/
def PT.cut (m : Int) : PT → Nat → Nat → PT
  | .stub g, _, _ => .stub g
  | .leaf e, _, _ => .leaf e
  | .alone c, d, p => .alone (c.cut m (d - 1) p)
  | .two l r, d, p => if dep m.toNat < d then l.cut m (d - 1) p else if m ≤ (p : Int) + pw (d - 1) then .alone (l.cut m (d - 1) p) else .two (l.cut m (d - 1) p) (r.cut m (d - 1) (p + pw (d - 1)))

theorem PT.Sh.own {k M N : Int} {d p : Nat} {t : PT} (h : PT.Sh k M N d p t) : t.dg N d p = t.dS ∧ ∀ y, y ∈ t.tx N d p ↔ y ∈ t.tS := by
  induction h with
  | stub d p g _ _ _ => exact ⟨rfl, fun y => Iff.rfl⟩
  | leaf p e _ _ => exact ⟨rfl, fun y => Iff.rfl⟩
  | two d p a b hk _ _ iha ihb =>
    have hlt := kindOf_two hk
    refine ⟨?_, fun y => ?_⟩
    · simp only [PT.dg, PT.dS, Nat.add_sub_cancel, if_pos hlt, iha.1, ihb.1]
    · simp only [PT.tx, PT.tS, Nat.add_sub_cancel, if_pos hlt, iha.1, ihb.1, List.mem_append, List.mem_cons, iha.2 y, ihb.2 y, List.not_mem_nil, or_false]
      constructor
      · rintro (h | h | h)
        · exact .inr (.inl h)
        · exact .inr (.inr h)
        · exact .inl h
      · rintro (h | h | h)
        · exact .inr (.inr h)
        · exact .inl h
        · exact .inr (.inl h)
  | alone d p a hk _ iha =>
    refine ⟨?_, fun y => ?_⟩
    · simp only [PT.dg, PT.dS, Nat.add_sub_cancel, iha.1]
    · simp only [PT.tx, PT.tS, Nat.add_sub_cancel, iha.1, List.mem_append, List.mem_cons, iha.2 y, List.not_mem_nil, or_false]
      constructor
      · rintro (h | h)
        · exact .inr h
        · exact .inl h
      · rintro (h | h)
        · exact .inr h
        · exact .inl h

theorem PT.cut_low (m : Int) (t : PT) : ∀ (d p : Nat), d ≤ dep m.toNat → (t.cut m d p).dS = t.dg m d p ∧ ∀ y, y ∈ (t.cut m d p).tS ↔ y ∈ t.tx m d p := by
  induction t with
  | stub g => intro d p _; exact ⟨rfl, fun y => Iff.rfl⟩
  | leaf e => intro d p _; exact ⟨rfl, fun y => Iff.rfl⟩
  | alone c ih =>
    intro d p hd
    obtain ⟨h1, h2⟩ := ih (d - 1) p (by omega)
    refine ⟨by simp only [PT.cut, PT.dS, PT.dg, h1], fun y => ?_⟩
    simp only [PT.cut, PT.tS, PT.tx, h1, List.mem_append, List.mem_cons, h2 y, List.not_mem_nil, or_false]
    constructor
    · rintro (h | h)
      · exact .inr h
      · exact .inl h
    · rintro (h | h)
      · exact .inr h
      · exact .inl h
  | two l r ihl ihr =>
    intro d p hd
    obtain ⟨h1, h2⟩ := ihl (d - 1) p (by omega)
    obtain ⟨h3, h4⟩ := ihr (d - 1) (p + pw (d - 1)) (by omega)
    have hn : ¬ dep m.toNat < d := by omega
    by_cases hm : m ≤ (p : Int) + pw (d - 1)
    · have hm2 : ¬ ((p : Int) + pw (d - 1) < m) := by omega
      refine ⟨by simp only [PT.cut, PT.dS, PT.dg, if_neg hn, if_pos hm, if_neg hm2, h1], fun y => ?_⟩
      simp only [PT.cut, PT.tS, PT.tx, if_neg hn, if_pos hm, if_neg hm2, h1, List.mem_append, List.mem_cons, h2 y, List.not_mem_nil, or_false]
      constructor
      · rintro (h | h)
        · exact .inr h
        · exact .inl h
      · rintro (h | h)
        · exact .inr h
        · exact .inl h
    · have hm2 : (p : Int) + pw (d - 1) < m := by omega
      refine ⟨by simp only [PT.cut, PT.dS, PT.dg, if_neg hn, if_neg hm, if_pos hm2, h1, h3], fun y => ?_⟩
      simp only [PT.cut, PT.tS, PT.tx, if_neg hn, if_neg hm, if_pos hm2, h1, h3, List.mem_append, List.mem_cons, h2 y, h4 y, List.not_mem_nil, or_false]
      constructor
      · rintro (h | h | h)
        · exact .inr (.inr h)
        · exact .inl h
        · exact .inr (.inl h)
      · rintro (h | h | h)
        · exact .inr (.inl h)
        · exact .inr (.inr h)
        · exact .inl h

theorem PT.cut_top {m N : Int} (hm : 1 ≤ m) (k : Nat) : ∀ (d : Nat) (t : PT), d = dep m.toNat + k → d ≤ dep N.toNat → PT.Sh 2 m N d 0 t → t.cut m d 0 = (t.left k).cut m (dep m.toNat) 0 := by
  induction k with
  | zero => intro d t hd _ _; rw [hd]; rfl
  | succ k ih =>
    intro d t hd hN hs
    obtain ⟨e, rfl⟩ : ∃ e, d = e + 1 := ⟨d - 1, by omega⟩
    obtain ⟨l, r, rfl, hl⟩ := top_two hm (by omega) hN hs
    rw [PT.cut, if_pos (by omega), Nat.add_sub_cancel]
    exact ih e l (by omega) (by omega) hl

/-- A growth's tree as one for m. -/
theorem growth_cut {x : Msg} (hx : ValidM x) (hk : x.kind = 2) : (x.pt.cut x.m (dep x.n.toNat) 0).dS = wk x x.m ∧ ∀ y, y ∈ (x.pt.cut x.m (dep x.n.toNat) 0).tS ↔ y ∈ wkT x x.m := by
  obtain ⟨hs, _⟩ := hx.pt (by omega)
  rw [hk] at hs
  have hm := hx.g hk
  have hle : dep x.m.toNat ≤ dep x.n.toNat := dep_le _ _ (Nat.le_trans (by omega) (dep_spec x.n.toNat))
  have e := PT.cut_top hm.1 (dep x.n.toNat - dep x.m.toNat) (dep x.n.toNat) x.pt (by omega) (Nat.le_refl _) hs
  rw [e]
  exact PT.cut_low x.m _ (dep x.m.toNat) 0 (Nat.le_refl _)
theorem proof_own {x : Msg} (hx : ValidM x) (hk : x.kind ≠ 1) : x.pt.dS = wk x x.n ∧ ∀ y, y ∈ x.pt.tS ↔ y ∈ wkT x x.n := by
  obtain ⟨hs, _⟩ := hx.pt hk
  obtain ⟨h1, h2⟩ := hs.own
  unfold wk wkT
  rw [Nat.sub_self]
  exact ⟨h1.symm, fun y => (h2 y).symm⟩
end Go.Proofs.YtlndinigbppafaaGreat
