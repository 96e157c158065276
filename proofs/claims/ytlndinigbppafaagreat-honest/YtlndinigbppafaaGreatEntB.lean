/-
  The order of events as plain mathematics; a list in order, and where an event belongs.
-/
import Derived.Test.YtlndinigbppafaaGreatEnt
namespace Go.Proofs.YtlndinigbppafaaGreat

theorem cb_vals (a b : List UInt8) : Lib.compareBytes a b = -1 ∨ Lib.compareBytes a b = 0 ∨ Lib.compareBytes a b = 1 := by
  induction a generalizing b with
  | nil => cases b <;> simp [Lib.compareBytes]
  | cons x a ih =>
    cases b with
    | nil => simp [Lib.compareBytes]
    | cons y b =>
      unfold Lib.compareBytes
      split
      · simp
      · split
        · simp
        · exact ih b
theorem cb_zero (a b : List UInt8) : Lib.compareBytes a b = 0 ↔ a = b := by
  induction a generalizing b with
  | nil => cases b <;> simp [Lib.compareBytes]
  | cons x a ih =>
    cases b with
    | nil => simp [Lib.compareBytes]
    | cons y b =>
      unfold Lib.compareBytes
      by_cases h1 : x < y
      · rw [if_pos h1]
        constructor
        · intro h; omega
        · intro h; cases h; exact absurd h1 (by simp)
      · rw [if_neg h1]
        by_cases h2 : y < x
        · rw [if_pos h2]
          constructor
          · intro h; omega
          · intro h; cases h; exact absurd h2 (by simp)
        · rw [if_neg h2, ih]
          have : x = y := UInt8.le_antisymm (UInt8.not_lt.1 h2) (UInt8.not_lt.1 h1)
          subst this
          simp
theorem cb_swap (a b : List UInt8) : Lib.compareBytes b a = -Lib.compareBytes a b := by
  induction a generalizing b with
  | nil => cases b <;> simp [Lib.compareBytes]
  | cons x a ih =>
    cases b with
    | nil => simp [Lib.compareBytes]
    | cons y b =>
      unfold Lib.compareBytes
      by_cases h1 : x < y
      · have h2 : ¬ y < x := fun h => absurd (UInt8.lt_trans h1 h) (by simp)
        rw [if_pos h1, if_neg h2, if_pos h1]; rfl
      · by_cases h2 : y < x
        · simp only [if_neg h1, if_pos h2]
        · rw [if_neg h1, if_neg h2, if_neg h2, if_neg h1, ih]
theorem cb_trans (a b c : List UInt8) (h1 : Lib.compareBytes a b < 0) (h2 : Lib.compareBytes b c < 0) : Lib.compareBytes a c < 0 := by
  induction a generalizing b c with
  | nil =>
    cases c with
    | nil => cases b <;> simp [Lib.compareBytes] at h1 h2
    | cons z c => simp [Lib.compareBytes]
  | cons x a ih =>
    cases b with
    | nil => simp [Lib.compareBytes] at h1
    | cons y b =>
      cases c with
      | nil => simp [Lib.compareBytes] at h2
      | cons z c =>
        unfold Lib.compareBytes at h1 h2 ⊢
        by_cases xy : x < y
        · by_cases yz : y < z
          · rw [if_pos (UInt8.lt_trans xy yz)]; omega
          · rw [if_neg yz] at h2
            by_cases zy : z < y
            · rw [if_pos zy] at h2; omega
            · have : y = z := UInt8.le_antisymm (UInt8.not_lt.1 zy) (UInt8.not_lt.1 yz)
              subst this
              rw [if_pos xy]; omega
        · rw [if_neg xy] at h1
          by_cases yx : y < x
          · rw [if_pos yx] at h1; omega
          · have : x = y := UInt8.le_antisymm (UInt8.not_lt.1 yx) (UInt8.not_lt.1 xy)
            subst this
            rw [if_neg yx] at h1
            by_cases yz : x < z
            · rw [if_pos yz]; omega
            · rw [if_neg yz] at h2 ⊢
              by_cases zy : z < x
              · rw [if_pos zy] at h2; omega
              · rw [if_neg zy] at h2 ⊢
                exact ih b c h1 h2

abbrev Ent := Int × ByteArray
theorem ba_ext {a b : ByteArray} (h : a.data.toList = b.data.toList) : a = b := by
  obtain ⟨⟨l⟩⟩ := a
  obtain ⟨⟨l'⟩⟩ := b
  simp only at h
  rw [h]
theorem ci_vals (x y : Int) : (x < y ∧ Lib.compareInt x y = -1) ∨ (x = y ∧ Lib.compareInt x y = 0) ∨ (y < x ∧ Lib.compareInt x y = 1) := by
  unfold Lib.compareInt
  rcases Int.lt_trichotomy x y with h | h | h
  · left; exact ⟨h, by rw [if_pos h]⟩
  · right; left; exact ⟨h, by rw [if_neg (by omega), if_neg (by omega)]⟩
  · right; right; exact ⟨h, by rw [if_neg (by omega), if_pos (by omega)]⟩
theorem cmpE_lt (x y : Ent) : cmpE x y < 0 ↔ (x.1 < y.1 ∨ (x.1 = y.1 ∧ Lib.compareBytes x.2.data.toList y.2.data.toList < 0)) := by
  unfold cmpE orZ
  rcases ci_vals x.1 y.1 with ⟨h, e⟩ | ⟨h, e⟩ | ⟨h, e⟩
  · rw [e, if_neg (by omega)]; omega
  · rw [e, if_pos rfl]; omega
  · rw [e, if_neg (by omega)]; omega
theorem cmpE_zero (x y : Ent) : cmpE x y = 0 ↔ x = y := by
  unfold cmpE orZ
  obtain ⟨i, s⟩ := x
  obtain ⟨j, t⟩ := y
  rcases ci_vals i j with ⟨h, e⟩ | ⟨h, e⟩ | ⟨h, e⟩
  · simp only; rw [e, if_neg (by omega)]
    constructor
    · intro h; omega
    · intro q; cases q; omega
  · simp only; rw [e, if_pos rfl, cb_zero]
    subst h
    constructor
    · intro q; rw [ba_ext q]
    · intro q; cases q; rfl
  · simp only; rw [e, if_neg (by omega)]
    constructor
    · intro h; omega
    · intro q; cases q; omega
theorem cmpE_trans {x y z : Ent} (h1 : cmpE x y < 0) (h2 : cmpE y z < 0) : cmpE x z < 0 := by
  rw [cmpE_lt] at h1 h2 ⊢
  rcases h1 with h1 | ⟨h1, g1⟩ <;> rcases h2 with h2 | ⟨h2, g2⟩
  · left; omega
  · left; omega
  · left; omega
  · right; exact ⟨by omega, cb_trans _ _ _ g1 g2⟩
theorem cmpE_swap (x y : Ent) : cmpE y x < 0 ↔ 0 < cmpE x y := by
  have h := cmpE_lt y x
  unfold cmpE orZ at h ⊢
  rcases ci_vals x.1 y.1 with ⟨a, e⟩ | ⟨a, e⟩ | ⟨a, e⟩ <;> rcases ci_vals y.1 x.1 with ⟨a', e'⟩ | ⟨a', e'⟩ | ⟨a', e'⟩ <;> rw [e] <;> rw [e'] <;> try omega
  · rw [if_pos rfl, if_pos rfl, cb_swap]; omega
  all_goals (rw [if_neg (by omega), if_neg (by omega)]; omega)

/-- In order, each once. -/
def SortE (l : List Ent) : Prop := ∀ i j (hi : i < l.length) (hj : j < l.length), i < j → cmpE l[i] l[j] < 0
/-- Where an event belongs. -/
def placeE (l : List Ent) (t : Ent) : Nat := (l.takeWhile (fun x => decide (cmpE x t < 0))).length
theorem placeE_le (l : List Ent) (t : Ent) : placeE l t ≤ l.length := (List.takeWhile_sublist _).length_le
/-- An event is laid in its place, once. -/
def hasE (l : List Ent) (t : Ent) : Bool := (l[placeE l t]?).any fun x => cmpE x t == 0
def insE (l : List Ent) (t : Ent) : List Ent := if hasE l t then l else l.take (placeE l t) ++ t :: l.drop (placeE l t)

theorem place_before (l : List Ent) (t : Ent) (k : Nat) (hk : k < placeE l t) (hl : k < l.length) : cmpE l[k] t < 0 := by
  induction l generalizing k with
  | nil => simp at hl
  | cons x l ih =>
    unfold placeE at hk
    rw [List.takeWhile_cons] at hk
    by_cases hx : cmpE x t < 0
    · rw [if_pos (by simpa using hx)] at hk
      cases k with
      | zero => exact hx
      | succ k => exact ih k (by unfold placeE; simpa using hk) (by simpa using hl)
    · rw [if_neg (by simpa using hx)] at hk
      simp at hk
theorem place_at (l : List Ent) (t : Ent) (hl : placeE l t < l.length) : ¬ cmpE l[placeE l t] t < 0 := by
  induction l with
  | nil => simp at hl
  | cons x l ih =>
    unfold placeE at hl ⊢
    by_cases hx : cmpE x t < 0
    · have e : (x :: l).takeWhile (fun x => decide (cmpE x t < 0)) = x :: l.takeWhile (fun x => decide (cmpE x t < 0)) := by rw [List.takeWhile_cons, if_pos (by simpa using hx)]
      simp only [e, List.length_cons, List.getElem_cons_succ] at hl ⊢
      exact ih (by unfold placeE; simpa using hl)
    · have e : (x :: l).takeWhile (fun x => decide (cmpE x t < 0)) = [] := by rw [List.takeWhile_cons, if_neg (by simpa using hx)]
      simp only [e, List.length_nil, List.getElem_cons_zero]
      exact hx
theorem place_behind {l : List Ent} (hs : SortE l) (t : Ent) (k : Nat) (hk : placeE l t ≤ k) (hl : k < l.length) : ¬ cmpE l[k] t < 0 := by
  have h0 := place_at l t (by omega)
  rcases Nat.eq_or_lt_of_le hk with e | h
  · subst e; exact h0
  · exact fun h' => h0 (cmpE_trans (hs _ _ (by omega) hl h) h')
/-- The place is the one ahead of which all are lesser, and behind which none is. -/
theorem place_one {l : List Ent} (hs : SortE l) (t : Ent) (p : Nat) (hp : p ≤ l.length) (h1 : ∀ k (hk : k < l.length), k < p → cmpE l[k] t < 0) (h2 : ∀ k (hk : k < l.length), p ≤ k → ¬ cmpE l[k] t < 0) : p = placeE l t := by
  have hle := placeE_le l t
  rcases Nat.lt_trichotomy p (placeE l t) with h | h | h
  · exact absurd (place_before l t p h (by omega)) (h2 p (by omega) (Nat.le_refl _))
  · exact h
  · exact absurd (h1 (placeE l t) (by omega) h) (place_behind hs t _ (Nat.le_refl _) (by omega))

theorem has_iff {l : List Ent} (hs : SortE l) (t : Ent) : hasE l t = true ↔ t ∈ l := by
  have hle := placeE_le l t
  unfold hasE
  constructor
  · intro h
    rcases Nat.lt_or_ge (placeE l t) l.length with hl | hl
    · rw [List.getElem?_eq_getElem hl] at h
      simp only [Option.any_some, beq_iff_eq] at h
      rw [cmpE_zero] at h
      rw [← h]
      exact List.getElem_mem hl
    · rw [List.getElem?_eq_none hl] at h
      simp at h
  · intro h
    obtain ⟨k, hk, e⟩ := List.getElem_of_mem h
    have hz : cmpE l[k] t = 0 := (cmpE_zero _ _).2 e
    have hp : k = placeE l t := by
      refine place_one hs t k (by omega) (fun j hj hjk => ?_) (fun j hj hjk => ?_)
      · rw [← e]; exact hs j k hj hk hjk
      · rcases Nat.eq_or_lt_of_le hjk with q | q
        · subst q; omega
        · have := hs k j hk hj q
          rw [e] at this
          intro h'
          have := (cmpE_swap l[j] t).1 this
          omega
    subst hp
    rw [List.getElem?_eq_getElem hk]
    simp [hz]
theorem ins_mem {l : List Ent} (hs : SortE l) (t x : Ent) : x ∈ insE l t ↔ x ∈ l ∨ x = t := by
  unfold insE
  by_cases h : hasE l t = true
  · rw [if_pos h]
    have := (has_iff hs t).1 h
    constructor
    · exact .inl
    · rintro (h | rfl)
      · exact h
      · exact this
  · rw [if_neg h]
    have e : l = l.take (placeE l t) ++ l.drop (placeE l t) := (List.take_append_drop _ _).symm
    constructor
    · intro hx
      rcases List.mem_append.1 hx with hx | hx
      · exact .inl (List.mem_of_mem_take hx)
      · rcases List.mem_cons.1 hx with hx | hx
        · exact .inr hx
        · exact .inl (List.mem_of_mem_drop hx)
    · rintro (hx | rfl)
      · rw [e] at hx
        rcases List.mem_append.1 hx with hx | hx
        · exact List.mem_append.2 (.inl hx)
        · exact List.mem_append.2 (.inr (List.mem_cons.2 (.inr hx)))
      · exact List.mem_append.2 (.inr (List.mem_cons.2 (.inl rfl)))
theorem SortE.nil : SortE [] := fun i j hi => by simp at hi
theorem ins_sort {l : List Ent} (hs : SortE l) (t : Ent) : SortE (insE l t) := by
  unfold insE
  by_cases h : hasE l t = true
  · rw [if_pos h]; exact hs
  · rw [if_neg h]
    have hn : t ∉ l := fun q => h ((has_iff hs t).2 q)
    have hle := placeE_le l t
    have hb := fun k hk hl => place_before l t k hk hl
    have ha : ∀ k (hl : k < l.length), placeE l t ≤ k → cmpE t l[k] < 0 := by
      intro k hl hk
      have h1 := place_behind hs t k hk hl
      have h2 : cmpE l[k] t ≠ 0 := fun q => hn (by rw [← (cmpE_zero _ _).1 q]; exact List.getElem_mem hl)
      exact (cmpE_swap l[k] t).2 (by omega)
    generalize placeE l t = p at *
    have hlen : (l.take p ++ t :: l.drop p).length = l.length + 1 := by simp; omega
    have get : ∀ i (hi : i < (l.take p ++ t :: l.drop p).length), (l.take p ++ t :: l.drop p)[i] = if h : i < p then l[i]'(by omega) else if h : i = p then t else l[i - 1]'(by omega) := by
      intro i hi
      by_cases h1 : i < p
      · rw [dif_pos h1, List.getElem_append_left (by simp; omega), List.getElem_take]
      · rw [dif_neg h1, List.getElem_append_right (by simp; omega)]
        have hm : min p l.length = p := by omega
        simp only [List.length_take, hm]
        by_cases h2 : i = p
        · subst h2; simp
        · rw [dif_neg h2]
          obtain ⟨q, hq⟩ : ∃ q, i - p = q + 1 := ⟨i - p - 1, by omega⟩
          simp only [hq, List.getElem_cons_succ, List.getElem_drop]
          congr 1
          omega
    intro i j hi hj hij
    rw [get i hi, get j hj]
    by_cases a : i < p
    · rw [dif_pos a]
      by_cases b : j < p
      · rw [dif_pos b]; exact hs _ _ _ _ hij
      · rw [dif_neg b]
        by_cases c : j = p
        · rw [dif_pos c]; exact hb i a (by omega)
        · rw [dif_neg c]
          exact cmpE_trans (hb i a (by omega)) (ha (j - 1) (by omega) (by omega))
    · rw [dif_neg a, dif_neg (show ¬ j < p by omega), dif_neg (show ¬ j = p by omega)]
      by_cases c : i = p
      · rw [dif_pos c]; exact ha (j - 1) (by omega) (by omega)
      · rw [dif_neg c]; exact hs _ _ _ _ (by omega)
end Go.Proofs.YtlndinigbppafaaGreat
