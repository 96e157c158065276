/-
  Texts with one sum, the two least of each sum: plain mathematics.
-/
import Derived.Test.YtlndinigbppafaaGreatEntB
namespace Go.Proofs.YtlndinigbppafaaGreat

theorem cb_cons (a b : UInt8) (x y : List UInt8) : Lib.compareBytes (a :: x) (b :: y) = if a < b then -1 else if b < a then 1 else Lib.compareBytes x y := by rw [Lib.compareBytes]
theorem less_cb : ∀ (x y : List UInt8), Op.bytesLess x y = decide (Lib.compareBytes x y < 0)
  | [], [] => by simp [Op.bytesLess, Lib.compareBytes]
  | _ :: _, [] => by simp [Op.bytesLess, Lib.compareBytes]
  | [], _ :: _ => by simp [Op.bytesLess, Lib.compareBytes]
  | a :: x, b :: y => by
    rw [Op.bytesLess, less_cb x y, cb_cons]
    by_cases h1 : a < b
    · simp [h1]
    · by_cases h2 : b < a
      · have h3 : a ≠ b := fun e => by subst e; exact absurd h2 (by simp)
        simp [h1, h2, h3]
      · have h3 : a = b := UInt8.le_antisymm (UInt8.not_lt.1 h2) (UInt8.not_lt.1 h1)
        simp [h3]

/-- The order of texts. -/
def ltB (a b : ByteArray) : Prop := Lib.compareBytes a.data.toList b.data.toList < 0
instance (a b : ByteArray) : Decidable (ltB a b) := inferInstanceAs (Decidable (_ < _))
theorem less_lt (a b : ByteArray) : Op.bytesLess a.toList b.toList = decide (ltB a b) := by
  rw [less_cb, Lib.toList_data, Lib.toList_data]; rfl
theorem ltB_trans {a b c : ByteArray} (h1 : ltB a b) (h2 : ltB b c) : ltB a c := cb_trans _ _ _ h1 h2
theorem ltB_irrefl (a : ByteArray) : ¬ ltB a a := by
  unfold ltB; rw [(cb_zero _ _).2 rfl]; omega
theorem ltB_tri {a b : ByteArray} (h1 : ¬ ltB a b) (h2 : a ≠ b) : ltB b a := by
  unfold ltB at *
  have h3 := cb_swap a.data.toList b.data.toList
  rcases cb_vals a.data.toList b.data.toList with h | h | h
  · omega
  · exact absurd (ba_ext ((cb_zero _ _).1 h)) h2
  · omega

/-- The texts of one sum that are kept. -/
structure TOK (s : Int) (l : List ByteArray) : Prop where
  len : l.length ≤ 2
  sums : ∀ x ∈ l, sm x.data.toList = s
  ord : l.Pairwise ltB
  short : ∀ x ∈ l, x.size ≤ 1000000

/-- Where a text belongs. -/
structure Srch (l : List ByteArray) (t : ByteArray) (p : Nat) (k : Bool) : Prop where
  le : p ≤ l.length
  below : ∀ i (h : i < l.length), i < p → ltB l[i] t
  above : ∀ i (h : i < l.length), p ≤ i → ¬ ltB l[i] t
  known : k = true ↔ ∃ h : p < l.length, l[p] = t

/-- What is kept then. -/
def newT (l : List ByteArray) (t : ByteArray) (p : Nat) (k : Bool) : List ByteArray := if k = true ∨ 2 ≤ p then l else (l.take p ++ t :: l.drop p).take 2

theorem newT_ok {s : Int} {l : List ByteArray} {t : ByteArray} {p : Nat} {k : Bool} (h : TOK s l) (ht : sm t.data.toList = s) (hts : t.size ≤ 1000000) (hs : Srch l t p k) :
    TOK s (newT l t p k) ∧ 1 ≤ (newT l t p k).length ∧ (t ∈ newT l t p k ∨ (newT l t p k).length = 2) ∧ (∀ x ∈ l, x ∈ newT l t p k ∨ (newT l t p k).length = 2) ∧ (∀ x ∈ newT l t p k, x ∈ l ∨ x = t) := by
  obtain ⟨hl, hsum, ho, hsh⟩ := h
  obtain ⟨hp, hb, ha, hk⟩ := hs
  unfold newT
  by_cases hk1 : k = true
  · obtain ⟨hpl, he⟩ := hk.1 hk1
    rw [if_pos (.inl hk1)]
    exact ⟨⟨hl, hsum, ho, hsh⟩, by omega, .inl (he ▸ List.getElem_mem hpl), fun x hx => .inl hx, fun x hx => .inl hx⟩
  · by_cases hp2 : 2 ≤ p
    · rw [if_pos (.inr hp2)]
      exact ⟨⟨hl, hsum, ho, hsh⟩, by omega, .inr (by omega), fun x hx => .inl hx, fun x hx => .inl hx⟩
    · rw [if_neg (by simp only [not_or]; exact ⟨hk1, hp2⟩)]
      have hne : ∀ (h : p < l.length), l[p] ≠ t := fun h e => hk1 (hk.2 ⟨h, e⟩)
      have hboth : ∀ x ∈ (l.take p ++ t :: l.drop p).take 2, sm x.data.toList = s ∧ x.size ≤ 1000000 := by
        intro x hx
        have hx2 := List.mem_of_mem_take hx
        rcases List.mem_append.1 hx2 with hx2 | hx2
        · have := List.mem_of_mem_take hx2
          exact ⟨hsum x this, hsh x this⟩
        · rcases List.mem_cons.1 hx2 with rfl | hx2
          · exact ⟨ht, hts⟩
          · have := List.mem_of_mem_drop hx2
            exact ⟨hsum x this, hsh x this⟩
      have hfrom : ∀ x ∈ (l.take p ++ t :: l.drop p).take 2, x ∈ l ∨ x = t := by
        intro x hx
        rcases List.mem_append.1 (List.mem_of_mem_take hx) with hx2 | hx2
        · exact .inl (List.mem_of_mem_take hx2)
        · rcases List.mem_cons.1 hx2 with rfl | hx2
          · exact .inr rfl
          · exact .inl (List.mem_of_mem_drop hx2)
      suffices hord : ((l.take p ++ t :: l.drop p).take 2).Pairwise ltB ∧ 1 ≤ ((l.take p ++ t :: l.drop p).take 2).length ∧ (t ∈ (l.take p ++ t :: l.drop p).take 2 ∨ ((l.take p ++ t :: l.drop p).take 2).length = 2) ∧ (∀ x ∈ l, x ∈ (l.take p ++ t :: l.drop p).take 2 ∨ ((l.take p ++ t :: l.drop p).take 2).length = 2) from
        ⟨⟨by rw [List.length_take]; omega, fun x hx => (hboth x hx).1, hord.1, fun x hx => (hboth x hx).2⟩, hord.2.1, hord.2.2.1, hord.2.2.2, hfrom⟩
      match l, hl, hp, hb, ha, hne with
      | [], _, hp, _, _, _ =>
        have : p = 0 := by simpa using hp
        subst this
        exact ⟨by simp, by simp, .inl (by simp), by simp⟩
      | [a], _, hp, hb, ha, hne =>
        rcases (show p = 0 ∨ p = 1 by simp at hp; omega) with rfl | rfl
        · have h1 : ltB t a := ltB_tri (ha 0 (by simp) (by omega)) (hne (by simp))
          exact ⟨by simp [h1], by simp, .inl (by simp), by simp⟩
        · have h1 : ltB a t := hb 0 (by simp) (by omega)
          exact ⟨by simp [h1], by simp, .inl (by simp), by simp⟩
      | [a, b], _, hp, hb, ha, hne =>
        rcases (show p = 0 ∨ p = 1 by omega) with rfl | rfl
        · have h1 : ltB t a := ltB_tri (ha 0 (by simp) (by omega)) (hne (by simp))
          exact ⟨by simp [h1], by simp, .inl (by simp), by simp⟩
        · have h1 : ltB a t := hb 0 (by simp) (by omega)
          exact ⟨by simp [h1], by simp, .inl (by simp), by simp⟩

/-- A slice's parts. -/
abbrev Sl := Option Addr × Nat × Nat
/-- A sum, the slice of its row of texts, the texts. -/
abbrev Fam := Int × Sl × List ByteArray
structure FOK (l : List Fam) (TL : List (List UInt8)) : Prop where
  ord : l.Pairwise (fun f g => f.1 < g.1)
  each : ∀ f ∈ l, TOK f.1 f.2.2 ∧ 1 ≤ f.2.2.length
  cov : ∀ t ∈ TL, ∃ f ∈ l, f.1 = sm t ∧ ((∃ x ∈ f.2.2, x.data.toList = t) ∨ f.2.2.length = 2)
  src : ∀ f ∈ l, ∀ x ∈ f.2.2, x.data.toList ∈ TL

theorem FOK.nil : FOK [] [] := ⟨.nil, by simp, by simp, by simp⟩
theorem FOK.bd {l : List Fam} {TL : List (List UInt8)} (h : FOK l TL) : ∀ f ∈ l, 0 ≤ f.1 ∧ f.1 ≤ 65520 := by
  intro f hf
  obtain ⟨h1, h2⟩ := h.each f hf
  rw [← h1.sums _ (List.getElem_mem (by omega : 0 < f.2.2.length))]
  exact sm_bd _
theorem pairs_len (l : List Fam) (lo hi : Int) (ho : l.Pairwise (fun f g => f.1 < g.1)) (hb : ∀ f ∈ l, lo ≤ f.1 ∧ f.1 ≤ hi) : l = [] ∨ (l.length : Int) ≤ hi - lo + 1 := by
  induction l generalizing lo with
  | nil => exact .inl rfl
  | cons f l ih =>
    right
    rw [List.pairwise_cons] at ho
    have h1 := hb f (by simp)
    rcases ih (f.1 + 1) ho.2 (fun g hg => ⟨by have := ho.1 g hg; omega, (hb g (by simp [hg])).2⟩) with h | h
    · subst h; simp; omega
    · simp; omega
theorem FOK.len {l : List Fam} {TL : List (List UInt8)} (h : FOK l TL) : l.length ≤ 65521 := by
  rcases pairs_len l 0 65520 h.ord h.bd with h | h
  · subst h; simp
  · omega
/-- A text more. -/
theorem FOK.add {A M B : List Fam} {TL : List (List UInt8)} {s : Int} {v : Sl} {T : List ByteArray} {t : ByteArray} (h : FOK (A ++ (M ++ B)) TL) (hA : ∀ f ∈ A, f.1 < s) (hB : ∀ f ∈ B, s < f.1)
    (hT : TOK s T) (h1 : 1 ≤ T.length) (ht : sm t.data.toList = s) (h2 : t ∈ T ∨ T.length = 2) (hM : ∀ f ∈ M, f.1 = s ∧ ∀ x ∈ f.2.2, x ∈ T ∨ T.length = 2) (hM2 : ∀ f ∈ M, f.2.2.length = 2 → T.length = 2) (hTs : ∀ x ∈ T, x = t ∨ ∃ f ∈ M, x ∈ f.2.2) :
    FOK (A ++ (s, v, T) :: B) (TL ++ [t.data.toList]) := by
  obtain ⟨ho, he, hc, hsrc⟩ := h
  rw [List.pairwise_append] at ho
  obtain ⟨oA, oMB, oAB⟩ := ho
  rw [List.pairwise_append] at oMB
  refine ⟨?_, ?_, ?_, ?_⟩
  · rw [List.pairwise_append]
    refine ⟨oA, List.pairwise_cons.2 ⟨fun g hg => hB g hg, oMB.2.1⟩, fun f hf g hg => ?_⟩
    rcases List.mem_cons.1 hg with rfl | hg
    · exact hA f hf
    · exact oAB f hf g (by simp [hg])
  · intro f hf
    rcases List.mem_append.1 hf with hf | hf
    · exact he f (by simp [hf])
    · rcases List.mem_cons.1 hf with rfl | hf
      · exact ⟨hT, h1⟩
      · exact he f (by simp [hf])
  · intro u hu
    rcases List.mem_append.1 hu with hu | hu
    · obtain ⟨f, hf, e, hx⟩ := hc u hu
      rcases List.mem_append.1 hf with hf | hf
      · exact ⟨f, by simp [hf], e, hx⟩
      · rcases List.mem_append.1 hf with hf | hf
        · obtain ⟨e2, hx2⟩ := hM f hf
          refine ⟨(s, v, T), by simp, by rw [← e2]; exact e, ?_⟩
          rcases hx with ⟨x, hx, ex⟩ | hx
          · rcases hx2 x hx with h | h
            · exact .inl ⟨x, h, ex⟩
            · exact .inr h
          · exact .inr (hM2 f hf hx)
        · exact ⟨f, by simp [hf], e, hx⟩
    · simp at hu
      subst hu
      refine ⟨(s, v, T), by simp, ht.symm, ?_⟩
      rcases h2 with h | h
      · exact .inl ⟨t, h, rfl⟩
      · exact .inr h
  · intro f hf x hx
    rcases List.mem_append.1 hf with hf | hf
    · simp [hsrc f (by simp [hf]) x hx]
    · rcases List.mem_cons.1 hf with rfl | hf
      · rcases hTs x hx with rfl | ⟨g, hg, hxg⟩
        · simp
        · simp [hsrc g (by simp [hg]) x hxg]
      · simp [hsrc f (by simp [hf]) x hx]
/-- No pair: the sums tell the texts apart. -/
theorem FOK.inj {l : List Fam} {TL : List (List UInt8)} (h : FOK l TL) (hn : ∀ f ∈ l, f.2.2.length < 2) : ∀ a ∈ TL, ∀ b ∈ TL, sm a = sm b → a = b := by
  intro a ha b hb e
  obtain ⟨f, hf, ef, hx⟩ := h.cov a ha
  obtain ⟨g, hg, eg, hy⟩ := h.cov b hb
  have hfg : f = g := by
    have ho := h.ord
    obtain ⟨i, hi, rfl⟩ := List.getElem_of_mem hf
    obtain ⟨j, hj, rfl⟩ := List.getElem_of_mem hg
    rw [List.pairwise_iff_getElem] at ho
    rcases Nat.lt_trichotomy i j with q | q | q
    · have := ho i j hi hj q; omega
    · subst q; rfl
    · have := ho j i hj hi q; omega
  subst hfg
  have hl := hn f hf
  rcases hx with ⟨x, hx, rfl⟩ | hx
  · rcases hy with ⟨y, hy, rfl⟩ | hy
    · match hq : f.2.2, hl, hx, hy with
      | [z], _, hx, hy => simp at hx hy; rw [hx, hy]
    · omega
  · omega
end Go.Proofs.YtlndinigbppafaaGreat
