/-
  Which values a message has, as plain mathematics: the document's P7 beside its P6.
-/
import Derived.Test.YtpdjdaipijjeeaaDec
namespace Go.Proofs.Ytpdjdaipijjeeaa

/-- The values of which the document's bytes tell. -/
structure ValidM (x : Msg) : Prop where
  k : x.kind = 1 ∨ x.kind = 2 ∨ x.kind = 3
  n : 1 ≤ x.n ∧ x.n ≤ 500
  r : 0 ≤ x.root ∧ x.root ≤ 65535
  c : x.kind = 1 → x.m = 0 ∧ x.tree = []
  g : x.kind = 2 → 1 ≤ x.m ∧ x.m ≤ x.n
  m : x.kind = 3 → 0 ≤ x.m ∧ x.m < x.n ∧ x.root = 0
  t : x.kind ≠ 1 → Shp x.kind x.m x.n (dep x.n.toNat) 0 x.tree

def encV (x : Msg) : List UInt8 := encM x.kind x.m x.n x.root x.tree

theorem growth_noleaf (M N : Int) (p : Nat) : kindOf 2 M N p 0 ≠ 1 := by
  unfold kindOf
  have h : (p : Int) + pw 0 ≤ M ∨ M ≤ p := by rw [pw_zero]; omega
  simp [h]
/-- Of two nodes below one at least one is a stub. -/
theorem stub_one (k M N : Int) (p d : Nat) (hk : kindOf k M N p d ≠ 0) : kindOf k M N (p + pw d) d = 0 := by
  unfold kindOf at hk ⊢
  by_cases h2 : k = 2
  · subst h2
    simp only [if_pos] at hk ⊢
    rw [if_pos]
    have h : ¬ ((p : Int) + pw d ≤ M ∨ M ≤ p) := fun h => hk (if_pos h)
    rw [Int.natCast_add]; omega
  · simp only [if_neg h2] at hk ⊢
    rw [if_pos]
    have h : ¬ (M < p ∨ (p : Int) + pw d ≤ M) := fun h => hk (if_pos h)
    rw [Int.natCast_add]; omega
theorem shp_stub {k M N : Int} {d p : Nat} {l : List PN} (h : Shp k M N d p l) (hk : kindOf k M N p d = 0) : (encNs l).length = 3 := by
  cases h with
  | stub _ _ g _ _ _ => rw [encNs_one]; rfl
  | leaf _ e h1 _ => omega
  | two d _ a b h1 _ _ => omega
  | alone d _ a h1 _ => omega
theorem shp_len {k M N : Int} {d p : Nat} {l : List PN} (h : Shp k M N d p l) : (encNs l).length ≤ 52 + 4 * d := by
  induction h with
  | stub d p g _ _ _ => rw [encNs_one]; show 3 ≤ _; omega
  | leaf p e _ he =>
    have := encN_le ⟨1, 0, e⟩ 48
    rw [encNs_one]
    show (b8 1 :: ([] ++ (b8 e.size :: e.data.toList))).length ≤ _
    have hee : e.data.toList.length = e.size := by rw [Array.length_toList]; rfl
    simp only [List.nil_append, List.length_cons, hee]; omega
  | two d p a b hk ha hb iha ihb =>
    rw [encNs_cons, encNs_append]
    have e : (encN ⟨2, 0, ByteArray.empty⟩).length = 1 := rfl
    rw [List.length_append, List.length_append, e]
    by_cases h0 : kindOf k M N p d = 0
    · have := shp_stub ha h0; omega
    · have := shp_stub hb (stub_one k M N p d h0); omega
  | alone d p a hk ha iha =>
    rw [encNs_cons]
    have e : (encN ⟨3, 0, ByteArray.empty⟩).length = 1 := rfl
    rw [List.length_append, e]; omega
theorem dep_500 (n : Int) (h : n ≤ 500) : dep n.toNat ≤ 9 := dep_le _ _ (by rw [pw_9]; omega)
theorem ValidM.len {x : Msg} (h : ValidM x) : (encV x).length ≤ 4000 := by
  unfold encV encM
  have h1 := encH_le x.kind x.m x.n x.root
  rw [List.length_append]
  by_cases hk : x.kind = 1
  · rw [(h.c hk).2]
    have e : (encNs ([] : List PN)).length = 0 := rfl
    omega
  · have := shp_len (h.t hk)
    have := dep_500 x.n h.n.2
    omega
theorem at_zero (s : List UInt8) : At s 0 s := ⟨by rw [List.drop_zero, List.take_length], by omega⟩
theorem at_whole {s l : List UInt8} (h : At s 0 l) (hl : s.length ≤ l.length) : s = l := by
  have := h.1; rw [List.drop_zero, List.take_of_length_le hl] at this; exact this

theorem num2_of_two8 (g : Int) (h0 : 0 ≤ g) (h1 : g ≤ 65535) {a b : UInt8} (e : two8 g = [a, b]) : num2 a b = g := by
  unfold two8 at e
  simp only [List.cons.injEq, and_true] at e
  rw [← e.1, ← e.2]; exact num2_two8 g h0 h1

/-- The bytes of a value that may be are read as it. -/
theorem decS_enc {x : Msg} (h : ValidM x) : decS (encV x) = .ok x := by
  obtain ⟨k, m, n, r, t⟩ := x
  have hl := h.len
  obtain ⟨hk, hn, hr, hc, hg, hm, ht⟩ := h
  simp only at hk hn hr hc hg hm ht
  have hn2 := num2_two8 n (by omega) (by omega)
  have hr2 := num2_two8 r (by omega) (by omega)
  rcases hk with rfl | rfl | rfl
  · obtain ⟨rfl, rfl⟩ := hc rfl
    have e : encV ⟨1, 0, n, r, []⟩ = [1, UInt8.ofNat (n / 256 % 256).toNat, UInt8.ofNat (n % 256).toNat, UInt8.ofNat (r / 256 % 256).toNat, UInt8.ofNat (r % 256).toNat] := rfl
    rw [e]
    simp [decS, rdHead, hn2, hr2]
    rw [if_neg (by omega)]
    simp
  · have hg := hg rfl
    have hm2 := num2_two8 m (by omega) (by omega)
    have ht := ht (by omega)
    have e : encV ⟨2, m, n, r, t⟩ = [2, UInt8.ofNat (m / 256 % 256).toNat, UInt8.ofNat (m % 256).toNat, UInt8.ofNat (n / 256 % 256).toNat, UInt8.ofNat (n % 256).toNat, UInt8.ofNat (r / 256 % 256).toNat, UInt8.ofNat (r % 256).toNat] ++ encNs t := rfl
    rw [e] at hl ⊢
    have ha := (At.append.1 (at_zero ([2, UInt8.ofNat (m / 256 % 256).toNat, UInt8.ofNat (m % 256).toNat, UInt8.ofNat (n / 256 % 256).toNat, UInt8.ofNat (n % 256).toNat, UInt8.ofNat (r / 256 % 256).toNat, UInt8.ofNat (r % 256).toNat] ++ encNs t))).2
    have hd := rdNode_shp _ 2 m n ht _ ha
    have hh : rdHead ([2, UInt8.ofNat (m / 256 % 256).toNat, UInt8.ofNat (m % 256).toNat, UInt8.ofNat (n / 256 % 256).toNat, UInt8.ofNat (n % 256).toNat, UInt8.ofNat (r / 256 % 256).toNat, UInt8.ofNat (r % 256).toNat] ++ encNs t) = .ok (2, m, n, r, 7) := by
      rw [rdHead, if_neg (by omega)]
      simp [hn2, hr2, hm2]
      rw [if_neg (by omega), if_neg (by omega)]
    rw [decS, hh]
    simp only [List.length_cons, List.length_nil, Nat.zero_add, Nat.reduceAdd] at hd
    simp only [hd]
    rw [if_neg (by omega), if_neg (by simp; omega)]
  · have hm := hm rfl
    obtain ⟨hm0, hm1, rfl⟩ := hm
    have hm2 := num2_two8 m (by omega) (by omega)
    have ht := ht (by omega)
    have e : encV ⟨3, m, n, 0, t⟩ = [3, UInt8.ofNat (m / 256 % 256).toNat, UInt8.ofNat (m % 256).toNat, UInt8.ofNat (n / 256 % 256).toNat, UInt8.ofNat (n % 256).toNat] ++ encNs t := rfl
    rw [e] at hl ⊢
    have ha := (At.append.1 (at_zero ([3, UInt8.ofNat (m / 256 % 256).toNat, UInt8.ofNat (m % 256).toNat, UInt8.ofNat (n / 256 % 256).toNat, UInt8.ofNat (n % 256).toNat] ++ encNs t))).2
    have hd := rdNode_shp _ 3 m n ht _ ha
    have hh : rdHead ([3, UInt8.ofNat (m / 256 % 256).toNat, UInt8.ofNat (m % 256).toNat, UInt8.ofNat (n / 256 % 256).toNat, UInt8.ofNat (n % 256).toNat] ++ encNs t) = .ok (3, m, n, 0, 5) := by
      rw [rdHead, if_neg (by omega)]
      simp [hn2, hm2]
      rw [if_neg (by omega), if_neg (by omega)]
    rw [decS, hh]
    simp only [List.length_cons, List.length_nil, Nat.zero_add, Nat.reduceAdd] at hd
    simp only [hd]
    rw [if_neg (by omega), if_neg (by simp; omega)]

/-- What is read is a value that may be, and its bytes are those. -/
theorem decS_ok {s : List UInt8} {x : Msg} (h : decS s = .ok x) : ValidM x ∧ s = encV x := by
  unfold decS at h
  split at h
  · cases h
  · rename_i k m n r a hh
    unfold rdHead at hh
    split at hh
    · cases hh
    split at hh
    · cases hh
    rename_i c h0
    split at hh
    · cases hh
    split at hh
    · rename_i hc
      split at hh
      · rename_i a1 b1 x1 y1 h1 h2 h3 h4
        split at hh
        · cases hh
        rename_i hn
        simp only [Except.ok.injEq, Prod.mk.injEq] at hh
        obtain ⟨rfl, rfl, rfl, rfl, rfl⟩ := hh
        rw [if_pos rfl] at h
        split at h
        · cases h
        rename_i hl
        simp only [Except.ok.injEq] at h
        subst h
        have hb := num2_bd x1 y1
        refine ⟨⟨Or.inl rfl, ⟨by simp only; omega, by simp only; omega⟩, hb, fun _ => ⟨rfl, rfl⟩, fun h => by simp at h, fun h => by simp at h, fun h => absurd rfl h⟩, ?_⟩
        have e : encV ⟨1, 0, num2 a1 b1, num2 x1 y1, []⟩ = [c, a1, b1, x1, y1] := by
          rw [u8_of_int hc]
          show b8 1 :: ([] ++ (two8 (num2 a1 b1) ++ two8 (num2 x1 y1))) ++ [] = _
          rw [two8_num2, two8_num2]; rfl
        rw [e]
        exact at_whole (at_cons h0 (at_cons h1 (at_cons h2 (at_cons h3 (at_one h4))))) (by simp; omega)
      · cases hh
    split at hh
    · rename_i hc1 hc
      split at hh
      · rename_i u1 v1 a1 b1 x1 y1 h1 h2 h3 h4 h5 h6
        split at hh
        · cases hh
        rename_i hn
        split at hh
        · cases hh
        rename_i hm
        simp only [Except.ok.injEq, Prod.mk.injEq] at hh
        obtain ⟨rfl, rfl, rfl, rfl, rfl⟩ := hh
        rw [if_neg (by omega)] at h
        split at h
        · cases h
        rename_i l a' hd
        split at h
        · cases h
        rename_i hl
        simp only [Except.ok.injEq] at h
        subst h
        obtain ⟨hs, ha, rfl⟩ := rdNode_ok s 2 _ _ _ _ _ _ _ hd
        have hb := num2_bd x1 y1
        refine ⟨⟨Or.inr (Or.inl rfl), ⟨by simp only; omega, by simp only; omega⟩, hb, fun h => by simp at h, fun _ => ⟨by simp only; omega, by simp only; omega⟩, fun h => by simp at h, fun _ => hs⟩, ?_⟩
        have e : encV ⟨2, num2 u1 v1, num2 a1 b1, num2 x1 y1, l⟩ = c :: u1 :: v1 :: a1 :: b1 :: x1 :: y1 :: encNs l := by
          rw [u8_of_int hc]
          show b8 2 :: (two8 (num2 u1 v1) ++ (two8 (num2 a1 b1) ++ two8 (num2 x1 y1))) ++ encNs l = _
          rw [two8_num2, two8_num2, two8_num2]; rfl
        rw [e]
        exact at_whole (at_cons h0 (at_cons h1 (at_cons h2 (at_cons h3 (at_cons h4 (at_cons h5 (at_cons h6 ha))))))) (by simp only [List.length_cons]; omega)
      · cases hh
    · rename_i hc1 hc2
      have hc : (c.toNat : Int) = 3 := by omega
      split at hh
      · rename_i u1 v1 a1 b1 h1 h2 h3 h4
        split at hh
        · cases hh
        rename_i hn
        split at hh
        · cases hh
        rename_i hm
        simp only [Except.ok.injEq, Prod.mk.injEq] at hh
        obtain ⟨rfl, rfl, rfl, rfl, rfl⟩ := hh
        rw [if_neg (by omega)] at h
        split at h
        · cases h
        rename_i l a' hd
        split at h
        · cases h
        rename_i hl
        simp only [Except.ok.injEq] at h
        subst h
        obtain ⟨hs, ha, rfl⟩ := rdNode_ok s 3 _ _ _ _ _ _ _ hd
        have hb := num2_bd u1 v1
        refine ⟨⟨Or.inr (Or.inr rfl), ⟨by simp only; omega, by simp only; omega⟩, ⟨by simp, by simp⟩, fun h => by simp at h, fun h => by simp at h, fun _ => ⟨hb.1, by simp only; omega, rfl⟩, fun _ => hs⟩, ?_⟩
        have e : encV ⟨3, num2 u1 v1, num2 a1 b1, 0, l⟩ = c :: u1 :: v1 :: a1 :: b1 :: encNs l := by
          rw [u8_of_int hc]
          show b8 3 :: (two8 (num2 u1 v1) ++ (two8 (num2 a1 b1) ++ [])) ++ encNs l = _
          rw [two8_num2, two8_num2]; rfl
        rw [e]
        exact at_whole (at_cons h0 (at_cons h1 (at_cons h2 (at_cons h3 (at_cons h4 ha))))) (by simp only [List.length_cons]; omega)
      · cases hh
end Go.Proofs.Ytpdjdaipijjeeaa
