/-
  Reading a message, as plain mathematics: the document's P6.
-/
import Derived.Test.YtpdjdaipijjeeaaMsg
namespace Go.Proofs.Ytpdjdaipijjeeaa

/-- Two bytes' number. -/
def num2 (a b : UInt8) : Int := 256 * a.toNat + b.toNat
theorem num2_bd (a b : UInt8) : 0 ≤ num2 a b ∧ num2 a b ≤ 65535 := by
  have := a.toNat_lt; have := b.toNat_lt; unfold num2; omega

/-- A tree's shape, by which nodes a proof leaves out. -/
inductive Shp (k M N : Int) : Nat → Nat → List PN → Prop
  | stub (d p : Nat) (g : Int) : kindOf k M N p d = 0 → 0 ≤ g → g ≤ 65535 → Shp k M N d p [⟨0, g, ByteArray.empty⟩]
  | leaf (p : Nat) (e : ByteArray) : kindOf k M N p 0 = 1 → e.size ≤ 50 → Shp k M N 0 p [⟨1, 0, e⟩]
  | two (d p : Nat) (a b : List PN) : kindOf k M N p (d + 1) = 2 → Shp k M N d p a → Shp k M N d (p + pw d) b → Shp k M N (d + 1) p (⟨2, 0, ByteArray.empty⟩ :: (a ++ b))
  | alone (d p : Nat) (a : List PN) : kindOf k M N p (d + 1) = 3 → Shp k M N d p a → Shp k M N (d + 1) p (⟨3, 0, ByteArray.empty⟩ :: a)

theorem kindOf_zero (k M N : Int) (p : Nat) : kindOf k M N p 0 = 0 ∨ kindOf k M N p 0 = 1 := by
  unfold kindOf
  by_cases h : (if k = 2 then ((p : Int) + pw 0 ≤ M ∨ M ≤ p) else (M < p ∨ (p : Int) + pw 0 ≤ M))
  · left; rw [if_pos h]
  · right; rw [if_neg h, if_pos rfl]
theorem kindOf_succ (k M N : Int) (p d : Nat) : kindOf k M N p (d + 1) = 0 ∨ kindOf k M N p (d + 1) = 2 ∨ kindOf k M N p (d + 1) = 3 := by
  unfold kindOf
  by_cases h : (if k = 2 then ((p : Int) + pw (d + 1) ≤ M ∨ M ≤ p) else (M < p ∨ (p : Int) + pw (d + 1) ≤ M))
  · left; rw [if_pos h]
  · right
    by_cases h2 : (p : Int) + pw (d + 1 - 1) < N
    · left; rw [if_neg h, if_neg (by omega), if_pos h2]
    · right; rw [if_neg h, if_neg (by omega), if_neg h2]

/-- The node at p of depth d is read from place a on: its nodes and the place behind, or the error and its place. -/
def rdNode (s : List UInt8) (k M N : Int) : Nat → Nat → Nat → Except (Int × Nat) (List PN × Nat)
  | 0, p, a =>
    match s[a]? with
    | none => .error (5, s.length)
    | some c =>
      if (c.toNat : Int) ≠ kindOf k M N p 0 then .error (7, a)
      else if kindOf k M N p 0 = 0 then
        match s[a + 1]?, s[a + 2]? with
        | some x, some y => .ok ([⟨0, num2 x y, ByteArray.empty⟩], a + 3)
        | _, _ => .error (5, s.length)
      else
        match s[a + 1]? with
        | none => .error (5, s.length)
        | some z => if 50 < z.toNat then .error (2, a) else if s.length < a + 2 + z.toNat then .error (5, s.length) else .ok ([⟨1, 0, ⟨((s.drop (a + 2)).take z.toNat).toArray⟩⟩], a + 2 + z.toNat)
  | d + 1, p, a =>
    match s[a]? with
    | none => .error (5, s.length)
    | some c =>
      if (c.toNat : Int) ≠ kindOf k M N p (d + 1) then .error (7, a)
      else if kindOf k M N p (d + 1) = 0 then
        match s[a + 1]?, s[a + 2]? with
        | some x, some y => .ok ([⟨0, num2 x y, ByteArray.empty⟩], a + 3)
        | _, _ => .error (5, s.length)
      else if kindOf k M N p (d + 1) = 2 then
        match rdNode s k M N d p (a + 1) with
        | .error e => .error e
        | .ok (l, a') =>
          match rdNode s k M N d (p + pw d) a' with
          | .error e => .error e
          | .ok (r, a'') => .ok (⟨2, 0, ByteArray.empty⟩ :: (l ++ r), a'')
      else
        match rdNode s k M N d p (a + 1) with
        | .error e => .error e
        | .ok (l, a') => .ok (⟨3, 0, ByteArray.empty⟩ :: l, a')

/-- A message's value. -/
structure Msg where
  kind : Int
  m : Int
  n : Int
  root : Int
  tree : List PN

/-- The fields ahead of the tree, the error of them first. -/
def rdHead (s : List UInt8) : Except (Int × Nat) (Int × Int × Int × Int × Nat) :=
  if 4000 < s.length then .error (2, 0) else
  match s[0]? with
  | none => .error (5, 0)
  | some c =>
    if (c.toNat : Int) < 1 ∨ 3 < (c.toNat : Int) then .error (4, 0) else
    if (c.toNat : Int) = 1 then
      match s[1]?, s[2]?, s[3]?, s[4]? with
      | some a, some b, some x, some y => if num2 a b < 1 ∨ 500 < num2 a b then .error (1, 1) else .ok (1, 0, num2 a b, num2 x y, 5)
      | _, _, _, _ => .error (5, s.length)
    else if (c.toNat : Int) = 2 then
      match s[1]?, s[2]?, s[3]?, s[4]?, s[5]?, s[6]? with
      | some u, some v, some a, some b, some x, some y =>
        if num2 a b < 1 ∨ 500 < num2 a b then .error (1, 3) else if num2 u v < 1 ∨ num2 a b < num2 u v then .error (1, 1) else .ok (2, num2 u v, num2 a b, num2 x y, 7)
      | _, _, _, _, _, _ => .error (5, s.length)
    else
      match s[1]?, s[2]?, s[3]?, s[4]? with
      | some u, some v, some a, some b =>
        if num2 a b < 1 ∨ 500 < num2 a b then .error (1, 3) else if num2 a b ≤ num2 u v then .error (1, 1) else .ok (3, num2 u v, num2 a b, 0, 5)
      | _, _, _, _ => .error (5, s.length)

/-- P6. -/
def decS (s : List UInt8) : Except (Int × Nat) Msg :=
  match rdHead s with
  | .error e => .error e
  | .ok (k, m, n, r, a) =>
    if k = 1 then (if a < s.length then .error (6, a) else .ok ⟨k, m, n, r, []⟩) else
    match rdNode s k m n (dep n.toNat) 0 a with
    | .error e => .error e
    | .ok (l, a') => if a' < s.length then .error (6, a') else .ok ⟨k, m, n, r, l⟩

theorem b8_byte (c : UInt8) : b8 (c.toNat : Int) = c := by
  unfold b8; rw [Int.toNat_natCast]; exact UInt8.ofNat_toNat
theorem two8_num2 (a b : UInt8) : two8 (num2 a b) = [a, b] := by
  have h1 := a.toNat_lt
  have h2 := b.toNat_lt
  have e1 : (num2 a b / 256 % 256).toNat = a.toNat := by unfold num2; omega
  have e2 : (num2 a b % 256).toNat = b.toNat := by unfold num2; omega
  unfold two8
  rw [e1, e2, UInt8.ofNat_toNat, UInt8.ofNat_toNat]
theorem num2_two8 (g : Int) (h0 : 0 ≤ g) (h1 : g ≤ 65535) : num2 (UInt8.ofNat (g / 256 % 256).toNat) (UInt8.ofNat (g % 256).toNat) = g := by
  have e1 := b8_nat (g / 256 % 256) (by omega) (by omega)
  have e2 := b8_nat (g % 256) (by omega) (by omega)
  unfold b8 at e1 e2
  unfold num2
  rw [e1, e2]; omega

/-- Bytes of s from a on. -/
def At (s : List UInt8) (a : Nat) (l : List UInt8) : Prop := (s.drop a).take l.length = l ∧ a + l.length ≤ s.length
theorem At.get {s : List UInt8} {a : Nat} {l : List UInt8} (h : At s a l) (j : Nat) (hj : j < l.length) : s[a + j]? = some l[j] := by
  have e : l[j]? = some l[j] := List.getElem?_eq_getElem hj
  have e2 : ((s.drop a).take l.length)[j]? = l[j]? := congrArg (fun x => x[j]?) h.1
  rw [List.getElem?_take, if_pos hj, List.getElem?_drop, e] at e2
  exact e2
theorem At.of_get {s : List UInt8} {a : Nat} {l : List UInt8} (h : ∀ j (hj : j < l.length), s[a + j]? = some l[j]) (hl : a + l.length ≤ s.length) : At s a l := by
  refine ⟨?_, hl⟩
  apply List.ext_getElem?
  intro j
  rw [List.getElem?_take]
  by_cases hj : j < l.length
  · rw [if_pos hj, List.getElem?_drop, h j hj, List.getElem?_eq_getElem hj]
  · rw [if_neg hj, List.getElem?_eq_none (by omega)]
theorem At.append {s : List UInt8} {a : Nat} {l r : List UInt8} : At s a (l ++ r) ↔ At s a l ∧ At s (a + l.length) r := by
  constructor
  · intro h
    have hl := h.2
    rw [List.length_append] at hl
    refine ⟨At.of_get (fun j hj => ?_) (by omega), At.of_get (fun j hj => ?_) (by omega)⟩
    · have := h.get j (by rw [List.length_append]; omega)
      rw [this, List.getElem_append_left hj]
    · have := h.get (l.length + j) (by rw [List.length_append]; omega)
      rw [Nat.add_assoc, this, List.getElem_append_right (by omega)]
      simp
  · rintro ⟨h1, h2⟩
    refine At.of_get (fun j hj => ?_) (by have := h2.2; rw [List.length_append]; omega)
    by_cases hjl : j < l.length
    · rw [h1.get j hjl, List.getElem_append_left hjl]
    · rw [List.length_append] at hj
      have := h2.get (j - l.length) (by omega)
      rw [show a + l.length + (j - l.length) = a + j by omega] at this
      rw [this, List.getElem_append_right (by omega)]

theorem encNs_one (x : PN) : encNs [x] = encN x := by unfold encNs; simp
theorem encNs_cons (x : PN) (l : List PN) : encNs (x :: l) = encN x ++ encNs l := by unfold encNs; rw [List.map_cons, List.flatten_cons]

/-- A tree of the shape whose bytes stand there is read. -/
theorem rdNode_shp (s : List UInt8) (k M N : Int) {d p : Nat} {l : List PN} (h : Shp k M N d p l) : ∀ a, At s a (encNs l) → rdNode s k M N d p a = .ok (l, a + (encNs l).length) := by
  induction h with
  | stub d p g hk h0 h1 =>
    intro a ha
    have e : encNs [(⟨0, g, ByteArray.empty⟩ : PN)] = [0, UInt8.ofNat (g / 256 % 256).toNat, UInt8.ofNat (g % 256).toNat] := by
      rw [encNs_one]; rfl
    rw [e] at ha ⊢
    have q0 := ha.get 0 (by simp)
    have q1 := ha.get 1 (by simp)
    have q2 := ha.get 2 (by simp)
    simp only [Nat.add_zero, List.getElem_cons_zero, List.getElem_cons_succ] at q0 q1 q2
    cases d with
    | zero => simp [rdNode, q0, q1, q2, hk, num2_two8 g h0 h1]
    | succ d => simp [rdNode, q0, q1, q2, hk, num2_two8 g h0 h1]
  | leaf p e hk he =>
    intro a ha
    have hee : e.data.toList.length = e.size := by rw [Array.length_toList]; rfl
    have hb : (b8 (e.size : Int)).toNat = e.size := by have := b8_nat (e.size : Int) (by omega) (by omega); omega
    have en : encNs [(⟨1, 0, e⟩ : PN)] = [1, b8 (e.size : Int)] ++ e.data.toList := by
      rw [encNs_one]; rfl
    rw [en] at ha ⊢
    obtain ⟨h1, h2⟩ := At.append.1 ha
    have q0 := h1.get 0 (by simp)
    have q1 := h1.get 1 (by simp)
    simp only [Nat.add_zero, List.getElem_cons_zero, List.getElem_cons_succ] at q0 q1
    have h3 := h2.2
    have h4 := h2.1
    rw [hee] at h3 h4
    simp only [List.length_cons, List.length_nil] at h3 h4
    have hd : (⟨((s.drop (a + 2)).take e.size).toArray⟩ : ByteArray) = e := by
      rw [h4]
    simp [rdNode, q0, q1, hk, hb, hd, hee]
    rw [if_neg (by omega), if_neg (by omega)]
    congr 2
    omega
  | two d p l r hk _ _ ihl ihr =>
    intro a ha
    have en : encNs ((⟨2, 0, ByteArray.empty⟩ : PN) :: (l ++ r)) = [2] ++ (encNs l ++ encNs r) := by
      rw [encNs_cons, encNs_append]; rfl
    rw [en] at ha ⊢
    obtain ⟨h1, h2⟩ := At.append.1 ha
    obtain ⟨h3, h4⟩ := At.append.1 h2
    have q0 := h1.get 0 (by simp)
    simp only [Nat.add_zero, List.getElem_cons_zero] at q0
    have e1 := ihl (a + 1) h3
    have e2 := ihr (a + 1 + (encNs l).length) h4
    simp [rdNode, q0, hk, e1, e2]
    omega
  | alone d p l hk _ ihl =>
    intro a ha
    have en : encNs ((⟨3, 0, ByteArray.empty⟩ : PN) :: l) = [3] ++ encNs l := by
      rw [encNs_cons]; rfl
    rw [en] at ha ⊢
    obtain ⟨h1, h2⟩ := At.append.1 ha
    have q0 := h1.get 0 (by simp)
    simp only [Nat.add_zero, List.getElem_cons_zero] at q0
    have e1 := ihl (a + 1) h2
    simp [rdNode, q0, hk, e1]
    omega
theorem at_one {s : List UInt8} {a : Nat} {c : UInt8} (h : s[a]? = some c) : At s a [c] := by
  have hl : a < s.length := by
    rcases Nat.lt_or_ge a s.length with h' | h'
    · exact h'
    · rw [List.getElem?_eq_none h'] at h; cases h
  refine At.of_get (fun j hj => ?_) (by simp; omega)
  have : j = 0 := by simp at hj; exact hj
  subst this
  simpa using h
theorem at_cons {s : List UInt8} {a : Nat} {c : UInt8} {l : List UInt8} (h : s[a]? = some c) (hl : At s (a + 1) l) : At s a (c :: l) := by
  have := (At.append (s := s) (a := a) (l := [c]) (r := l)).2 ⟨at_one h, hl⟩
  exact this
theorem u8_of_int {c : UInt8} {k : Int} (h : (c.toNat : Int) = k) : c = b8 k := by rw [← h, b8_byte]

/-- A tree that is read is of the shape, and its bytes stand there. -/
theorem rdNode_ok (s : List UInt8) (k M N : Int) : ∀ (d p a : Nat) (l : List PN) (a' : Nat), rdNode s k M N d p a = .ok (l, a') → Shp k M N d p l ∧ At s a (encNs l) ∧ a' = a + (encNs l).length := by
  have stub : ∀ (d p a : Nat) (x y c : UInt8), kindOf k M N p d = 0 → (c.toNat : Int) = 0 → s[a]? = some c → s[a + 1]? = some x → s[a + 2]? = some y →
      Shp k M N d p [⟨0, num2 x y, ByteArray.empty⟩] ∧ At s a (encNs [⟨0, num2 x y, ByteArray.empty⟩]) ∧ a + 3 = a + (encNs [(⟨0, num2 x y, ByteArray.empty⟩ : PN)]).length := by
    intro d p a x y c hk hc h0 h1 h2
    have e : encNs [(⟨0, num2 x y, ByteArray.empty⟩ : PN)] = [c, x, y] := by
      rw [encNs_one, u8_of_int hc]
      show b8 0 :: (two8 (num2 x y) ++ []) = _
      rw [two8_num2]; rfl
    rw [e]
    exact ⟨.stub d p _ hk (num2_bd x y).1 (num2_bd x y).2, at_cons h0 (at_cons h1 (at_one h2)), rfl⟩
  intro d
  induction d with
  | zero =>
    intro p a l a' h
    rw [rdNode] at h
    split at h
    · cases h
    · rename_i c h0
      split at h
      · cases h
      · rename_i hc
        have hc' : (c.toNat : Int) = kindOf k M N p 0 := by omega
        split at h
        · rename_i hk
          split at h
          · rename_i x y h1 h2
            simp only [Except.ok.injEq, Prod.mk.injEq] at h
            obtain ⟨rfl, rfl⟩ := h
            exact stub 0 p a x y c hk (by omega) h0 h1 h2
          · cases h
        · rename_i hk
          have hk1 : kindOf k M N p 0 = 1 := by rcases kindOf_zero k M N p with h' | h' <;> omega
          split at h
          · cases h
          · rename_i z hz
            split at h
            · cases h
            · split at h
              · cases h
              · simp only [Except.ok.injEq, Prod.mk.injEq] at h
                obtain ⟨rfl, rfl⟩ := h
                have hs : ((s.drop (a + 2)).take z.toNat).length = z.toNat := by rw [List.length_take, List.length_drop]; omega
                have hsz : (⟨((s.drop (a + 2)).take z.toNat).toArray⟩ : ByteArray).size = z.toNat := by
                  show ((s.drop (a + 2)).take z.toNat).toArray.size = _
                  rw [List.size_toArray, hs]
                have e : encNs [(⟨1, 0, ⟨((s.drop (a + 2)).take z.toNat).toArray⟩⟩ : PN)] = c :: z :: (s.drop (a + 2)).take z.toNat := by
                  rw [encNs_one, u8_of_int (hc'.trans hk1)]
                  show b8 1 :: ([] ++ (b8 ((⟨((s.drop (a + 2)).take z.toNat).toArray⟩ : ByteArray).size : Int) :: ((s.drop (a + 2)).take z.toNat))) = _
                  rw [hsz, b8_byte]; rfl
                rw [e]
                refine ⟨.leaf p _ hk1 (by rw [hsz]; omega), at_cons h0 (at_cons hz ⟨by rw [hs], by rw [hs]; omega⟩), ?_⟩
                simp only [List.length_cons, hs]; omega
  | succ d ih =>
    intro p a l a' h
    rw [rdNode] at h
    split at h
    · cases h
    · rename_i c h0
      split at h
      · cases h
      · rename_i hc
        have hc' : (c.toNat : Int) = kindOf k M N p (d + 1) := by omega
        split at h
        · rename_i hk
          split at h
          · rename_i x y h1 h2
            simp only [Except.ok.injEq, Prod.mk.injEq] at h
            obtain ⟨rfl, rfl⟩ := h
            exact stub (d + 1) p a x y c hk (by omega) h0 h1 h2
          · cases h
        · rename_i hk0
          split at h
          · rename_i hk2
            split at h
            · cases h
            · rename_i l1 a1 e1
              split at h
              · cases h
              · rename_i l2 a2 e2
                simp only [Except.ok.injEq, Prod.mk.injEq] at h
                obtain ⟨rfl, rfl⟩ := h
                obtain ⟨s1, t1, rfl⟩ := ih p (a + 1) _ _ e1
                obtain ⟨s2, t2, rfl⟩ := ih _ _ _ _ e2
                have en : encNs ((⟨2, 0, ByteArray.empty⟩ : PN) :: (l1 ++ l2)) = c :: (encNs l1 ++ encNs l2) := by
                  rw [encNs_cons, encNs_append, u8_of_int (hc'.trans hk2)]; rfl
                rw [en]
                refine ⟨.two d p _ _ hk2 s1 s2, at_cons h0 (At.append.2 ⟨t1, t2⟩), ?_⟩
                simp only [List.length_cons, List.length_append]; omega
          · rename_i hk2
            have hk3 : kindOf k M N p (d + 1) = 3 := by rcases kindOf_succ k M N p d with h' | h' | h' <;> omega
            split at h
            · cases h
            · rename_i l1 a1 e1
              simp only [Except.ok.injEq, Prod.mk.injEq] at h
              obtain ⟨rfl, rfl⟩ := h
              obtain ⟨s1, t1, rfl⟩ := ih p (a + 1) _ _ e1
              have en : encNs ((⟨3, 0, ByteArray.empty⟩ : PN) :: l1) = c :: encNs l1 := by
                rw [encNs_cons, u8_of_int (hc'.trans hk3)]; rfl
              rw [en]
              refine ⟨.alone d p _ hk3 s1, at_cons h0 t1, ?_⟩
              simp only [List.length_cons]; omega

end Go.Proofs.Ytpdjdaipijjeeaa
