/-
  Reading a message, as plain mathematics: the document's P6.
-/
import Derived.Test.YtlndinigbppafaaGreatSm
namespace Go.Proofs.YtlndinigbppafaaGreat

/-- Two bytes' number. -/
def num2 (a b : UInt8) : Int := 256 * a.toNat + b.toNat
theorem num2_bd (a b : UInt8) : 0 ≤ num2 a b ∧ num2 a b ≤ 65535 := by
  have := a.toNat_lt; have := b.toNat_lt; unfold num2; omega

/-- A tree's shape, by which nodes a proof leaves out. -/
inductive Shp (k M N : Int) : Nat → Nat → List PN → Prop
  | stub (d p : Nat) (g : Int) : kindOf k M N p d = 0 → 0 ≤ g → g ≤ 65535 → Shp k M N d p [⟨0, g, ByteArray.empty⟩]
  | leaf (p : Nat) (e : ByteArray) : kindOf k M N p 0 = 1 → e.size ≤ 50 → Shp k M N 0 p [⟨1, 0, e⟩]
  | two (d p : Nat) (a b : List PN) : kindOf k M N p (d + 1) = 2 → Shp k M N d p a → Shp k M N d (p + pw d) b → Shp k M N (d + 1) p (⟨2, 0, ByteArray.empty⟩ :: (a ++ b))
  | alone (d p : Nat) (a : List PN) : kindOf k M N p (d + 1) = 3 → Shp k M N d p a → Shp k M N (d + 1) p (⟨3, 0, ByteArray.empty⟩ :: a)

theorem kindOf_zero (k M N : Int) (p : Nat) : kindOf k M N p 0 = 0 ∨ kindOf k M N p 0 = 1 := by
  unfold kindOf
  by_cases h : (if k = 2 then ((p : Int) + pw 0 ≤ M ∨ M ≤ p) else (M < p ∨ (p : Int) + pw 0 ≤ M))
  · left; rw [if_pos h]
  · right; rw [if_neg h, if_pos rfl]
theorem kindOf_succ (k M N : Int) (p d : Nat) : kindOf k M N p (d + 1) = 0 ∨ kindOf k M N p (d + 1) = 2 ∨ kindOf k M N p (d + 1) = 3 := by
  unfold kindOf
  by_cases h : (if k = 2 then ((p : Int) + pw (d + 1) ≤ M ∨ M ≤ p) else (M < p ∨ (p : Int) + pw (d + 1) ≤ M))
  · left; rw [if_pos h]
  · right
    by_cases h2 : (p : Int) + pw (d + 1 - 1) < N
    · left; rw [if_neg h, if_neg (by omega), if_pos h2]
    · right; rw [if_neg h, if_neg (by omega), if_neg h2]

/-- The node at p of depth d is read from place a on: its nodes and the place behind, or the error and its place. -/
def rdNode (s : List UInt8) (k M N : Int) : Nat → Nat → Nat → Except (Int × Nat) (List PN × Nat)
  | 0, p, a =>
    match s[a]? with
    | none => .error (5, s.length)
    | some c =>
      if (c.toNat : Int) ≠ kindOf k M N p 0 then .error (7, a)
      else if kindOf k M N p 0 = 0 then
        match s[a + 1]?, s[a + 2]? with
        | some x, some y => .ok ([⟨0, num2 x y, ByteArray.empty⟩], a + 3)
        | _, _ => .error (5, s.length)
      else
        match s[a + 1]? with
        | none => .error (5, s.length)
        | some z => if 50 < z.toNat then .error (2, a) else if s.length < a + 2 + z.toNat then .error (5, s.length) else .ok ([⟨1, 0, ⟨((s.drop (a + 2)).take z.toNat).toArray⟩⟩], a + 2 + z.toNat)
  | d + 1, p, a =>
    match s[a]? with
    | none => .error (5, s.length)
    | some c =>
      if (c.toNat : Int) ≠ kindOf k M N p (d + 1) then .error (7, a)
      else if kindOf k M N p (d + 1) = 0 then
        match s[a + 1]?, s[a + 2]? with
        | some x, some y => .ok ([⟨0, num2 x y, ByteArray.empty⟩], a + 3)
        | _, _ => .error (5, s.length)
      else if kindOf k M N p (d + 1) = 2 then
        match rdNode s k M N d p (a + 1) with
        | .error e => .error e
        | .ok (l, a') =>
          match rdNode s k M N d (p + pw d) a' with
          | .error e => .error e
          | .ok (r, a'') => .ok (⟨2, 0, ByteArray.empty⟩ :: (l ++ r), a'')
      else
        match rdNode s k M N d p (a + 1) with
        | .error e => .error e
        | .ok (l, a') => .ok (⟨3, 0, ByteArray.empty⟩ :: l, a')

/-- A message's value. -/
structure Msg where
  kind : Int
  m : Int
  n : Int
  root : Int
  tree : List PN

/-- The fields ahead of the tree, the error of them first. -/
def rdHead (s : List UInt8) : Except (Int × Nat) (Int × Int × Int × Int × Nat) :=
  if 4000 < s.length then .error (2, 0) else
  match s[0]? with
  | none => .error (5, 0)
  | some c =>
    if (c.toNat : Int) < 1 ∨ 3 < (c.toNat : Int) then .error (4, 0) else
    if (c.toNat : Int) = 1 then
      match s[1]?, s[2]?, s[3]?, s[4]? with
      | some a, some b, some x, some y => if num2 a b < 1 ∨ 500 < num2 a b then .error (1, 1) else .ok (1, 0, num2 a b, num2 x y, 5)
      | _, _, _, _ => .error (5, s.length)
    else if (c.toNat : Int) = 2 then
      match s[1]?, s[2]?, s[3]?, s[4]?, s[5]?, s[6]? with
      | some u, some v, some a, some b, some x, some y =>
        if num2 a b < 1 ∨ 500 < num2 a b then .error (1, 3) else if num2 u v < 1 ∨ num2 a b < num2 u v then .error (1, 1) else .ok (2, num2 u v, num2 a b, num2 x y, 7)
      | _, _, _, _, _, _ => .error (5, s.length)
    else
      match s[1]?, s[2]?, s[3]?, s[4]? with
      | some u, some v, some a, some b =>
        if num2 a b < 1 ∨ 500 < num2 a b then .error (1, 3) else if num2 a b ≤ num2 u v then .error (1, 1) else .ok (3, num2 u v, num2 a b, 0, 5)
      | _, _, _, _ => .error (5, s.length)

/-- P6. -/
def decS (s : List UInt8) : Except (Int × Nat) Msg :=
  match rdHead s with
  | .error e => .error e
  | .ok (k, m, n, r, a) =>
    if k = 1 then (if a < s.length then .error (6, a) else .ok ⟨k, m, n, r, []⟩) else
    match rdNode s k m n (dep n.toNat) 0 a with
    | .error e => .error e
    | .ok (l, a') => if a' < s.length then .error (6, a') else .ok ⟨k, m, n, r, l⟩

theorem b8_byte (c : UInt8) : b8 (c.toNat : Int) = c := by
  unfold b8; rw [Int.toNat_natCast]; exact UInt8.ofNat_toNat
theorem two8_num2 (a b : UInt8) : two8 (num2 a b) = [a, b] := by
  have h1 := a.toNat_lt
  have h2 := b.toNat_lt
  have e1 : (num2 a b / 256 % 256).toNat = a.toNat := by unfold num2; omega
  have e2 : (num2 a b % 256).toNat = b.toNat := by unfold num2; omega
  unfold two8
  rw [e1, e2, UInt8.ofNat_toNat, UInt8.ofNat_toNat]
theorem num2_two8 (g : Int) (h0 : 0 ≤ g) (h1 : g ≤ 65535) : num2 (UInt8.ofNat (g / 256 % 256).toNat) (UInt8.ofNat (g % 256).toNat) = g := by
  have e1 := b8_nat (g / 256 % 256) (by omega) (by omega)
  have e2 := b8_nat (g % 256) (by omega) (by omega)
  unfold b8 at e1 e2
  unfold num2
  rw [e1, e2]; omega

/-- Bytes of s from a on. -/
def At (s : List UInt8) (a : Nat) (l : List UInt8) : Prop := (s.drop a).take l.length = l ∧ a + l.length ≤ s.length
theorem At.get {s : List UInt8} {a : Nat} {l : List UInt8} (h : At s a l) (j : Nat) (hj : j < l.length) : s[a + j]? = some l[j] := by
  have e : l[j]? = some l[j] := List.getElem?_eq_getElem hj
  have e2 : ((s.drop a).take l.length)[j]? = l[j]? := congrArg (fun x => x[j]?) h.1
  rw [List.getElem?_take, if_pos hj, List.getElem?_drop, e] at e2
  exact e2
theorem At.of_get {s : List UInt8} {a : Nat} {l : List UInt8} (h : ∀ j (hj : j < l.length), s[a + j]? = some l[j]) (hl : a + l.length ≤ s.length) : At s a l := by
  refine ⟨?_, hl⟩
  apply List.ext_getElem?
  intro j
  rw [List.getElem?_take]
  by_cases hj : j < l.length
  · rw [if_pos hj, List.getElem?_drop, h j hj, List.getElem?_eq_getElem hj]
  · rw [if_neg hj, List.getElem?_eq_none (by omega)]
theorem At.append {s : List UInt8} {a : Nat} {l r : List UInt8} : At s a (l ++ r) ↔ At s a l ∧ At s (a + l.length) r := by
  constructor
  · intro h
    have hl := h.2
    rw [List.length_append] at hl
    refine ⟨At.of_get (fun j hj => ?_) (by omega), At.of_get (fun j hj => ?_) (by omega)⟩
    · have := h.get j (by rw [List.length_append]; omega)
      rw [this, List.getElem_append_left hj]
    · have := h.get (l.length + j) (by rw [List.length_append]; omega)
      rw [Nat.add_assoc, this, List.getElem_append_right (by omega)]
      simp
  · rintro ⟨h1, h2⟩
    refine At.of_get (fun j hj => ?_) (by have := h2.2; rw [List.length_append]; omega)
    by_cases hjl : j < l.length
    · rw [h1.get j hjl, List.getElem_append_left hjl]
    · rw [List.length_append] at hj
      have := h2.get (j - l.length) (by omega)
      rw [show a + l.length + (j - l.length) = a + j by omega] at this
      rw [this, List.getElem_append_right (by omega)]

theorem encNs_one (x : PN) : encNs [x] = encN x := by unfold encNs; simp
theorem encNs_cons (x : PN) (l : List PN) : encNs (x :: l) = encN x ++ encNs l := by unfold encNs; rw [List.map_cons, List.flatten_cons]

/-- A tree of the shape whose bytes stand there is read. -/
theorem rdNode_shp (s : List UInt8) (k M N : Int) {d p : Nat} {l : List PN} (h : Shp k M N d p l) : ∀ a, At s a (encNs l) → rdNode s k M N d p a = .ok (l, a + (encNs l).length) := by
  induction h with
  | stub d p g hk h0 h1 =>
    intro a ha
    have e : encNs [(⟨0, g, ByteArray.empty⟩ : PN)] = [0, UInt8.ofNat (g / 256 % 256).toNat, UInt8.ofNat (g % 256).toNat] := by
      rw [encNs_one]; rfl
    rw [e] at ha ⊢
    have q0 := ha.get 0 (by simp)
    have q1 := ha.get 1 (by simp)
    have q2 := ha.get 2 (by simp)
    simp only [Nat.add_zero, List.getElem_cons_zero, List.getElem_cons_succ] at q0 q1 q2
    cases d with
    | zero => simp [rdNode, q0, q1, q2, hk, num2_two8 g h0 h1]
    | succ d => simp [rdNode, q0, q1, q2, hk, num2_two8 g h0 h1]
  | leaf p e hk he =>
    intro a ha
    have hee : e.data.toList.length = e.size := by rw [Array.length_toList]; rfl
    have hb : (b8 (e.size : Int)).toNat = e.size := by have := b8_nat (e.size : Int) (by omega) (by omega); omega
    have en : encNs [(⟨1, 0, e⟩ : PN)] = [1, b8 (e.size : Int)] ++ e.data.toList := by
      rw [encNs_one]; rfl
    rw [en] at ha ⊢
    obtain ⟨h1, h2⟩ := At.append.1 ha
    have q0 := h1.get 0 (by simp)
    have q1 := h1.get 1 (by simp)
    simp only [Nat.add_zero, List.getElem_cons_zero, List.getElem_cons_succ] at q0 q1
    have h3 := h2.2
    have h4 := h2.1
    rw [hee] at h3 h4
    simp only [List.length_cons, List.length_nil] at h3 h4
    have hd : (⟨((s.drop (a + 2)).take e.size).toArray⟩ : ByteArray) = e := by
      rw [h4]
    simp [rdNode, q0, q1, hk, hb, hd, hee]
    rw [if_neg (by omega), if_neg (by omega)]
    congr 2
    omega
  | two d p l r hk _ _ ihl ihr =>
    intro a ha
    have en : encNs ((⟨2, 0, ByteArray.empty⟩ : PN) :: (l ++ r)) = [2] ++ (encNs l ++ encNs r) := by
      rw [encNs_cons, encNs_append]; rfl
    rw [en] at ha ⊢
    obtain ⟨h1, h2⟩ := At.append.1 ha
    obtain ⟨h3, h4⟩ := At.append.1 h2
    have q0 := h1.get 0 (by simp)
    simp only [Nat.add_zero, List.getElem_cons_zero] at q0
    have e1 := ihl (a + 1) h3
    have e2 := ihr (a + 1 + (encNs l).length) h4
    simp [rdNode, q0, hk, e1, e2]
    omega
  | alone d p l hk _ ihl =>
    intro a ha
    have en : encNs ((⟨3, 0, ByteArray.empty⟩ : PN) :: l) = [3] ++ encNs l := by
      rw [encNs_cons]; rfl
    rw [en] at ha ⊢
    obtain ⟨h1, h2⟩ := At.append.1 ha
    have q0 := h1.get 0 (by simp)
    simp only [Nat.add_zero, List.getElem_cons_zero] at q0
    have e1 := ihl (a + 1) h2
    simp [rdNode, q0, hk, e1]
    omega
theorem at_one {s : List UInt8} {a : Nat} {c : UInt8} (h : s[a]? = some c) : At s a [c] := by
  have hl : a < s.length := by
    rcases Nat.lt_or_ge a s.length with h' | h'
    · exact h'
    · rw [List.getElem?_eq_none h'] at h; cases h
  refine At.of_get (fun j hj => ?_) (by simp; omega)
  have : j = 0 := by simp at hj; exact hj
  subst this
  simpa using h
theorem at_cons {s : List UInt8} {a : Nat} {c : UInt8} {l : List UInt8} (h : s[a]? = some c) (hl : At s (a + 1) l) : At s a (c :: l) := by
  have := (At.append (s := s) (a := a) (l := [c]) (r := l)).2 ⟨at_one h, hl⟩
  exact this
theorem u8_of_int {c : UInt8} {k : Int} (h : (c.toNat : Int) = k) : c = b8 k := by rw [← h, b8_byte]

/-- A tree that is read is of the shape, and its bytes stand there. -/
theorem rdNode_ok (s : List UInt8) (k M N : Int) : ∀ (d p a : Nat) (l : List PN) (a' : Nat), rdNode s k M N d p a = .ok (l, a') → Shp k M N d p l ∧ At s a (encNs l) ∧ a' = a + (encNs l).length := by
  have stub : ∀ (d p a : Nat) (x y c : UInt8), kindOf k M N p d = 0 → (c.toNat : Int) = 0 → s[a]? = some c → s[a + 1]? = some x → s[a + 2]? = some y →
      Shp k M N d p [⟨0, num2 x y, ByteArray.empty⟩] ∧ At s a (encNs [⟨0, num2 x y, ByteArray.empty⟩]) ∧ a + 3 = a + (encNs [(⟨0, num2 x y, ByteArray.empty⟩ : PN)]).length := by
    intro d p a x y c hk hc h0 h1 h2
    have e : encNs [(⟨0, num2 x y, ByteArray.empty⟩ : PN)] = [c, x, y] := by
      rw [encNs_one, u8_of_int hc]
      show b8 0 :: (two8 (num2 x y) ++ []) = _
      rw [two8_num2]; rfl
    rw [e]
    exact ⟨.stub d p _ hk (num2_bd x y).1 (num2_bd x y).2, at_cons h0 (at_cons h1 (at_one h2)), rfl⟩
  intro d
  induction d with
  | zero =>
    intro p a l a' h
    rw [rdNode] at h
    split at h
    · cases h
    · rename_i c h0
      split at h
      · cases h
      · rename_i hc
        have hc' : (c.toNat : Int) = kindOf k M N p 0 := by omega
        split at h
        · rename_i hk
          split at h
          · rename_i x y h1 h2
            simp only [Except.ok.injEq, Prod.mk.injEq] at h
            obtain ⟨rfl, rfl⟩ := h
            exact stub 0 p a x y c hk (by omega) h0 h1 h2
          · cases h
        · rename_i hk
          have hk1 : kindOf k M N p 0 = 1 := by rcases kindOf_zero k M N p with h' | h' <;> omega
          split at h
          · cases h
          · rename_i z hz
            split at h
            · cases h
            · split at h
              · cases h
              · simp only [Except.ok.injEq, Prod.mk.injEq] at h
                obtain ⟨rfl, rfl⟩ := h
                have hs : ((s.drop (a + 2)).take z.toNat).length = z.toNat := by rw [List.length_take, List.length_drop]; omega
                have hsz : (⟨((s.drop (a + 2)).take z.toNat).toArray⟩ : ByteArray).size = z.toNat := by
                  show ((s.drop (a + 2)).take z.toNat).toArray.size = _
                  rw [List.size_toArray, hs]
                have e : encNs [(⟨1, 0, ⟨((s.drop (a + 2)).take z.toNat).toArray⟩⟩ : PN)] = c :: z :: (s.drop (a + 2)).take z.toNat := by
                  rw [encNs_one, u8_of_int (hc'.trans hk1)]
                  show b8 1 :: ([] ++ (b8 ((⟨((s.drop (a + 2)).take z.toNat).toArray⟩ : ByteArray).size : Int) :: ((s.drop (a + 2)).take z.toNat))) = _
                  rw [hsz, b8_byte]; rfl
                rw [e]
                refine ⟨.leaf p _ hk1 (by rw [hsz]; omega), at_cons h0 (at_cons hz ⟨by rw [hs], by rw [hs]; omega⟩), ?_⟩
                simp only [List.length_cons, hs]; omega
  | succ d ih =>
    intro p a l a' h
    rw [rdNode] at h
    split at h
    · cases h
    · rename_i c h0
      split at h
      · cases h
      · rename_i hc
        have hc' : (c.toNat : Int) = kindOf k M N p (d + 1) := by omega
        split at h
        · rename_i hk
          split at h
          · rename_i x y h1 h2
            simp only [Except.ok.injEq, Prod.mk.injEq] at h
            obtain ⟨rfl, rfl⟩ := h
            exact stub (d + 1) p a x y c hk (by omega) h0 h1 h2
          · cases h
        · rename_i hk0
          split at h
          · rename_i hk2
            split at h
            · cases h
            · rename_i l1 a1 e1
              split at h
              · cases h
              · rename_i l2 a2 e2
                simp only [Except.ok.injEq, Prod.mk.injEq] at h
                obtain ⟨rfl, rfl⟩ := h
                obtain ⟨s1, t1, rfl⟩ := ih p (a + 1) _ _ e1
                obtain ⟨s2, t2, rfl⟩ := ih _ _ _ _ e2
                have en : encNs ((⟨2, 0, ByteArray.empty⟩ : PN) :: (l1 ++ l2)) = c :: (encNs l1 ++ encNs l2) := by
                  rw [encNs_cons, encNs_append, u8_of_int (hc'.trans hk2)]; rfl
                rw [en]
                refine ⟨.two d p _ _ hk2 s1 s2, at_cons h0 (At.append.2 ⟨t1, t2⟩), ?_⟩
                simp only [List.length_cons, List.length_append]; omega
          · rename_i hk2
            have hk3 : kindOf k M N p (d + 1) = 3 := by rcases kindOf_succ k M N p d with h' | h' | h' <;> omega
            split at h
            · cases h
            · rename_i l1 a1 e1
              simp only [Except.ok.injEq, Prod.mk.injEq] at h
              obtain ⟨rfl, rfl⟩ := h
              obtain ⟨s1, t1, rfl⟩ := ih p (a + 1) _ _ e1
              have en : encNs ((⟨3, 0, ByteArray.empty⟩ : PN) :: l1) = c :: encNs l1 := by
                rw [encNs_cons, u8_of_int (hc'.trans hk3)]; rfl
              rw [en]
              refine ⟨.alone d p _ hk3 s1, at_cons h0 t1, ?_⟩
              simp only [List.length_cons]; omega

end Go.Proofs.YtlndinigbppafaaGreat

/-
  Which values a message has, as plain mathematics: the document's P7 beside its P6.
-/
namespace Go.Proofs.YtlndinigbppafaaGreat

/-- The values of which the document's bytes tell. -/
structure ValidM (x : Msg) : Prop where
  k : x.kind = 1 ∨ x.kind = 2 ∨ x.kind = 3
  n : 1 ≤ x.n ∧ x.n ≤ 500
  r : 0 ≤ x.root ∧ x.root ≤ 65535
  c : x.kind = 1 → x.m = 0 ∧ x.tree = []
  g : x.kind = 2 → 1 ≤ x.m ∧ x.m ≤ x.n
  m : x.kind = 3 → 0 ≤ x.m ∧ x.m < x.n ∧ x.root = 0
  t : x.kind ≠ 1 → Shp x.kind x.m x.n (dep x.n.toNat) 0 x.tree

def encV (x : Msg) : List UInt8 := encM x.kind x.m x.n x.root x.tree

theorem growth_noleaf (M N : Int) (p : Nat) : kindOf 2 M N p 0 ≠ 1 := by
  unfold kindOf
  have h : (p : Int) + pw 0 ≤ M ∨ M ≤ p := by rw [pw_zero]; omega
  simp [h]
/-- Of two nodes below one at least one is a stub. -/
theorem stub_one (k M N : Int) (p d : Nat) (hk : kindOf k M N p d ≠ 0) : kindOf k M N (p + pw d) d = 0 := by
  unfold kindOf at hk ⊢
  by_cases h2 : k = 2
  · subst h2
    simp only [if_pos] at hk ⊢
    rw [if_pos]
    have h : ¬ ((p : Int) + pw d ≤ M ∨ M ≤ p) := fun h => hk (if_pos h)
    rw [Int.natCast_add]; omega
  · simp only [if_neg h2] at hk ⊢
    rw [if_pos]
    have h : ¬ (M < p ∨ (p : Int) + pw d ≤ M) := fun h => hk (if_pos h)
    rw [Int.natCast_add]; omega
theorem shp_stub {k M N : Int} {d p : Nat} {l : List PN} (h : Shp k M N d p l) (hk : kindOf k M N p d = 0) : (encNs l).length = 3 := by
  cases h with
  | stub _ _ g _ _ _ => rw [encNs_one]; rfl
  | leaf _ e h1 _ => omega
  | two d _ a b h1 _ _ => omega
  | alone d _ a h1 _ => omega
theorem shp_len {k M N : Int} {d p : Nat} {l : List PN} (h : Shp k M N d p l) : (encNs l).length ≤ 52 + 4 * d := by
  induction h with
  | stub d p g _ _ _ => rw [encNs_one]; show 3 ≤ _; omega
  | leaf p e _ he =>
    have := encN_le ⟨1, 0, e⟩ 48
    rw [encNs_one]
    show (b8 1 :: ([] ++ (b8 e.size :: e.data.toList))).length ≤ _
    have hee : e.data.toList.length = e.size := by rw [Array.length_toList]; rfl
    simp only [List.nil_append, List.length_cons, hee]; omega
  | two d p a b hk ha hb iha ihb =>
    rw [encNs_cons, encNs_append]
    have e : (encN ⟨2, 0, ByteArray.empty⟩).length = 1 := rfl
    rw [List.length_append, List.length_append, e]
    by_cases h0 : kindOf k M N p d = 0
    · have := shp_stub ha h0; omega
    · have := shp_stub hb (stub_one k M N p d h0); omega
  | alone d p a hk ha iha =>
    rw [encNs_cons]
    have e : (encN ⟨3, 0, ByteArray.empty⟩).length = 1 := rfl
    rw [List.length_append, e]; omega
theorem dep_500 (n : Int) (h : n ≤ 500) : dep n.toNat ≤ 9 := dep_le _ _ (by rw [pw_9]; omega)
theorem ValidM.len {x : Msg} (h : ValidM x) : (encV x).length ≤ 4000 := by
  unfold encV encM
  have h1 := encH_le x.kind x.m x.n x.root
  rw [List.length_append]
  by_cases hk : x.kind = 1
  · rw [(h.c hk).2]
    have e : (encNs ([] : List PN)).length = 0 := rfl
    omega
  · have := shp_len (h.t hk)
    have := dep_500 x.n h.n.2
    omega
theorem at_zero (s : List UInt8) : At s 0 s := ⟨by rw [List.drop_zero, List.take_length], by omega⟩
theorem at_whole {s l : List UInt8} (h : At s 0 l) (hl : s.length ≤ l.length) : s = l := by
  have := h.1; rw [List.drop_zero, List.take_of_length_le hl] at this; exact this

theorem num2_of_two8 (g : Int) (h0 : 0 ≤ g) (h1 : g ≤ 65535) {a b : UInt8} (e : two8 g = [a, b]) : num2 a b = g := by
  unfold two8 at e
  simp only [List.cons.injEq, and_true] at e
  rw [← e.1, ← e.2]; exact num2_two8 g h0 h1

/-- The bytes of a value that may be are read as it. -/
theorem decS_enc {x : Msg} (h : ValidM x) : decS (encV x) = .ok x := by
  obtain ⟨k, m, n, r, t⟩ := x
  have hl := h.len
  obtain ⟨hk, hn, hr, hc, hg, hm, ht⟩ := h
  simp only at hk hn hr hc hg hm ht
  have hn2 := num2_two8 n (by omega) (by omega)
  have hr2 := num2_two8 r (by omega) (by omega)
  rcases hk with rfl | rfl | rfl
  · obtain ⟨rfl, rfl⟩ := hc rfl
    have e : encV ⟨1, 0, n, r, []⟩ = [1, UInt8.ofNat (n / 256 % 256).toNat, UInt8.ofNat (n % 256).toNat, UInt8.ofNat (r / 256 % 256).toNat, UInt8.ofNat (r % 256).toNat] := rfl
    rw [e]
    simp [decS, rdHead, hn2, hr2]
    rw [if_neg (by omega)]
    simp
  · have hg := hg rfl
    have hm2 := num2_two8 m (by omega) (by omega)
    have ht := ht (by omega)
    have e : encV ⟨2, m, n, r, t⟩ = [2, UInt8.ofNat (m / 256 % 256).toNat, UInt8.ofNat (m % 256).toNat, UInt8.ofNat (n / 256 % 256).toNat, UInt8.ofNat (n % 256).toNat, UInt8.ofNat (r / 256 % 256).toNat, UInt8.ofNat (r % 256).toNat] ++ encNs t := rfl
    rw [e] at hl ⊢
    have ha := (At.append.1 (at_zero ([2, UInt8.ofNat (m / 256 % 256).toNat, UInt8.ofNat (m % 256).toNat, UInt8.ofNat (n / 256 % 256).toNat, UInt8.ofNat (n % 256).toNat, UInt8.ofNat (r / 256 % 256).toNat, UInt8.ofNat (r % 256).toNat] ++ encNs t))).2
    have hd := rdNode_shp _ 2 m n ht _ ha
    have hh : rdHead ([2, UInt8.ofNat (m / 256 % 256).toNat, UInt8.ofNat (m % 256).toNat, UInt8.ofNat (n / 256 % 256).toNat, UInt8.ofNat (n % 256).toNat, UInt8.ofNat (r / 256 % 256).toNat, UInt8.ofNat (r % 256).toNat] ++ encNs t) = .ok (2, m, n, r, 7) := by
      rw [rdHead, if_neg (by omega)]
      simp [hn2, hr2, hm2]
      rw [if_neg (by omega), if_neg (by omega)]
    rw [decS, hh]
    simp only [List.length_cons, List.length_nil, Nat.zero_add, Nat.reduceAdd] at hd
    simp only [hd]
    rw [if_neg (by omega), if_neg (by simp; omega)]
  · have hm := hm rfl
    obtain ⟨hm0, hm1, rfl⟩ := hm
    have hm2 := num2_two8 m (by omega) (by omega)
    have ht := ht (by omega)
    have e : encV ⟨3, m, n, 0, t⟩ = [3, UInt8.ofNat (m / 256 % 256).toNat, UInt8.ofNat (m % 256).toNat, UInt8.ofNat (n / 256 % 256).toNat, UInt8.ofNat (n % 256).toNat] ++ encNs t := rfl
    rw [e] at hl ⊢
    have ha := (At.append.1 (at_zero ([3, UInt8.ofNat (m / 256 % 256).toNat, UInt8.ofNat (m % 256).toNat, UInt8.ofNat (n / 256 % 256).toNat, UInt8.ofNat (n % 256).toNat] ++ encNs t))).2
    have hd := rdNode_shp _ 3 m n ht _ ha
    have hh : rdHead ([3, UInt8.ofNat (m / 256 % 256).toNat, UInt8.ofNat (m % 256).toNat, UInt8.ofNat (n / 256 % 256).toNat, UInt8.ofNat (n % 256).toNat] ++ encNs t) = .ok (3, m, n, 0, 5) := by
      rw [rdHead, if_neg (by omega)]
      simp [hn2, hm2]
      rw [if_neg (by omega), if_neg (by omega)]
    rw [decS, hh]
    simp only [List.length_cons, List.length_nil, Nat.zero_add, Nat.reduceAdd] at hd
    simp only [hd]
    rw [if_neg (by omega), if_neg (by simp; omega)]

/-- What is read is a value that may be, and its bytes are those. -/
theorem decS_ok {s : List UInt8} {x : Msg} (h : decS s = .ok x) : ValidM x ∧ s = encV x := by
  unfold decS at h
  split at h
  · cases h
  · rename_i k m n r a hh
    unfold rdHead at hh
    split at hh
    · cases hh
    split at hh
    · cases hh
    rename_i c h0
    split at hh
    · cases hh
    split at hh
    · rename_i hc
      split at hh
      · rename_i a1 b1 x1 y1 h1 h2 h3 h4
        split at hh
        · cases hh
        rename_i hn
        simp only [Except.ok.injEq, Prod.mk.injEq] at hh
        obtain ⟨rfl, rfl, rfl, rfl, rfl⟩ := hh
        rw [if_pos rfl] at h
        split at h
        · cases h
        rename_i hl
        simp only [Except.ok.injEq] at h
        subst h
        have hb := num2_bd x1 y1
        refine ⟨⟨Or.inl rfl, ⟨by simp only; omega, by simp only; omega⟩, hb, fun _ => ⟨rfl, rfl⟩, fun h => by simp at h, fun h => by simp at h, fun h => absurd rfl h⟩, ?_⟩
        have e : encV ⟨1, 0, num2 a1 b1, num2 x1 y1, []⟩ = [c, a1, b1, x1, y1] := by
          rw [u8_of_int hc]
          show b8 1 :: ([] ++ (two8 (num2 a1 b1) ++ two8 (num2 x1 y1))) ++ [] = _
          rw [two8_num2, two8_num2]; rfl
        rw [e]
        exact at_whole (at_cons h0 (at_cons h1 (at_cons h2 (at_cons h3 (at_one h4))))) (by simp; omega)
      · cases hh
    split at hh
    · rename_i hc1 hc
      split at hh
      · rename_i u1 v1 a1 b1 x1 y1 h1 h2 h3 h4 h5 h6
        split at hh
        · cases hh
        rename_i hn
        split at hh
        · cases hh
        rename_i hm
        simp only [Except.ok.injEq, Prod.mk.injEq] at hh
        obtain ⟨rfl, rfl, rfl, rfl, rfl⟩ := hh
        rw [if_neg (by omega)] at h
        split at h
        · cases h
        rename_i l a' hd
        split at h
        · cases h
        rename_i hl
        simp only [Except.ok.injEq] at h
        subst h
        obtain ⟨hs, ha, rfl⟩ := rdNode_ok s 2 _ _ _ _ _ _ _ hd
        have hb := num2_bd x1 y1
        refine ⟨⟨Or.inr (Or.inl rfl), ⟨by simp only; omega, by simp only; omega⟩, hb, fun h => by simp at h, fun _ => ⟨by simp only; omega, by simp only; omega⟩, fun h => by simp at h, fun _ => hs⟩, ?_⟩
        have e : encV ⟨2, num2 u1 v1, num2 a1 b1, num2 x1 y1, l⟩ = c :: u1 :: v1 :: a1 :: b1 :: x1 :: y1 :: encNs l := by
          rw [u8_of_int hc]
          show b8 2 :: (two8 (num2 u1 v1) ++ (two8 (num2 a1 b1) ++ two8 (num2 x1 y1))) ++ encNs l = _
          rw [two8_num2, two8_num2, two8_num2]; rfl
        rw [e]
        exact at_whole (at_cons h0 (at_cons h1 (at_cons h2 (at_cons h3 (at_cons h4 (at_cons h5 (at_cons h6 ha))))))) (by simp only [List.length_cons]; omega)
      · cases hh
    · rename_i hc1 hc2
      have hc : (c.toNat : Int) = 3 := by omega
      split at hh
      · rename_i u1 v1 a1 b1 h1 h2 h3 h4
        split at hh
        · cases hh
        rename_i hn
        split at hh
        · cases hh
        rename_i hm
        simp only [Except.ok.injEq, Prod.mk.injEq] at hh
        obtain ⟨rfl, rfl, rfl, rfl, rfl⟩ := hh
        rw [if_neg (by omega)] at h
        split at h
        · cases h
        rename_i l a' hd
        split at h
        · cases h
        rename_i hl
        simp only [Except.ok.injEq] at h
        subst h
        obtain ⟨hs, ha, rfl⟩ := rdNode_ok s 3 _ _ _ _ _ _ _ hd
        have hb := num2_bd u1 v1
        refine ⟨⟨Or.inr (Or.inr rfl), ⟨by simp only; omega, by simp only; omega⟩, ⟨by simp, by simp⟩, fun h => by simp at h, fun h => by simp at h, fun _ => ⟨hb.1, by simp only; omega, rfl⟩, fun _ => hs⟩, ?_⟩
        have e : encV ⟨3, num2 u1 v1, num2 a1 b1, 0, l⟩ = c :: u1 :: v1 :: a1 :: b1 :: encNs l := by
          rw [u8_of_int hc]
          show b8 3 :: (two8 (num2 u1 v1) ++ (two8 (num2 a1 b1) ++ [])) ++ encNs l = _
          rw [two8_num2, two8_num2]; rfl
        rw [e]
        exact at_whole (at_cons h0 (at_cons h1 (at_cons h2 (at_cons h3 (at_cons h4 ha))))) (by simp only [List.length_cons]; omega)
      · cases hh
end Go.Proofs.YtlndinigbppafaaGreat

/-
  Reading a message by its kind, as plain mathematics.
-/
namespace Go.Proofs.YtlndinigbppafaaGreat

/-- What is left of reading behind the fields: the tree, and the end. -/
def decT (l : List UInt8) (k M N R : Int) (a : Nat) : Except (Int × Nat) Msg :=
  match rdNode l k M N (dep N.toNat) 0 a with
  | .error e => .error e
  | .ok (t, a') => if a' < l.length then .error (6, a') else .ok ⟨k, M, N, R, t⟩
def dec1G (l : List UInt8) (N R : Int) : Except (Int × Nat) Msg :=
  if N < 1 ∨ 500 < N then .error (1, 1) else if 5 < l.length then .error (6, 5) else .ok ⟨1, 0, N, R, []⟩
def dec2G (l : List UInt8) (M N R : Int) : Except (Int × Nat) Msg :=
  if N < 1 ∨ 500 < N then .error (1, 3) else if M < 1 ∨ N < M then .error (1, 1) else decT l 2 M N R 7
def dec3G (l : List UInt8) (M N : Int) : Except (Int × Nat) Msg :=
  if N < 1 ∨ 500 < N then .error (1, 3) else if N ≤ M then .error (1, 1) else decT l 3 M N 0 5

theorem decS_long (l : List UInt8) (h : 4000 < l.length) : decS l = .error (2, 0) := by
  unfold decS rdHead; rw [if_pos h]
theorem decS_nil (l : List UInt8) (h : l.length = 0) : decS l = .error (5, 0) := by
  rw [List.eq_nil_of_length_eq_zero h]; rfl
theorem decS_kind (l : List UInt8) (h : 0 < l.length) (hl : l.length ≤ 4000) (hk : (l[0].toNat : Int) < 1 ∨ (3 : Int) < (l[0].toNat : Int)) : decS l = .error (4, 0) := by
  unfold decS rdHead
  rw [if_neg (by omega), List.getElem?_eq_getElem h]
  simp only
  rw [if_pos hk]

theorem decS_1s (l : List UInt8) (h : 0 < l.length) (hk : (l[0].toNat : Int) = 1) (h5 : l.length < 5) : decS l = .error (5, l.length) := by
  unfold decS rdHead
  rw [if_neg (by omega), List.getElem?_eq_getElem h]
  simp only
  rw [if_neg (by omega), if_pos hk, List.getElem?_eq_none (show l.length ≤ 4 by omega)]
  cases l[1]? <;> cases l[2]? <;> cases l[3]? <;> rfl
theorem decS_2s (l : List UInt8) (h : 0 < l.length) (hk : (l[0].toNat : Int) = 2) (h5 : l.length < 7) : decS l = .error (5, l.length) := by
  unfold decS rdHead
  rw [if_neg (by omega), List.getElem?_eq_getElem h]
  simp only
  rw [if_neg (by omega), if_neg (by omega), if_pos hk, List.getElem?_eq_none (show l.length ≤ 6 by omega)]
  cases l[1]? <;> cases l[2]? <;> cases l[3]? <;> cases l[4]? <;> cases l[5]? <;> rfl
theorem decS_3s (l : List UInt8) (h : 0 < l.length) (hk : (l[0].toNat : Int) = 3) (h5 : l.length < 5) : decS l = .error (5, l.length) := by
  unfold decS rdHead
  rw [if_neg (by omega), List.getElem?_eq_getElem h]
  simp only
  rw [if_neg (by omega), if_neg (by omega), if_neg (by omega), List.getElem?_eq_none (show l.length ≤ 4 by omega)]
  cases l[1]? <;> cases l[2]? <;> cases l[3]? <;> rfl
theorem decS_1 (l : List UInt8) (h5 : 5 ≤ l.length) (hl : l.length ≤ 4000) (hk : (l[0].toNat : Int) = 1) : decS l = dec1G l (num2 l[1] l[2]) (num2 l[3] l[4]) := by
  unfold decS rdHead dec1G
  rw [if_neg (by omega), List.getElem?_eq_getElem (show 0 < l.length by omega)]
  simp only
  rw [if_neg (by omega), if_pos hk, List.getElem?_eq_getElem (show 1 < l.length by omega), List.getElem?_eq_getElem (show 2 < l.length by omega), List.getElem?_eq_getElem (show 3 < l.length by omega), List.getElem?_eq_getElem (show 4 < l.length by omega)]
  simp only
  by_cases hN : num2 l[1] l[2] < 1 ∨ (500 : Int) < num2 l[1] l[2]
  · rw [if_pos hN, if_pos hN]
  · rw [if_neg hN, if_neg hN]
    simp only [if_pos]
theorem decS_2 (l : List UInt8) (h5 : 7 ≤ l.length) (hl : l.length ≤ 4000) (hk : (l[0].toNat : Int) = 2) : decS l = dec2G l (num2 l[1] l[2]) (num2 l[3] l[4]) (num2 l[5] l[6]) := by
  unfold decS rdHead dec2G decT
  rw [if_neg (by omega), List.getElem?_eq_getElem (show 0 < l.length by omega)]
  simp only
  rw [if_neg (by omega), if_neg (by omega), if_pos hk, List.getElem?_eq_getElem (show 1 < l.length by omega), List.getElem?_eq_getElem (show 2 < l.length by omega), List.getElem?_eq_getElem (show 3 < l.length by omega), List.getElem?_eq_getElem (show 4 < l.length by omega), List.getElem?_eq_getElem (show 5 < l.length by omega), List.getElem?_eq_getElem (show 6 < l.length by omega)]
  simp only
  by_cases hN : num2 l[3] l[4] < 1 ∨ (500 : Int) < num2 l[3] l[4]
  · rw [if_pos hN, if_pos hN]
  · rw [if_neg hN, if_neg hN]
    by_cases hM : num2 l[1] l[2] < 1 ∨ num2 l[3] l[4] < num2 l[1] l[2]
    · rw [if_pos hM, if_pos hM]
    · rw [if_neg hM, if_neg hM]
      simp only
      rw [if_neg (by omega)]
      all_goals (generalize rdNode _ _ _ _ _ _ _ = r; cases r <;> rfl)
theorem decS_3 (l : List UInt8) (h5 : 5 ≤ l.length) (hl : l.length ≤ 4000) (hk : (l[0].toNat : Int) = 3) : decS l = dec3G l (num2 l[1] l[2]) (num2 l[3] l[4]) := by
  unfold decS rdHead dec3G decT
  rw [if_neg (by omega), List.getElem?_eq_getElem (show 0 < l.length by omega)]
  simp only
  rw [if_neg (by omega), if_neg (by omega), if_neg (by omega), List.getElem?_eq_getElem (show 1 < l.length by omega), List.getElem?_eq_getElem (show 2 < l.length by omega), List.getElem?_eq_getElem (show 3 < l.length by omega), List.getElem?_eq_getElem (show 4 < l.length by omega)]
  simp only
  by_cases hN : num2 l[3] l[4] < 1 ∨ (500 : Int) < num2 l[3] l[4]
  · rw [if_pos hN, if_pos hN]
  · rw [if_neg hN, if_neg hN]
    by_cases hM : num2 l[3] l[4] ≤ num2 l[1] l[2]
    · rw [if_pos hM, if_pos hM]
    · rw [if_neg hM, if_neg hM]
      simp only
      rw [if_neg (by omega)]
      all_goals (generalize rdNode _ _ _ _ _ _ _ = r; cases r <;> rfl)
end Go.Proofs.YtlndinigbppafaaGreat

/-
  Reading a message that was cut short, or has a byte more, as plain mathematics.
-/
namespace Go.Proofs.YtlndinigbppafaaGreat

/-- The bytes of s from a on, up to its end, are the first of l, and not all. -/
def Cut (s : List UInt8) (a : Nat) (l : List UInt8) : Prop := a ≤ s.length ∧ s.length < a + l.length ∧ ∀ j, a + j < s.length → s[a + j]? = l[j]?

theorem Cut.split {s : List UInt8} {a : Nat} {l r : List UInt8} (h : Cut s a (l ++ r)) : Cut s a l ∨ (At s a l ∧ Cut s (a + l.length) r) := by
  obtain ⟨h1, h2, h3⟩ := h
  rw [List.length_append] at h2
  rcases Nat.lt_or_ge s.length (a + l.length) with h | h
  · left
    refine ⟨h1, h, fun j hj => ?_⟩
    rw [h3 j hj, List.getElem?_append_left (by omega)]
  · right
    refine ⟨At.of_get (fun j hj => ?_) h, h, by omega, fun j hj => ?_⟩
    · rcases Nat.lt_or_ge (a + j) s.length with hh | hh
      · rw [h3 j hh, List.getElem?_append_left hj, List.getElem?_eq_getElem hj]
      · omega
    · rw [Nat.add_assoc, h3 (l.length + j) (by omega), List.getElem?_append_right (by omega)]
      simp

/-- The first byte, if the cut is behind it. -/
theorem Cut.one {s : List UInt8} {a : Nat} {c : UInt8} {r : List UInt8} (h : Cut s a (c :: r)) : s[a]? = none ∨ (s[a]? = some c ∧ Cut s (a + 1) r) := by
  rcases Cut.split (l := [c]) (r := r) h with h | ⟨h, h'⟩
  · left
    have := h.1; have := h.2.1
    simp only [List.length_cons, List.length_nil] at this
    exact List.getElem?_eq_none (by omega)
  · right
    have := h.get 0 (by simp)
    simp only [Nat.add_zero, List.getElem_cons_zero] at this
    exact ⟨this, h'⟩
theorem Cut.nil {s : List UInt8} {a : Nat} (h : Cut s a []) : False := by
  have := h.1; have := h.2.1
  simp only [List.length_nil] at this
  omega

/-- A tree of the shape whose bytes are cut short is too short. -/
theorem rdNode_cut (s : List UInt8) (k M N : Int) {d p : Nat} {l : List PN} (h : Shp k M N d p l) : ∀ a, Cut s a (encNs l) → rdNode s k M N d p a = .error (5, s.length) := by
  induction h with
  | stub d p g hk h0 h1 =>
    intro a ha
    have e : encNs [(⟨0, g, ByteArray.empty⟩ : PN)] = [0, UInt8.ofNat (g / 256 % 256).toNat, UInt8.ofNat (g % 256).toNat] := by
      rw [encNs_one]; rfl
    rw [e] at ha
    rcases ha.one with q0 | ⟨q0, ha⟩
    · cases d with
      | zero => simp [rdNode, q0]
      | succ d => simp [rdNode, q0]
    · rcases ha.one with q1 | ⟨q1, ha⟩
      · cases d with
        | zero => simp [rdNode, q0, q1, hk]
        | succ d => simp [rdNode, q0, q1, hk]
      · rcases ha.one with q2 | ⟨q2, ha⟩
        · cases d with
          | zero => simp [rdNode, q0, q1, q2, hk]
          | succ d => simp [rdNode, q0, q1, q2, hk]
        · exact ha.nil.elim
  | leaf p e hk he =>
    intro a ha
    have hee : e.data.toList.length = e.size := by rw [Array.length_toList]; rfl
    have hb : (b8 (e.size : Int)).toNat = e.size := by have := b8_nat (e.size : Int) (by omega) (by omega); omega
    have en : encNs [(⟨1, 0, e⟩ : PN)] = 1 :: b8 (e.size : Int) :: e.data.toList := by
      rw [encNs_one]; rfl
    rw [en] at ha
    rcases ha.one with q0 | ⟨q0, ha⟩
    · simp [rdNode, q0]
    · rcases ha.one with q1 | ⟨q1, ha⟩
      · simp [rdNode, q0, q1, hk]
      · have h3 := ha.2.1
        rw [hee] at h3
        simp [rdNode, q0, q1, hk, hb]
        rw [if_neg (by omega), if_pos (by omega)]
  | two d p l r hk hl _ ihl ihr =>
    intro a ha
    have en : encNs ((⟨2, 0, ByteArray.empty⟩ : PN) :: (l ++ r)) = 2 :: (encNs l ++ encNs r) := by
      rw [encNs_cons, encNs_append]; rfl
    rw [en] at ha
    rcases ha.one with q0 | ⟨q0, ha⟩
    · simp [rdNode, q0]
    · rcases ha.split with h1 | ⟨h1, h2⟩
      · simp [rdNode, q0, hk, ihl _ h1]
      · simp [rdNode, q0, hk, rdNode_shp s k M N hl _ h1, ihr _ h2]
  | alone d p l hk _ ihl =>
    intro a ha
    have en : encNs ((⟨3, 0, ByteArray.empty⟩ : PN) :: l) = 3 :: encNs l := by
      rw [encNs_cons]; rfl
    rw [en] at ha
    rcases ha.one with q0 | ⟨q0, ha⟩
    · simp [rdNode, q0]
    · simp [rdNode, q0, hk, ihl _ ha]

theorem cut_of (e t : List UInt8) (c : Nat) (hc : c < t.length) : Cut (e ++ t.take c) e.length t := by
  refine ⟨by simp, ?_, fun j hj => ?_⟩
  · rw [List.length_append, List.length_take]; omega
  · rw [List.length_append, List.length_take] at hj
    rw [List.getElem?_append_right (by omega), Nat.add_sub_cancel_left, List.getElem?_take, if_pos (by omega)]

theorem at_of (e t r : List UInt8) : At (e ++ (t ++ r)) e.length t := by
  have := (At.append.1 (at_zero (e ++ (t ++ r)))).2
  rw [Nat.zero_add] at this
  exact (At.append.1 this).1

/-- The fields of a message that may be, whatever stands behind. -/
theorem rdHead_enc {x : Msg} (h : ValidM x) (t : List UInt8) (hl : (encH x.kind x.m x.n x.root ++ t).length ≤ 4000) : rdHead (encH x.kind x.m x.n x.root ++ t) = .ok (x.kind, x.m, x.n, x.root, (encH x.kind x.m x.n x.root).length) := by
  obtain ⟨k, m, n, r, tr⟩ := x
  obtain ⟨hk, hn, hr, hc, hg, hm, ht⟩ := h
  simp only at hk hn hr hc hg hm ht hl ⊢
  have hn2 := num2_two8 n (by omega) (by omega)
  have hr2 := num2_two8 r (by omega) (by omega)
  rcases hk with rfl | rfl | rfl
  · obtain ⟨rfl, rfl⟩ := hc rfl
    have e : encH 1 0 n r = [1, UInt8.ofNat (n / 256 % 256).toNat, UInt8.ofNat (n % 256).toNat, UInt8.ofNat (r / 256 % 256).toNat, UInt8.ofNat (r % 256).toNat] := rfl
    rw [e] at hl ⊢
    rw [rdHead, if_neg (by omega)]
    simp [hn2, hr2]
    omega
  · have hg := hg rfl
    have hm2 := num2_two8 m (by omega) (by omega)
    have e : encH 2 m n r = [2, UInt8.ofNat (m / 256 % 256).toNat, UInt8.ofNat (m % 256).toNat, UInt8.ofNat (n / 256 % 256).toNat, UInt8.ofNat (n % 256).toNat, UInt8.ofNat (r / 256 % 256).toNat, UInt8.ofNat (r % 256).toNat] := rfl
    rw [e] at hl ⊢
    rw [rdHead, if_neg (by omega)]
    simp [hn2, hr2, hm2]
    rw [if_neg (by omega), if_neg (by omega)]
  · obtain ⟨hm0, hm1, rfl⟩ := hm rfl
    have hm2 := num2_two8 m (by omega) (by omega)
    have e : encH 3 m n 0 = [3, UInt8.ofNat (m / 256 % 256).toNat, UInt8.ofNat (m % 256).toNat, UInt8.ofNat (n / 256 % 256).toNat, UInt8.ofNat (n % 256).toNat] := rfl
    rw [e] at hl ⊢
    rw [rdHead, if_neg (by omega)]
    simp [hn2, hm2]
    rw [if_neg (by omega), if_neg (by omega)]

/-- A message with a byte more. -/
theorem decS_more {x : Msg} (h : ValidM x) (z : UInt8) (hl : (encV x).length < 4000) : decS (encV x ++ [z]) = .error (6, (encV x).length) := by
  have e : encV x = encH x.kind x.m x.n x.root ++ encNs x.tree := rfl
  rw [e] at hl ⊢
  rw [List.append_assoc]
  have hh := rdHead_enc h (encNs x.tree ++ [z]) (by rw [← List.append_assoc, List.length_append]; simp only [List.length_cons, List.length_nil]; omega)
  rw [decS, hh]
  simp only
  by_cases hk : x.kind = 1
  · obtain ⟨hm, ht⟩ := h.c hk
    rw [if_pos hk, ht]
    have e2 : encNs ([] : List PN) = [] := rfl
    rw [e2]
    simp
  · rw [if_neg hk, rdNode_shp _ _ _ _ (h.t hk) _ (at_of _ _ _)]
    simp only
    rw [if_pos (by simp), List.length_append]

/-- A message that is cut short. -/
theorem decS_cut {x : Msg} (h : ValidM x) (c : Nat) (hc : c < (encV x).length) : decS ((encV x).take c) = .error (5, c) := by
  have hlen := h.len
  have hcl : ((encV x).take c).length = c := by rw [List.length_take]; omega
  have e : encV x = encH x.kind x.m x.n x.root ++ encNs x.tree := rfl
  rcases Nat.lt_or_ge c (encH x.kind x.m x.n x.root).length with hh | hh
  · rcases Nat.eq_zero_or_pos c with rfl | h0
    · rw [decS_nil _ hcl]
    · have hp : 0 < ((encV x).take c).length := by omega
      have hget : ((encV x).take c)[0] = b8 x.kind := by
        rw [List.getElem_take]
        have : (encV x)[0]? = some (b8 x.kind) := by rw [e]; rfl
        rw [List.getElem?_eq_getElem (by omega)] at this
        exact Option.some.inj this
      have key : ∀ r, (((encV x).take c).length = c) → decS ((encV x).take c) = .error (5, ((encV x).take c).length) → r = c → decS ((encV x).take c) = .error (5, r) := by
        intro r h1 h2 h3; rw [h2, h1, h3]
      refine key c hcl ?_ rfl
      rcases h.k with hk | hk | hk
      · rw [hk] at hget
        have h5 : (encH x.kind x.m x.n x.root).length = 5 := by rw [hk]; rfl
        exact decS_1s _ hp (by rw [hget]; rfl) (by omega)
      · rw [hk] at hget
        have h5 : (encH x.kind x.m x.n x.root).length = 7 := by rw [hk]; rfl
        exact decS_2s _ hp (by rw [hget]; rfl) (by omega)
      · rw [hk] at hget
        have h5 : (encH x.kind x.m x.n x.root).length = 5 := by rw [hk]; rfl
        exact decS_3s _ hp (by rw [hget]; rfl) (by omega)
  · have hE : (encV x).take c = encH x.kind x.m x.n x.root ++ (encNs x.tree).take (c - (encH x.kind x.m x.n x.root).length) := by
      rw [e, List.take_append, List.take_of_length_le hh]
    have hc2 : c - (encH x.kind x.m x.n x.root).length < (encNs x.tree).length := by
      rw [e, List.length_append] at hc; omega
    have hd := rdHead_enc h ((encNs x.tree).take (c - (encH x.kind x.m x.n x.root).length)) (by rw [← hE, hcl]; omega)
    have hcut := cut_of (encH x.kind x.m x.n x.root) (encNs x.tree) _ hc2
    have hk : x.kind ≠ 1 := fun hk => by
      have ht := (h.c hk).2
      rw [ht] at hc2
      have e2 : (encNs ([] : List PN)).length = 0 := rfl
      omega
    have hr := rdNode_cut _ _ _ _ (h.t hk) _ hcut
    rw [← hE, hcl] at hr
    rw [← hE] at hd
    rw [decS, hd]
    simp only
    rw [if_neg hk, hr]
end Go.Proofs.YtlndinigbppafaaGreat
