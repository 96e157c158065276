/-
  Who knows two different events of one number has worked out two different preimages with one sum, whatever the messages were: plain mathematics.
-/
import Derived.Test.YtlndinigbppafaaGreatPt
namespace Go.Proofs.YtlndinigbppafaaGreat

theorem two8_inj {a b : Int} (ha : 0 ≤ a ∧ a ≤ 65535) (hb : 0 ≤ b ∧ b ≤ 65535) (h : two8 a = two8 b) : a = b := by
  have h1 := num2_two8 a ha.1 ha.2
  have h2 := num2_two8 b hb.1 hb.2
  unfold two8 at h
  simp only [List.cons.injEq, and_true] at h
  rw [← h1, ← h2, h.1, h.2]

/-- From the digest g of a node of depth d down to the leaf i of it, by preimages of S: the leaf's digest is h. -/
def Rc (S : List UInt8 → Prop) : Nat → Nat → Int → Int → Prop
  | 0, _, g, h => g = h
  | d + 1, i, g, h =>
    (∃ a b, (0 ≤ a ∧ a ≤ 65535) ∧ (0 ≤ b ∧ b ≤ 65535) ∧ S (1 :: (two8 a ++ two8 b)) ∧ sm (1 :: (two8 a ++ two8 b)) = g ∧ (if i < pw d then Rc S d i a h else Rc S d (i - pw d) b h)) ∨
    (∃ a, (0 ≤ a ∧ a ≤ 65535) ∧ S (2 :: two8 a) ∧ sm (2 :: two8 a) = g ∧ i < pw d ∧ Rc S d i a h)

/-- No two texts of S have one sum. -/
def Inj (S : List UInt8 → Prop) : Prop := ∀ a b, S a → S b → sm a = sm b → a = b

theorem Rc.two {S : List UInt8 → Prop} (hS : Inj S) {d i : Nat} {a b h : Int} (ha : 0 ≤ a ∧ a ≤ 65535) (hb : 0 ≤ b ∧ b ≤ 65535) (hm : S (1 :: (two8 a ++ two8 b))) :
    Rc S (d + 1) i (sm (1 :: (two8 a ++ two8 b))) h ↔ (if i < pw d then Rc S d i a h else Rc S d (i - pw d) b h) := by
  constructor
  · rintro (⟨a', b', ha', hb', hm', he, hr⟩ | ⟨a', ha', hm', he, _, _⟩)
    · have e := hS _ _ hm' hm he
      simp only [List.cons.injEq, true_and] at e
      have e1 : two8 a' = two8 a ∧ two8 b' = two8 b := List.append_inj e rfl
      obtain rfl := two8_inj ha' ha e1.1
      obtain rfl := two8_inj hb' hb e1.2
      exact hr
    · have e := hS _ _ hm' hm he
      simp at e
  · intro hr
    exact .inl ⟨a, b, ha, hb, hm, rfl, hr⟩
theorem Rc.alone {S : List UInt8 → Prop} (hS : Inj S) {d i : Nat} {a h : Int} (ha : 0 ≤ a ∧ a ≤ 65535) (hm : S (2 :: two8 a)) (hi : i < pw d) :
    Rc S (d + 1) i (sm (2 :: two8 a)) h ↔ Rc S d i a h := by
  constructor
  · rintro (⟨a', b', ha', hb', hm', he, hr⟩ | ⟨a', ha', hm', he, _, hr⟩)
    · have e := hS _ _ hm' hm he
      simp at e
    · have e := hS _ _ hm' hm he
      simp only [List.cons.injEq, true_and] at e
      obtain rfl := two8_inj ha' ha e
      exact hr
  · intro hr
    exact .inr ⟨a, ha, hm, rfl, hi, hr⟩
theorem Rc.one {S : List UInt8 → Prop} (hS : Inj S) {d : Nat} : ∀ {i : Nat} {g h h' : Int}, Rc S d i g h → Rc S d i g h' → h = h' := by
  induction d with
  | zero => intro i g h h' h1 h2; exact h1.symm.trans h2
  | succ d ih =>
    rintro i g h h' (⟨a, b, ha, hb, hm, rfl, hr⟩ | ⟨a, ha, hm, rfl, hi, hr⟩) h2
    · have h3 := (Rc.two hS ha hb hm).1 h2
      split at hr
      · rename_i hi; rw [if_pos hi] at h3; exact ih hr h3
      · rename_i hi; rw [if_neg hi] at h3; exact ih hr h3
    · exact ih hr ((Rc.alone hS ha hm hi).1 h2)

theorem kindOf_two {k M N : Int} {p d : Nat} (h : kindOf k M N p (d + 1) = 2) : (p : Int) + pw d < N := by
  unfold kindOf at h
  by_cases hs : (if k = 2 then ((p : Int) + pw (d + 1) ≤ M ∨ M ≤ p) else (M < p ∨ (p : Int) + pw (d + 1) ≤ M))
  · rw [if_pos hs] at h; omega
  · rw [if_neg hs, if_neg (by omega)] at h
    by_cases h2 : (p : Int) + pw (d + 1 - 1) < N
    · simpa using h2
    · rw [if_neg h2] at h; omega
theorem kindOf_alone {k M N : Int} {p d : Nat} (h : kindOf k M N p (d + 1) = 3) : ¬ (p : Int) + pw d < N := by
  unfold kindOf at h
  by_cases hs : (if k = 2 then ((p : Int) + pw (d + 1) ≤ M ∨ M ≤ p) else (M < p ∨ (p : Int) + pw (d + 1) ≤ M))
  · rw [if_pos hs] at h; omega
  · rw [if_neg hs, if_neg (by omega)] at h
    by_cases h2 : (p : Int) + pw (d + 1 - 1) < N
    · rw [if_pos h2] at h; omega
    · simpa using h2

/-- Growth: what lies below m is reached alike, from the root of m and from the root of n. -/
theorem grow_rc {S : List UInt8 → Prop} (hS : Inj S) {m N : Int} (hmN : m ≤ N) {d p : Nat} {t : PT} (hs : PT.Sh 2 m N d p t) :
    (∀ x ∈ t.tx m d p, S x) → (∀ x ∈ t.tx N d p, S x) → ∀ (i : Nat) (h : Int), (p : Int) + i < m → i < pw d → (Rc S d i (t.dg m d p) h ↔ Rc S d i (t.dg N d p) h) := by
  induction hs with
  | stub d p g _ _ _ => intro _ _ i h _ _; exact Iff.rfl
  | leaf p e _ _ => intro _ _ i h _ _; exact Iff.rfl
  | two d p l r hk hl hr ihl ihr =>
    intro h1 h2 i h him hi
    have hN := kindOf_two hk
    have bl := PT.dg_bd hl m
    have bl' := PT.dg_bd hl N
    have br := PT.dg_bd hr m
    have br' := PT.dg_bd hr N
    simp only [PT.tx, PT.dg, Nat.add_sub_cancel, if_pos hN] at h1 h2 ⊢
    have t1 : S (1 :: (two8 (l.dg N d p) ++ two8 (r.dg N d (p + pw d)))) := h2 _ (by simp)
    by_cases hpm : (p : Int) + pw d < m
    · simp only [if_pos hpm] at h1 ⊢
      have t2 : S (1 :: (two8 (l.dg m d p) ++ two8 (r.dg m d (p + pw d)))) := h1 _ (by simp)
      rw [Rc.two hS bl br t2, Rc.two hS bl' br' t1]
      by_cases hid : i < pw d
      · rw [if_pos hid, if_pos hid]
        exact ihl (fun x hx => h1 x (by simp [hx])) (fun x hx => h2 x (by simp [hx])) i h him hid
      · rw [if_neg hid, if_neg hid]
        have := pw_succ d
        exact ihr (fun x hx => h1 x (by simp [hx])) (fun x hx => h2 x (by simp [hx])) (i - pw d) h (by rw [Int.natCast_add]; omega) (by omega)
    · simp only [if_neg hpm] at h1 ⊢
      have t2 : S (2 :: two8 (l.dg m d p)) := h1 _ (by simp)
      have hid : i < pw d := by omega
      rw [Rc.alone hS bl t2 hid, Rc.two hS bl' br' t1, if_pos hid]
      exact ihl (fun x hx => h1 x (by simp [hx])) (fun x hx => h2 x (by simp [hx])) i h him hid
  | alone d p c hk hc ih =>
    intro h1 h2 i h him hi
    have hN := kindOf_alone hk
    simp only [PT.tx, PT.dg, Nat.add_sub_cancel] at h1 h2 ⊢
    have hid : i < pw d := by omega
    rw [Rc.alone hS (PT.dg_bd hc m) (h1 _ (by simp)) hid, Rc.alone hS (PT.dg_bd hc N) (h2 _ (by simp)) hid]
    exact ih (fun x hx => h1 x (by simp [hx])) (fun x hx => h2 x (by simp [hx])) i h him hid

/-- The nodes above the top of m have two each. -/
theorem top_two {m N : Int} (hm : 1 ≤ m) {d : Nat} {t : PT} (hd : dep m.toNat < d + 1) (hdN : d + 1 ≤ dep N.toNat) (hs : PT.Sh 2 m N (d + 1) 0 t) : ∃ l r, t = .two l r ∧ PT.Sh 2 m N d 0 l := by
  have hpN : (pw d : Int) < N := by have := dep_least N.toNat d (by omega); omega
  have hpm : m < pw (d + 1) := by
    have h1 := dep_spec m.toNat
    have h2 := pw_lt hd
    omega
  have hk : kindOf 2 m N 0 (d + 1) = 2 := by
    unfold kindOf
    have h0 : ¬ (if (2 : Int) = 2 then (((0 : Nat) : Int) + pw (d + 1) ≤ m ∨ m ≤ ((0 : Nat) : Int)) else (m < ((0 : Nat) : Int) ∨ ((0 : Nat) : Int) + pw (d + 1) ≤ m)) := by rw [if_pos rfl]; omega
    rw [if_neg h0, if_neg (by omega), if_pos (by simpa using hpN)]
  cases hs with
  | stub _ _ g h _ _ => omega
  | two _ _ l r _ hl hr => exact ⟨l, r, rfl, hl⟩
  | alone _ _ c h _ => omega

theorem left_rc {S : List UInt8 → Prop} (hS : Inj S) {m N : Int} (hm : 1 ≤ m) (k : Nat) : ∀ (d : Nat) (t : PT), d = dep m.toNat + k → d ≤ dep N.toNat → PT.Sh 2 m N d 0 t → (∀ x ∈ t.tx N d 0, S x) →
    PT.Sh 2 m N (dep m.toNat) 0 (t.left k) ∧ (∀ x ∈ (t.left k).tx N (dep m.toNat) 0, S x) ∧ ∀ (i : Nat) (h : Int), (i : Int) < m → (Rc S (dep m.toNat) i ((t.left k).dg N (dep m.toNat) 0) h ↔ Rc S d i (t.dg N d 0) h) := by
  induction k with
  | zero =>
    rintro d t rfl _ hs hx
    exact ⟨hs, hx, fun i h _ => Iff.rfl⟩
  | succ k ih =>
    rintro d t hd hdN hs hx
    obtain ⟨e, rfl⟩ : ∃ e, d = e + 1 := ⟨dep m.toNat + k, by omega⟩
    have hpN : ((0 : Nat) : Int) + (pw e : Int) < N := by have := dep_least N.toNat e (by omega); omega
    obtain ⟨l, r, rfl, hl⟩ := top_two hm (by omega) hdN hs
    have hr : PT.Sh 2 m N e (0 + pw e) r := by
      cases hs with
      | two _ _ _ _ _ _ hr => exact hr
    simp only [PT.tx, Nat.add_sub_cancel, if_pos hpN] at hx
    obtain ⟨q1, q2, q3⟩ := ih e l (by omega) (by omega) hl (fun x h => hx x (by simp [h]))
    refine ⟨q1, q2, fun i h hi => ?_⟩
    have hie : i < pw e := by
      have h1 := dep_spec m.toNat
      have h2 : pw (dep m.toNat) ≤ pw e := pw_le (by omega)
      omega
    have e2 : (PT.two l r).dg N (e + 1) 0 = sm (1 :: (two8 (l.dg N e 0) ++ two8 (r.dg N e (0 + pw e)))) := by
      simp only [PT.dg, Nat.add_sub_cancel, if_pos hpN]
    rw [e2, Rc.two hS (PT.dg_bd hl N) (PT.dg_bd hr N) (hx _ (by simp)), if_pos hie]
    exact q3 i h hi

theorem growth_rc {S : List UInt8 → Prop} (hS : Inj S) {x : Msg} (hx : ValidM x) (hk : x.kind = 2) (ht : ∀ y ∈ txM x, S y) (i : Nat) (h : Int) (hi : (i : Int) < x.m) :
    Rc S (dep x.m.toNat) i (wk x x.m) h ↔ Rc S (dep x.n.toNat) i (wk x x.n) h := by
  obtain ⟨h1, h2⟩ := hx.g hk
  have hs := (hx.pt (by omega)).1
  rw [hk] at hs
  have hle : dep x.m.toNat ≤ dep x.n.toNat := dep_le _ _ (Nat.le_trans (by omega) (dep_spec x.n.toNat))
  unfold txM at ht
  rw [if_neg (by omega), if_pos hk] at ht
  have tN : ∀ y ∈ x.pt.tx x.n (dep x.n.toNat) 0, S y := fun y hy => ht y (by
    have e : wkT x x.n = x.pt.tx x.n (dep x.n.toNat) 0 := by unfold wkT; rw [Nat.sub_self]; rfl
    rw [e]; simp [hy])
  obtain ⟨q1, q2, q3⟩ := left_rc hS h1 (dep x.n.toNat - dep x.m.toNat) (dep x.n.toNat) x.pt (by omega) (Nat.le_refl _) hs tN
  have eN : wk x x.n = x.pt.dg x.n (dep x.n.toNat) 0 := by unfold wk; rw [Nat.sub_self]; rfl
  rw [eN, ← q3 i h hi]
  have hiw : i < pw (dep x.m.toNat) := by have := dep_spec x.m.toNat; omega
  exact grow_rc hS h2 q1 (fun y hy => ht y (by
    have : y ∈ wkT x x.m := hy
    simp [this])) q2 i h (by omega) hiw

/-- A node that does not stand for the event is a stub. -/
theorem member_stub {i N : Int} {d p : Nat} {t : PT} (hs : PT.Sh 3 i N d p t) (hi : i < p ∨ (p : Int) + pw d ≤ i) : lvs t.flat = [] := by
  have hk : kindOf 3 i N p d = 0 := by
    unfold kindOf
    have h0 : (if (3 : Int) = 2 then ((p : Int) + pw d ≤ i ∨ i ≤ p) else (i < p ∨ (p : Int) + pw d ≤ i)) := by rw [if_neg (by omega)]; exact hi
    rw [if_pos h0]
  cases hs with
  | stub => rfl
  | leaf _ _ h => omega
  | two _ _ _ _ h => omega
  | alone _ _ _ h => omega

/-- A member's event is reached from its root. -/
theorem member_rc {S : List UInt8 → Prop} {i N : Int} (hiN : i < N) {d p : Nat} {t : PT} (hs : PT.Sh 3 i N d p t) : (∀ x ∈ t.tx N d p, S x) → (p : Int) ≤ i → i < (p : Int) + pw d →
    ∃ e, lvs t.flat = [e] ∧ S (0 :: e.data.toList) ∧ Rc S d (i.toNat - p) (t.dg N d p) (sm (0 :: e.data.toList)) := by
  induction hs with
  | stub d p g hk _ _ =>
    intro _ h1 h2
    exfalso
    unfold kindOf at hk
    have h0 : ¬ (if (3 : Int) = 2 then ((p : Int) + pw d ≤ i ∨ i ≤ p) else (i < p ∨ (p : Int) + pw d ≤ i)) := by rw [if_neg (by omega)]; omega
    rw [if_neg h0] at hk
    split at hk
    · omega
    · split at hk <;> omega
  | leaf p e _ _ =>
    intro hx _ _
    exact ⟨e, rfl, hx _ (by simp [PT.tx]), rfl⟩
  | two d p l r hk hl hr ihl ihr =>
    intro hx h1 h2
    have hN := kindOf_two hk
    have hsu := pw_succ d
    simp only [PT.tx, PT.dg, Nat.add_sub_cancel, if_pos hN] at hx ⊢
    have t1 : S (1 :: (two8 (l.dg N d p) ++ two8 (r.dg N d (p + pw d)))) := hx _ (by simp)
    by_cases hid : i < (p : Int) + pw d
    · obtain ⟨e, e1, e2, e3⟩ := ihl (fun x h => hx x (by simp [h])) h1 hid
      refine ⟨e, ?_, e2, .inl ⟨_, _, PT.dg_bd hl N, PT.dg_bd hr N, t1, rfl, ?_⟩⟩
      · simp only [PT.flat]
        rw [lvs_two, lvs_append, e1, member_stub hr (by left; rw [Int.natCast_add]; omega)]
        rfl
      · rw [if_pos (by omega)]; exact e3
    · obtain ⟨e, e1, e2, e3⟩ := ihr (fun x h => hx x (by simp [h])) (by rw [Int.natCast_add]; omega) (by rw [Int.natCast_add]; omega)
      refine ⟨e, ?_, e2, .inl ⟨_, _, PT.dg_bd hl N, PT.dg_bd hr N, t1, rfl, ?_⟩⟩
      · simp only [PT.flat]
        rw [lvs_two, lvs_append, e1, member_stub hl (by right; omega)]
        rfl
      · rw [if_neg (by omega), Nat.sub_sub]; exact e3
  | alone d p c hk hc ih =>
    intro hx h1 h2
    have hN := kindOf_alone hk
    simp only [PT.tx, PT.dg, Nat.add_sub_cancel] at hx ⊢
    obtain ⟨e, e1, e2, e3⟩ := ih (fun x h => hx x (by simp [h])) h1 (by omega)
    refine ⟨e, ?_, e2, .inr ⟨_, PT.dg_bd hc N, hx _ (by simp), rfl, by omega, e3⟩⟩
    simp only [PT.flat]
    rw [lvs_alone, e1]

theorem memb_rc {S : List UInt8 → Prop} {x : Msg} (hx : ValidM x) (hk : x.kind = 3) (ht : ∀ y ∈ txM x, S y) :
    ∃ e, lvs x.tree = [e] ∧ S (0 :: e.data.toList) ∧ Rc S (dep x.n.toNat) x.m.toNat (wk x x.n) (sm (0 :: e.data.toList)) := by
  obtain ⟨h1, h2, h3⟩ := hx.m hk
  obtain ⟨hs, et⟩ := hx.pt (by omega)
  rw [hk] at hs
  unfold txM at ht
  rw [if_neg (by omega)] at ht
  have eT : wkT x x.n = x.pt.tx x.n (dep x.n.toNat) 0 := by unfold wkT; rw [Nat.sub_self]; rfl
  have eN : wk x x.n = x.pt.dg x.n (dep x.n.toNat) 0 := by unfold wk; rw [Nat.sub_self]; rfl
  have hb : x.m < ((0 : Nat) : Int) + pw (dep x.n.toNat) := by have := dep_spec x.n.toNat; omega
  obtain ⟨e, e1, e2, e3⟩ := member_rc (S := S) h2 hs (fun y hy => ht y (by rw [eT]; simp [hy])) (by omega) hb
  rw [Nat.sub_zero] at e3
  exact ⟨e, by rw [et, e1], e2, by rw [eN]; exact e3⟩

/-- What is known, once these were taken. -/
structure Knows (S : List UInt8 → Prop) (ts : List Msg) : Prop where
  alike : ∀ v ∈ versL ts, ∀ v' ∈ versL ts, v.1 ≤ v'.1 → ∀ (i : Nat) (h : Int), (i : Int) < v.1 → (Rc S (dep v.1.toNat) i v.2 h ↔ Rc S (dep v'.1.toNat) i v'.2 h)
  last : ∀ v ∈ versL ts, ∀ l, (versL ts).getLast? = some l → v.1 ≤ l.1
  mem : ∀ x ∈ ts, ValidM x ∧ (x.kind = 3 → (x.n, wk x x.n) ∈ versL ts)

theorem Took.knows {S : List UInt8 → Prop} (hS : Inj S) {ts : List Msg} (h : Took ts) : (∀ y ∈ txL ts, S y) → Knows S ts := by
  induction h with
  | nil => intro _; exact ⟨fun v hv => (by cases hv), fun v hv => (by cases hv), fun x hx => (by cases hx)⟩
  | snoc ts x _ hx ha _ ih =>
    intro hy
    rw [txL_snoc] at hy
    have I := ih (fun y h => hy y (by simp [h]))
    have hX : ∀ y ∈ txM x, S y := fun y h => hy y (by simp [h])
    unfold acc at ha
    rcases hx.k with hk | hk | hk
    · -- a commitment: nothing was known
      rw [if_pos hk] at ha
      have h0 : versL ts = [] := by
        rcases Classical.em (versL ts = []) with h | h
        · exact h
        · rw [if_neg h] at ha; omega
      have e : versL (ts ++ [x]) = [(x.n, x.root)] := by rw [versL_snoc, h0, if_pos (.inl hk)]; rfl
      refine ⟨?_, ?_, ?_⟩
      · rw [e]
        intro v hv v' hv' _ i h _
        simp at hv hv'
        subst hv hv'
        exact Iff.rfl
      · rw [e]
        intro v hv l hl
        simp at hv hl
        rw [hv, ← hl]; exact Int.le_refl _
      · intro y hy
        rcases List.mem_append.1 hy with hy | hy
        · refine ⟨(I.mem y hy).1, fun h3 => ?_⟩
          have := (I.mem y hy).2 h3
          rw [h0] at this
          cases this
        · simp at hy
          subst hy
          exact ⟨hx, fun h3 => by omega⟩
    · -- growth
      rw [if_neg (by omega), if_pos hk] at ha
      cases hl : (versL ts).getLast? with
      | none => rw [hl] at ha; simp at ha
      | some l =>
        rw [hl] at ha
        simp only at ha
        have hlm : l.1 = x.m := by
          rcases Classical.em (l.1 = x.m) with h | h
          · exact h
          · rw [if_pos h] at ha; omega
        rw [if_neg (by omega)] at ha
        have hw : wk x x.m = l.2 ∧ wk x x.n = x.root := by
          rcases Classical.em (wk x x.m ≠ l.2 ∨ wk x x.n ≠ x.root) with h | h
          · rw [if_pos h] at ha; omega
          · omega
        have hmem : l ∈ versL ts := List.mem_of_getLast? hl
        obtain ⟨g1, g2⟩ := hx.g hk
        by_cases hmn : x.m < x.n
        · have e : versL (ts ++ [x]) = versL ts ++ [(x.n, x.root)] := by rw [versL_snoc, if_pos (.inr ⟨hk, hmn⟩)]
          have new : ∀ (i : Nat) (h : Int), (i : Int) < l.1 → (Rc S (dep l.1.toNat) i l.2 h ↔ Rc S (dep x.n.toNat) i x.root h) := by
            intro i h hi
            have := growth_rc hS hx hk hX i h (by omega)
            rw [hw.1, hw.2] at this
            rw [hlm]
            exact this
          refine ⟨?_, ?_, ?_⟩
          · rw [e]
            intro v hv v' hv' hle i h hi
            rcases List.mem_append.1 hv with hv | hv <;> rcases List.mem_append.1 hv' with hv' | hv'
            · exact I.alike v hv v' hv' hle i h hi
            · simp at hv'
              subst hv'
              have := I.last v hv l hl
              exact (I.alike v hv l hmem this i h hi).trans (new i h (by omega))
            · simp at hv
              subst hv
              have := I.last v' hv' l hl
              simp only at hle
              omega
            · simp at hv hv'
              subst hv hv'
              exact Iff.rfl
          · rw [e]
            intro v hv l' hl'
            simp at hl'
            subst hl'
            rcases List.mem_append.1 hv with hv | hv
            · have := I.last v hv l hl
              simp only
              omega
            · simp at hv
              subst hv
              exact Int.le_refl _
          · rw [e]
            intro y hy
            rcases List.mem_append.1 hy with hy | hy
            · exact ⟨(I.mem y hy).1, fun h3 => List.mem_append.2 (.inl ((I.mem y hy).2 h3))⟩
            · simp at hy
              subst hy
              exact ⟨hx, fun h3 => by omega⟩
        · have e : versL (ts ++ [x]) = versL ts := by rw [versL_snoc, if_neg (by omega)]; simp
          refine ⟨by rw [e]; exact I.alike, by rw [e]; exact I.last, ?_⟩
          rw [e]
          intro y hy
          rcases List.mem_append.1 hy with hy | hy
          · exact I.mem y hy
          · simp at hy
            subst hy
            exact ⟨hx, fun h3 => by omega⟩
    · -- a member
      rw [if_neg (by omega), if_neg (by omega)] at ha
      cases hr : rootOf (versL ts) x.n with
      | none => rw [hr] at ha; simp at ha
      | some r =>
        rw [hr] at ha
        simp only at ha
        have hw : wk x x.n = r := by
          rcases Classical.em (wk x x.n = r) with h | h
          · exact h
          · rw [if_pos h] at ha; omega
        have e : versL (ts ++ [x]) = versL ts := by rw [versL_snoc, if_neg (by omega)]; simp
        refine ⟨by rw [e]; exact I.alike, by rw [e]; exact I.last, ?_⟩
        rw [e]
        intro y hy
        rcases List.mem_append.1 hy with hy | hy
        · exact I.mem y hy
        · simp at hy
          subst hy
          exact ⟨hx, fun _ => by rw [hw]; exact rootOf_mem hr⟩

theorem txM_mem {ts : List Msg} {x : Msg} (hx : x ∈ ts) {y : List UInt8} (hy : y ∈ txM x) : y ∈ txL ts := by
  unfold txL
  exact List.mem_flatten.2 ⟨_, List.mem_map.2 ⟨x, hx, rfl⟩, hy⟩

/-- P11. -/
theorem sound_pure {ts : List Msg} (h : Took ts) (hS : ∀ a ∈ txL ts, ∀ b ∈ txL ts, sm a = sm b → a = b) {x y : Msg} (hx : x ∈ ts) (hy : y ∈ ts) (kx : x.kind = 3) (ky : y.kind = 3) (hxy : x.m = y.m)
    {e e' : ByteArray} (he : e ∈ lvs x.tree) (he' : e' ∈ lvs y.tree) : e = e' := by
  have hI : Inj (fun a => a ∈ txL ts) := fun a b ha hb => hS a ha b hb
  have K := h.knows hI (fun y hy => hy)
  obtain ⟨vx, mx⟩ := K.mem x hx
  obtain ⟨vy, my⟩ := K.mem y hy
  have mx := mx kx
  have my := my ky
  obtain ⟨a, a1, a2, a3⟩ := memb_rc (S := fun a => a ∈ txL ts) vx kx (fun z hz => txM_mem hx hz)
  obtain ⟨b, b1, b2, b3⟩ := memb_rc (S := fun a => a ∈ txL ts) vy ky (fun z hz => txM_mem hy hz)
  rw [a1] at he
  rw [b1] at he'
  simp at he he'
  subst he he'
  have hm1 := vx.m kx
  have hm2 := vy.m ky
  have heq : sm (0 :: e.data.toList) = sm (0 :: e'.data.toList) := by
    rw [← hxy] at b3
    rcases Int.le_total x.n y.n with hle | hle
    · have := (K.alike _ mx _ my hle x.m.toNat _ (by simp only; omega)).1 a3
      exact Rc.one hI this b3
    · have := (K.alike _ my _ mx hle x.m.toNat _ (by simp only; omega)).1 b3
      exact Rc.one hI a3 this
  have := hI _ _ a2 b2 heq
  simp only [List.cons.injEq, true_and] at this
  obtain ⟨⟨l⟩⟩ := e
  obtain ⟨⟨l'⟩⟩ := e'
  simp only at this
  rw [this]
end Go.Proofs.YtlndinigbppafaaGreat
