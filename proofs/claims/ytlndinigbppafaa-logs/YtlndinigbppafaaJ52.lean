/-
  Texts of ours, joined: LwA, Dec, ScanA, LwB, LwC, LwD, SdA, SdB, SdC, SpA, SpB, SpC.
-/
import Derived.Test.YtlndinigbppafaaRefB
import Derived.Test.YtlndinigbppafaaLogD
import Derived.Test.YtlndinigbppafaaJ40
import Derived.Test.YtlndinigbppafaaRefA
import Derived.Handy
import Derived.OneCell
import Derived.Deep.RegionLaw
import Derived.Deep.AppendLies
import Derived.StillTailTactics
import Derived.BigQuiet
import Derived.Test.YtlndinigbppafaaCanE
/-
  The document's digest of a node: the walk of steleref.Digest.
-/
namespace Go.Proofs.Ytlndinigbppafaa
open Go.RowKit

theorem data_cons (b : UInt8) (s : ByteArray) : (({ data := #[b] } : ByteArray) ++ s).data.toList = b :: s.data.toList := by
  rw [show ({ data := #[b] } : ByteArray) = ⟨[b].toArray⟩ from rfl, mk_append]
  rfl
theorem size_cons (b : UInt8) (s : ByteArray) : (({ data := #[b] } : ByteArray) ++ s).size = s.size + 1 := by
  have h := congrArg List.length (data_cons b s)
  rw [List.length_cons, Array.length_toList, Array.length_toList] at h
  exact h

set_option maxRecDepth 100000 in
set_option maxHeartbeats 1000000 in
theorem digest_zero (evs : List ByteArray) (p : Nat) (P N : Int) (eP : P = p) (w : World) (V : Value) (hp : p < evs.length) (hs : ∀ s ∈ evs, s.size ≤ 255) (hV : StringsAt w V evs) :
    Calls Try.prog 33 #[V, .int .i64 P, .int .i64 0, .int .i64 N] w fun e w' => e = .returned (.int .i64 (sm (0 :: evs[p].data.toList))) ∧ Below w.heap.size w w' := by
  subst eP
  obtain ⟨ao, cap, rfl, hc⟩ := hV
  obtain ⟨b, o, rfl, hb, hcell⟩ := hc (by omega)
  have c1 := hcell p hp
  have hsz := hs evs[p] (List.getElem_mem hp)
  have hpi : (p : Int) < (evs.length : Int) := by omega
  clear hc hcell hs
  generalize evs[p] = s at *
  go_enter Try.func33, Try.ntmps33
  go_wp2_with fail
  refine (refSum_any _ w (by rw [size_cons]; unfold maxLen; omega)).mono ?_
  rintro e w' ⟨rfl, rfl⟩
  rw [data_cons]
  go_wp2
  go_ret
  exact ⟨rfl, Below.refl _ _⟩

theorem two8_len (n : Int) : (two8 n).length = 2 := rfl
theorem cat1 (a : Int) : (({ data := #[2] } : ByteArray) ++ { data := (two8 a).toArray }).data.toList = 2 :: two8 a := by rw [data_cons]
theorem cat2 (a b : Int) : (({ data := #[1] } : ByteArray) ++ { data := (two8 a).toArray } ++ { data := (two8 b).toArray }).data.toList = 1 :: (two8 a ++ two8 b) := by
  have e : (({ data := #[1] } : ByteArray) ++ { data := (two8 a).toArray }) = ⟨(1 :: two8 a).toArray⟩ := mk_append [1] _
  rw [e, mk_append]
  simp
theorem cat2_size (a b : Int) : (({ data := #[1] } : ByteArray) ++ { data := (two8 a).toArray } ++ { data := (two8 b).toArray }).size = 5 := by
  have h := congrArg List.length (cat2 a b)
  rw [Array.length_toList, List.length_cons, List.length_append, two8_len, two8_len] at h
  exact h
theorem cat1_size (a : Int) : (({ data := #[2] } : ByteArray) ++ { data := (two8 a).toArray }).size = 3 := by
  have h := congrArg List.length (cat1 a)
  rw [Array.length_toList, List.length_cons, two8_len] at h
  exact h

set_option maxRecDepth 100000 in
set_option maxHeartbeats 2000000 in
theorem digest_step (evs : List ByteArray) (n d p : Nat) (P D N : Int) (V : Value) (w : World) (eP : P = p) (eD : D = (d : Int) + 1) (eN : N = n) (hd : d + 1 ≤ 16) (hp : p < n) (hn : n ≤ evs.length) (hl : evs.length ≤ 65535) (hV : StringsAt w V evs)
    (ih : Hid (∀ (p : Nat) (P D : Int) (w : World), P = p → D = d → p < n → StringsAt w V evs → Calls Try.prog 33 #[V, .int .i64 P, .int .i64 D, .int .i64 N] w fun e w' => e = .returned (.int .i64 (dig (evs.take n) d p)) ∧ Below w.heap.size w w')) :
    Calls Try.prog 33 #[V, .int .i64 P, .int .i64 D, .int .i64 N] w fun e w' => e = .returned (.int .i64 (dig (evs.take n) (d + 1) p)) ∧ Below w.heap.size w w' := by
  have h16 : pw d ≤ 65536 := pw_le (e := 16) (by omega)
  have hdz : (((d : Int) + 1) == 0) = false := beq_eq_false_iff_ne.2 (by omega)
  have hln : (evs.take n).length = n := by rw [List.length_take]; omega
  have bd := dig_bd (evs.take n) d
  have HD : Hid (dig (evs.take n) (d + 1) p = if p + pw d < n then sm (1 :: (two8 (dig (evs.take n) d p) ++ two8 (dig (evs.take n) d (p + pw d)))) else sm (2 :: two8 (dig (evs.take n) d p))) := by
    show _ = _
    rw [dig, hln]
  have hV1 := hV
  obtain ⟨ao, cap, rfl, _⟩ := hV1
  subst eP eD eN
  have PW : ∀ w' : World, Calls Try.prog 49 #[.int .i64 d] w' fun e w'' => e = .returned (.int .i64 (pw d)) ∧ w'' = w' := fun w' => power_any d w' (by omega)
  have bda := bd p
  go_enter Try.func33, Try.ntmps33
  go_wp2_with fail
  refine (PW _).mono ?_
  rintro e w' ⟨rfl, rfl⟩
  go_wp2_with fail
  refine (ih.out p _ _ _ rfl rfl hp hV).mono ?_
  rintro e w1 ⟨rfl, hb1⟩
  have hV1 := hV.below hb1
  by_cases hR : p + pw d < n
  · have hRi : ((p : Int) + (pw d : Int)) < (n : Int) := by omega
    have hRn : ¬ ((n : Int) ≤ (p : Int) + (pw d : Int)) := by omega
    rw [if_pos hR] at HD
    have bdb := bd (p + pw d)
    have IH : ∀ w, StringsAt w (.slice ao evs.length cap) evs → _ := fun w => ih.out (p + pw d) ((p : Int) + (pw d : Int)) d w (by omega) rfl hR
    obtain ⟨ba0, ba1⟩ := bda
    obtain ⟨bb0, bb1⟩ := bdb
    clear bd ih hV
    go_wp2_with fail
    refine (two_any _ _ ba0 ba1).mono ?_
    rintro e w' ⟨rfl, rfl⟩
    have hA : Below w1.heap.size w1 (w1.alloc (.cells #[.int .u8 (dig (evs.take n) d p / 256 % 256), .int .u8 (dig (evs.take n) d p % 256)] 5)) := (Below.refl _ _).alloc (Nat.le_refl _) _
    have hV2 := hV1.below hA
    have hB2 := hb1.trans (hA.mono hb1.size)
    generalize w1.alloc (.cells #[.int .u8 (dig (evs.take n) d p / 256 % 256), .int .u8 (dig (evs.take n) d p % 256)] 5) = w2 at hV2 hB2 ⊢
    have s1 : (({ data := #[1] } : ByteArray) ++ { data := (two8 (dig (evs.take n) d p)).toArray }).size = 3 := by rw [size_cons, mk_size, two8_len]
    have s2 : ({ data := (two8 (dig (evs.take n) d (p + pw d))).toArray } : ByteArray).size = 2 := by rw [mk_size, two8_len]
    clear hA hV1 hb1
    go_wp2_with fail
    refine (IH _ hV2).mono ?_
    rintro e w3 ⟨rfl, hb3⟩
    have hB3 := hB2.trans (hb3.mono hB2.size)
    go_wp2_with fail
    refine (two_any _ _ bb0 bb1).mono ?_
    rintro e w' ⟨rfl, rfl⟩
    have hB4 := hB3.alloc hB3.size (.cells #[.int .u8 (dig (evs.take n) d (p + pw d) / 256 % 256), .int .u8 (dig (evs.take n) d (p + pw d) % 256)] 5)
    generalize w3.alloc (.cells #[.int .u8 (dig (evs.take n) d (p + pw d) / 256 % 256), .int .u8 (dig (evs.take n) d (p + pw d) % 256)] 5) = w4 at hB4 ⊢
    go_wp2_with fail
    refine (refSum_any _ _ (by rw [cat2_size]; unfold maxLen; omega)).mono ?_
    rintro e w' ⟨rfl, rfl⟩
    rw [cat2]
    go_wp2
    go_ret
    exact ⟨by rw [HD.out]; rfl, hB4⟩
  · have hRi : (n : Int) ≤ ((p : Int) + (pw d : Int)) := by omega
    rw [if_neg hR] at HD
    obtain ⟨ba0, ba1⟩ := bda
    clear bd ih hV
    go_wp2_with fail
    refine (two_any _ _ ba0 ba1).mono ?_
    rintro e w' ⟨rfl, rfl⟩
    have hB2 := hb1.alloc hb1.size (.cells #[.int .u8 (dig (evs.take n) d p / 256 % 256), .int .u8 (dig (evs.take n) d p % 256)] 5)
    generalize w1.alloc (.cells #[.int .u8 (dig (evs.take n) d p / 256 % 256), .int .u8 (dig (evs.take n) d p % 256)] 5) = w2 at hB2 ⊢
    have s2 : ({ data := (two8 (dig (evs.take n) d p)).toArray } : ByteArray).size = 2 := by rw [mk_size, two8_len]
    go_wp2_with fail
    refine (refSum_any _ _ (by rw [cat1_size]; unfold maxLen; omega)).mono ?_
    rintro e w' ⟨rfl, rfl⟩
    rw [cat1]
    go_wp2
    go_ret
    exact ⟨by rw [HD.out]; rfl, hB2⟩

theorem digest_ref (evs : List ByteArray) (n : Nat) (hn : n ≤ evs.length) (hl : evs.length ≤ 65535) (hs : ∀ s ∈ evs, s.size ≤ 255) (V : Value) (N : Int) (eN : N = n) (d : Nat) (hd : d ≤ 16) :
    ∀ (p : Nat) (P D : Int) (w : World), P = p → D = d → p < n → StringsAt w V evs → Calls Try.prog 33 #[V, .int .i64 P, .int .i64 D, .int .i64 N] w fun e w' => e = .returned (.int .i64 (dig (evs.take n) d p)) ∧ Below w.heap.size w w' := by
  induction d with
  | zero =>
    intro p P D w eP eD hp hV
    have : D = 0 := by omega
    subst this
    refine (digest_zero evs p P N eP w V (by omega) hs hV).mono fun e w' h => ⟨?_, h.2⟩
    rw [h.1, dig]
    congr 4
    unfold evAt
    rw [List.getElem?_take, if_pos hp, List.getElem?_eq_getElem (by omega)]
    rfl
  | succ d ih =>
    intro p P D w eP eD hp hV
    exact digest_step evs n d p P D N V w eP (by omega) eN hd hp hn hl hV (ih (by omega))
end Go.Proofs.Ytlndinigbppafaa

/-
  Reading a message, as plain mathematics: the document's P6.
-/
namespace Go.Proofs.Ytlndinigbppafaa

/-- Two bytes' number. -/
def num2 (a b : UInt8) : Int := 256 * a.toNat + b.toNat
theorem num2_bd (a b : UInt8) : 0 ≤ num2 a b ∧ num2 a b ≤ 65535 := by
  have := a.toNat_lt; have := b.toNat_lt; unfold num2; omega

/-- A tree's shape, by which nodes a proof leaves out. -/
inductive Shp (k M N : Int) : Nat → Nat → List PN → Prop
  | stub (d p : Nat) (g : Int) : kindOf k M N p d = 0 → 0 ≤ g → g ≤ 65535 → Shp k M N d p [⟨0, g, ByteArray.empty⟩]
  | leaf (p : Nat) (e : ByteArray) : kindOf k M N p 0 = 1 → e.size ≤ 50 → Shp k M N 0 p [⟨1, 0, e⟩]
  | two (d p : Nat) (a b : List PN) : kindOf k M N p (d + 1) = 2 → Shp k M N d p a → Shp k M N d (p + pw d) b → Shp k M N (d + 1) p (⟨2, 0, ByteArray.empty⟩ :: (a ++ b))
  | alone (d p : Nat) (a : List PN) : kindOf k M N p (d + 1) = 3 → Shp k M N d p a → Shp k M N (d + 1) p (⟨3, 0, ByteArray.empty⟩ :: a)

theorem kindOf_zero (k M N : Int) (p : Nat) : kindOf k M N p 0 = 0 ∨ kindOf k M N p 0 = 1 := by
  unfold kindOf
  by_cases h : (if k = 2 then ((p : Int) + pw 0 ≤ M ∨ M ≤ p) else (M < p ∨ (p : Int) + pw 0 ≤ M))
  · left; rw [if_pos h]
  · right; rw [if_neg h, if_pos rfl]
theorem kindOf_succ (k M N : Int) (p d : Nat) : kindOf k M N p (d + 1) = 0 ∨ kindOf k M N p (d + 1) = 2 ∨ kindOf k M N p (d + 1) = 3 := by
  unfold kindOf
  by_cases h : (if k = 2 then ((p : Int) + pw (d + 1) ≤ M ∨ M ≤ p) else (M < p ∨ (p : Int) + pw (d + 1) ≤ M))
  · left; rw [if_pos h]
  · right
    by_cases h2 : (p : Int) + pw (d + 1 - 1) < N
    · left; rw [if_neg h, if_neg (by omega), if_pos h2]
    · right; rw [if_neg h, if_neg (by omega), if_neg h2]

/-- The node at p of depth d is read from place a on: its nodes and the place behind, or the error and its place. -/
def rdNode (s : List UInt8) (k M N : Int) : Nat → Nat → Nat → Except (Int × Nat) (List PN × Nat)
  | 0, p, a =>
    match s[a]? with
    | none => .error (5, s.length)
    | some c =>
      if (c.toNat : Int) ≠ kindOf k M N p 0 then .error (7, a)
      else if kindOf k M N p 0 = 0 then
        match s[a + 1]?, s[a + 2]? with
        | some x, some y => .ok ([⟨0, num2 x y, ByteArray.empty⟩], a + 3)
        | _, _ => .error (5, s.length)
      else
        match s[a + 1]? with
        | none => .error (5, s.length)
        | some z => if 50 < z.toNat then .error (2, a) else if s.length < a + 2 + z.toNat then .error (5, s.length) else .ok ([⟨1, 0, ⟨((s.drop (a + 2)).take z.toNat).toArray⟩⟩], a + 2 + z.toNat)
  | d + 1, p, a =>
    match s[a]? with
    | none => .error (5, s.length)
    | some c =>
      if (c.toNat : Int) ≠ kindOf k M N p (d + 1) then .error (7, a)
      else if kindOf k M N p (d + 1) = 0 then
        match s[a + 1]?, s[a + 2]? with
        | some x, some y => .ok ([⟨0, num2 x y, ByteArray.empty⟩], a + 3)
        | _, _ => .error (5, s.length)
      else if kindOf k M N p (d + 1) = 2 then
        match rdNode s k M N d p (a + 1) with
        | .error e => .error e
        | .ok (l, a') =>
          match rdNode s k M N d (p + pw d) a' with
          | .error e => .error e
          | .ok (r, a'') => .ok (⟨2, 0, ByteArray.empty⟩ :: (l ++ r), a'')
      else
        match rdNode s k M N d p (a + 1) with
        | .error e => .error e
        | .ok (l, a') => .ok (⟨3, 0, ByteArray.empty⟩ :: l, a')

/-- A message's value. -/
structure Msg where
  kind : Int
  m : Int
  n : Int
  root : Int
  tree : List PN

/-- The fields ahead of the tree, the error of them first. -/
def rdHead (s : List UInt8) : Except (Int × Nat) (Int × Int × Int × Int × Nat) :=
  if 4000 < s.length then .error (2, 0) else
  match s[0]? with
  | none => .error (5, 0)
  | some c =>
    if (c.toNat : Int) < 1 ∨ 3 < (c.toNat : Int) then .error (4, 0) else
    if (c.toNat : Int) = 1 then
      match s[1]?, s[2]?, s[3]?, s[4]? with
      | some a, some b, some x, some y => if num2 a b < 1 ∨ 500 < num2 a b then .error (1, 1) else .ok (1, 0, num2 a b, num2 x y, 5)
      | _, _, _, _ => .error (5, s.length)
    else if (c.toNat : Int) = 2 then
      match s[1]?, s[2]?, s[3]?, s[4]?, s[5]?, s[6]? with
      | some u, some v, some a, some b, some x, some y =>
        if num2 a b < 1 ∨ 500 < num2 a b then .error (1, 3) else if num2 u v < 1 ∨ num2 a b < num2 u v then .error (1, 1) else .ok (2, num2 u v, num2 a b, num2 x y, 7)
      | _, _, _, _, _, _ => .error (5, s.length)
    else
      match s[1]?, s[2]?, s[3]?, s[4]? with
      | some u, some v, some a, some b =>
        if num2 a b < 1 ∨ 500 < num2 a b then .error (1, 3) else if num2 a b ≤ num2 u v then .error (1, 1) else .ok (3, num2 u v, num2 a b, 0, 5)
      | _, _, _, _ => .error (5, s.length)

/-- P6. -/
def decS (s : List UInt8) : Except (Int × Nat) Msg :=
  match rdHead s with
  | .error e => .error e
  | .ok (k, m, n, r, a) =>
    if k = 1 then (if a < s.length then .error (6, a) else .ok ⟨k, m, n, r, []⟩) else
    match rdNode s k m n (dep n.toNat) 0 a with
    | .error e => .error e
    | .ok (l, a') => if a' < s.length then .error (6, a') else .ok ⟨k, m, n, r, l⟩

theorem b8_byte (c : UInt8) : b8 (c.toNat : Int) = c := by
  unfold b8; rw [Int.toNat_natCast]; exact UInt8.ofNat_toNat
theorem two8_num2 (a b : UInt8) : two8 (num2 a b) = [a, b] := by
  have h1 := a.toNat_lt
  have h2 := b.toNat_lt
  have e1 : (num2 a b / 256 % 256).toNat = a.toNat := by unfold num2; omega
  have e2 : (num2 a b % 256).toNat = b.toNat := by unfold num2; omega
  unfold two8
  rw [e1, e2, UInt8.ofNat_toNat, UInt8.ofNat_toNat]
theorem num2_two8 (g : Int) (h0 : 0 ≤ g) (h1 : g ≤ 65535) : num2 (UInt8.ofNat (g / 256 % 256).toNat) (UInt8.ofNat (g % 256).toNat) = g := by
  have e1 := b8_nat (g / 256 % 256) (by omega) (by omega)
  have e2 := b8_nat (g % 256) (by omega) (by omega)
  unfold b8 at e1 e2
  unfold num2
  rw [e1, e2]; omega

/-- Bytes of s from a on. -/
def At (s : List UInt8) (a : Nat) (l : List UInt8) : Prop := (s.drop a).take l.length = l ∧ a + l.length ≤ s.length
theorem At.get {s : List UInt8} {a : Nat} {l : List UInt8} (h : At s a l) (j : Nat) (hj : j < l.length) : s[a + j]? = some l[j] := by
  have e : l[j]? = some l[j] := List.getElem?_eq_getElem hj
  have e2 : ((s.drop a).take l.length)[j]? = l[j]? := congrArg (fun x => x[j]?) h.1
  rw [List.getElem?_take, if_pos hj, List.getElem?_drop, e] at e2
  exact e2
theorem At.of_get {s : List UInt8} {a : Nat} {l : List UInt8} (h : ∀ j (hj : j < l.length), s[a + j]? = some l[j]) (hl : a + l.length ≤ s.length) : At s a l := by
  refine ⟨?_, hl⟩
  apply List.ext_getElem?
  intro j
  rw [List.getElem?_take]
  by_cases hj : j < l.length
  · rw [if_pos hj, List.getElem?_drop, h j hj, List.getElem?_eq_getElem hj]
  · rw [if_neg hj, List.getElem?_eq_none (by omega)]
theorem At.append {s : List UInt8} {a : Nat} {l r : List UInt8} : At s a (l ++ r) ↔ At s a l ∧ At s (a + l.length) r := by
  constructor
  · intro h
    have hl := h.2
    rw [List.length_append] at hl
    refine ⟨At.of_get (fun j hj => ?_) (by omega), At.of_get (fun j hj => ?_) (by omega)⟩
    · have := h.get j (by rw [List.length_append]; omega)
      rw [this, List.getElem_append_left hj]
    · have := h.get (l.length + j) (by rw [List.length_append]; omega)
      rw [Nat.add_assoc, this, List.getElem_append_right (by omega)]
      simp
  · rintro ⟨h1, h2⟩
    refine At.of_get (fun j hj => ?_) (by have := h2.2; rw [List.length_append]; omega)
    by_cases hjl : j < l.length
    · rw [h1.get j hjl, List.getElem_append_left hjl]
    · rw [List.length_append] at hj
      have := h2.get (j - l.length) (by omega)
      rw [show a + l.length + (j - l.length) = a + j by omega] at this
      rw [this, List.getElem_append_right (by omega)]

theorem encNs_one (x : PN) : encNs [x] = encN x := by unfold encNs; simp
theorem encNs_cons (x : PN) (l : List PN) : encNs (x :: l) = encN x ++ encNs l := by unfold encNs; rw [List.map_cons, List.flatten_cons]

/-- A tree of the shape whose bytes stand there is read. -/
theorem rdNode_shp (s : List UInt8) (k M N : Int) {d p : Nat} {l : List PN} (h : Shp k M N d p l) : ∀ a, At s a (encNs l) → rdNode s k M N d p a = .ok (l, a + (encNs l).length) := by
  induction h with
  | stub d p g hk h0 h1 =>
    intro a ha
    have e : encNs [(⟨0, g, ByteArray.empty⟩ : PN)] = [0, UInt8.ofNat (g / 256 % 256).toNat, UInt8.ofNat (g % 256).toNat] := by
      rw [encNs_one]; rfl
    rw [e] at ha ⊢
    have q0 := ha.get 0 (by simp)
    have q1 := ha.get 1 (by simp)
    have q2 := ha.get 2 (by simp)
    simp only [Nat.add_zero, List.getElem_cons_zero, List.getElem_cons_succ] at q0 q1 q2
    cases d with
    | zero => simp [rdNode, q0, q1, q2, hk, num2_two8 g h0 h1]
    | succ d => simp [rdNode, q0, q1, q2, hk, num2_two8 g h0 h1]
  | leaf p e hk he =>
    intro a ha
    have hee : e.data.toList.length = e.size := by rw [Array.length_toList]; rfl
    have hb : (b8 (e.size : Int)).toNat = e.size := by have := b8_nat (e.size : Int) (by omega) (by omega); omega
    have en : encNs [(⟨1, 0, e⟩ : PN)] = [1, b8 (e.size : Int)] ++ e.data.toList := by
      rw [encNs_one]; rfl
    rw [en] at ha ⊢
    obtain ⟨h1, h2⟩ := At.append.1 ha
    have q0 := h1.get 0 (by simp)
    have q1 := h1.get 1 (by simp)
    simp only [Nat.add_zero, List.getElem_cons_zero, List.getElem_cons_succ] at q0 q1
    have h3 := h2.2
    have h4 := h2.1
    rw [hee] at h3 h4
    simp only [List.length_cons, List.length_nil] at h3 h4
    have hd : (⟨((s.drop (a + 2)).take e.size).toArray⟩ : ByteArray) = e := by
      rw [h4]
    simp [rdNode, q0, q1, hk, hb, hd, hee]
    rw [if_neg (by omega), if_neg (by omega)]
    congr 2
    omega
  | two d p l r hk _ _ ihl ihr =>
    intro a ha
    have en : encNs ((⟨2, 0, ByteArray.empty⟩ : PN) :: (l ++ r)) = [2] ++ (encNs l ++ encNs r) := by
      rw [encNs_cons, encNs_append]; rfl
    rw [en] at ha ⊢
    obtain ⟨h1, h2⟩ := At.append.1 ha
    obtain ⟨h3, h4⟩ := At.append.1 h2
    have q0 := h1.get 0 (by simp)
    simp only [Nat.add_zero, List.getElem_cons_zero] at q0
    have e1 := ihl (a + 1) h3
    have e2 := ihr (a + 1 + (encNs l).length) h4
    simp [rdNode, q0, hk, e1, e2]
    omega
  | alone d p l hk _ ihl =>
    intro a ha
    have en : encNs ((⟨3, 0, ByteArray.empty⟩ : PN) :: l) = [3] ++ encNs l := by
      rw [encNs_cons]; rfl
    rw [en] at ha ⊢
    obtain ⟨h1, h2⟩ := At.append.1 ha
    have q0 := h1.get 0 (by simp)
    simp only [Nat.add_zero, List.getElem_cons_zero] at q0
    have e1 := ihl (a + 1) h2
    simp [rdNode, q0, hk, e1]
    omega
theorem at_one {s : List UInt8} {a : Nat} {c : UInt8} (h : s[a]? = some c) : At s a [c] := by
  have hl : a < s.length := by
    rcases Nat.lt_or_ge a s.length with h' | h'
    · exact h'
    · rw [List.getElem?_eq_none h'] at h; cases h
  refine At.of_get (fun j hj => ?_) (by simp; omega)
  have : j = 0 := by simp at hj; exact hj
  subst this
  simpa using h
theorem at_cons {s : List UInt8} {a : Nat} {c : UInt8} {l : List UInt8} (h : s[a]? = some c) (hl : At s (a + 1) l) : At s a (c :: l) := by
  have := (At.append (s := s) (a := a) (l := [c]) (r := l)).2 ⟨at_one h, hl⟩
  exact this
theorem u8_of_int {c : UInt8} {k : Int} (h : (c.toNat : Int) = k) : c = b8 k := by rw [← h, b8_byte]

/-- A tree that is read is of the shape, and its bytes stand there. -/
theorem rdNode_ok (s : List UInt8) (k M N : Int) : ∀ (d p a : Nat) (l : List PN) (a' : Nat), rdNode s k M N d p a = .ok (l, a') → Shp k M N d p l ∧ At s a (encNs l) ∧ a' = a + (encNs l).length := by
  have stub : ∀ (d p a : Nat) (x y c : UInt8), kindOf k M N p d = 0 → (c.toNat : Int) = 0 → s[a]? = some c → s[a + 1]? = some x → s[a + 2]? = some y →
      Shp k M N d p [⟨0, num2 x y, ByteArray.empty⟩] ∧ At s a (encNs [⟨0, num2 x y, ByteArray.empty⟩]) ∧ a + 3 = a + (encNs [(⟨0, num2 x y, ByteArray.empty⟩ : PN)]).length := by
    intro d p a x y c hk hc h0 h1 h2
    have e : encNs [(⟨0, num2 x y, ByteArray.empty⟩ : PN)] = [c, x, y] := by
      rw [encNs_one, u8_of_int hc]
      show b8 0 :: (two8 (num2 x y) ++ []) = _
      rw [two8_num2]; rfl
    rw [e]
    exact ⟨.stub d p _ hk (num2_bd x y).1 (num2_bd x y).2, at_cons h0 (at_cons h1 (at_one h2)), rfl⟩
  intro d
  induction d with
  | zero =>
    intro p a l a' h
    rw [rdNode] at h
    split at h
    · cases h
    · rename_i c h0
      split at h
      · cases h
      · rename_i hc
        have hc' : (c.toNat : Int) = kindOf k M N p 0 := by omega
        split at h
        · rename_i hk
          split at h
          · rename_i x y h1 h2
            simp only [Except.ok.injEq, Prod.mk.injEq] at h
            obtain ⟨rfl, rfl⟩ := h
            exact stub 0 p a x y c hk (by omega) h0 h1 h2
          · cases h
        · rename_i hk
          have hk1 : kindOf k M N p 0 = 1 := by rcases kindOf_zero k M N p with h' | h' <;> omega
          split at h
          · cases h
          · rename_i z hz
            split at h
            · cases h
            · split at h
              · cases h
              · simp only [Except.ok.injEq, Prod.mk.injEq] at h
                obtain ⟨rfl, rfl⟩ := h
                have hs : ((s.drop (a + 2)).take z.toNat).length = z.toNat := by rw [List.length_take, List.length_drop]; omega
                have hsz : (⟨((s.drop (a + 2)).take z.toNat).toArray⟩ : ByteArray).size = z.toNat := by
                  show ((s.drop (a + 2)).take z.toNat).toArray.size = _
                  rw [List.size_toArray, hs]
                have e : encNs [(⟨1, 0, ⟨((s.drop (a + 2)).take z.toNat).toArray⟩⟩ : PN)] = c :: z :: (s.drop (a + 2)).take z.toNat := by
                  rw [encNs_one, u8_of_int (hc'.trans hk1)]
                  show b8 1 :: ([] ++ (b8 ((⟨((s.drop (a + 2)).take z.toNat).toArray⟩ : ByteArray).size : Int) :: ((s.drop (a + 2)).take z.toNat))) = _
                  rw [hsz, b8_byte]; rfl
                rw [e]
                refine ⟨.leaf p _ hk1 (by rw [hsz]; omega), at_cons h0 (at_cons hz ⟨by rw [hs], by rw [hs]; omega⟩), ?_⟩
                simp only [List.length_cons, hs]; omega
  | succ d ih =>
    intro p a l a' h
    rw [rdNode] at h
    split at h
    · cases h
    · rename_i c h0
      split at h
      · cases h
      · rename_i hc
        have hc' : (c.toNat : Int) = kindOf k M N p (d + 1) := by omega
        split at h
        · rename_i hk
          split at h
          · rename_i x y h1 h2
            simp only [Except.ok.injEq, Prod.mk.injEq] at h
            obtain ⟨rfl, rfl⟩ := h
            exact stub (d + 1) p a x y c hk (by omega) h0 h1 h2
          · cases h
        · rename_i hk0
          split at h
          · rename_i hk2
            split at h
            · cases h
            · rename_i l1 a1 e1
              split at h
              · cases h
              · rename_i l2 a2 e2
                simp only [Except.ok.injEq, Prod.mk.injEq] at h
                obtain ⟨rfl, rfl⟩ := h
                obtain ⟨s1, t1, rfl⟩ := ih p (a + 1) _ _ e1
                obtain ⟨s2, t2, rfl⟩ := ih _ _ _ _ e2
                have en : encNs ((⟨2, 0, ByteArray.empty⟩ : PN) :: (l1 ++ l2)) = c :: (encNs l1 ++ encNs l2) := by
                  rw [encNs_cons, encNs_append, u8_of_int (hc'.trans hk2)]; rfl
                rw [en]
                refine ⟨.two d p _ _ hk2 s1 s2, at_cons h0 (At.append.2 ⟨t1, t2⟩), ?_⟩
                simp only [List.length_cons, List.length_append]; omega
          · rename_i hk2
            have hk3 : kindOf k M N p (d + 1) = 3 := by rcases kindOf_succ k M N p d with h' | h' | h' <;> omega
            split at h
            · cases h
            · rename_i l1 a1 e1
              simp only [Except.ok.injEq, Prod.mk.injEq] at h
              obtain ⟨rfl, rfl⟩ := h
              obtain ⟨s1, t1, rfl⟩ := ih p (a + 1) _ _ e1
              have en : encNs ((⟨3, 0, ByteArray.empty⟩ : PN) :: l1) = c :: encNs l1 := by
                rw [encNs_cons, u8_of_int (hc'.trans hk3)]; rfl
              rw [en]
              refine ⟨.alone d p _ hk3 s1, at_cons h0 t1, ?_⟩
              simp only [List.length_cons]; omega

end Go.Proofs.Ytlndinigbppafaa

/-
  Which values a message has, as plain mathematics: the document's P7 beside its P6.
-/
namespace Go.Proofs.Ytlndinigbppafaa

/-- The values of which the document's bytes tell. -/
structure ValidM (x : Msg) : Prop where
  k : x.kind = 1 ∨ x.kind = 2 ∨ x.kind = 3
  n : 1 ≤ x.n ∧ x.n ≤ 500
  r : 0 ≤ x.root ∧ x.root ≤ 65535
  c : x.kind = 1 → x.m = 0 ∧ x.tree = []
  g : x.kind = 2 → 1 ≤ x.m ∧ x.m ≤ x.n
  m : x.kind = 3 → 0 ≤ x.m ∧ x.m < x.n ∧ x.root = 0
  t : x.kind ≠ 1 → Shp x.kind x.m x.n (dep x.n.toNat) 0 x.tree

def encV (x : Msg) : List UInt8 := encM x.kind x.m x.n x.root x.tree

theorem growth_noleaf (M N : Int) (p : Nat) : kindOf 2 M N p 0 ≠ 1 := by
  unfold kindOf
  have h : (p : Int) + pw 0 ≤ M ∨ M ≤ p := by rw [pw_zero]; omega
  simp [h]
/-- Of two nodes below one at least one is a stub. -/
theorem stub_one (k M N : Int) (p d : Nat) (hk : kindOf k M N p d ≠ 0) : kindOf k M N (p + pw d) d = 0 := by
  unfold kindOf at hk ⊢
  by_cases h2 : k = 2
  · subst h2
    simp only [if_pos] at hk ⊢
    rw [if_pos]
    have h : ¬ ((p : Int) + pw d ≤ M ∨ M ≤ p) := fun h => hk (if_pos h)
    rw [Int.natCast_add]; omega
  · simp only [if_neg h2] at hk ⊢
    rw [if_pos]
    have h : ¬ (M < p ∨ (p : Int) + pw d ≤ M) := fun h => hk (if_pos h)
    rw [Int.natCast_add]; omega
theorem shp_stub {k M N : Int} {d p : Nat} {l : List PN} (h : Shp k M N d p l) (hk : kindOf k M N p d = 0) : (encNs l).length = 3 := by
  cases h with
  | stub _ _ g _ _ _ => rw [encNs_one]; rfl
  | leaf _ e h1 _ => omega
  | two d _ a b h1 _ _ => omega
  | alone d _ a h1 _ => omega
theorem shp_len {k M N : Int} {d p : Nat} {l : List PN} (h : Shp k M N d p l) : (encNs l).length ≤ 52 + 4 * d := by
  induction h with
  | stub d p g _ _ _ => rw [encNs_one]; show 3 ≤ _; omega
  | leaf p e _ he =>
    have := encN_le ⟨1, 0, e⟩ 48
    rw [encNs_one]
    show (b8 1 :: ([] ++ (b8 e.size :: e.data.toList))).length ≤ _
    have hee : e.data.toList.length = e.size := by rw [Array.length_toList]; rfl
    simp only [List.nil_append, List.length_cons, hee]; omega
  | two d p a b hk ha hb iha ihb =>
    rw [encNs_cons, encNs_append]
    have e : (encN ⟨2, 0, ByteArray.empty⟩).length = 1 := rfl
    rw [List.length_append, List.length_append, e]
    by_cases h0 : kindOf k M N p d = 0
    · have := shp_stub ha h0; omega
    · have := shp_stub hb (stub_one k M N p d h0); omega
  | alone d p a hk ha iha =>
    rw [encNs_cons]
    have e : (encN ⟨3, 0, ByteArray.empty⟩).length = 1 := rfl
    rw [List.length_append, e]; omega
theorem dep_500 (n : Int) (h : n ≤ 500) : dep n.toNat ≤ 9 := dep_le _ _ (by rw [pw_9]; omega)
theorem ValidM.len {x : Msg} (h : ValidM x) : (encV x).length ≤ 4000 := by
  unfold encV encM
  have h1 := encH_le x.kind x.m x.n x.root
  rw [List.length_append]
  by_cases hk : x.kind = 1
  · rw [(h.c hk).2]
    have e : (encNs ([] : List PN)).length = 0 := rfl
    omega
  · have := shp_len (h.t hk)
    have := dep_500 x.n h.n.2
    omega
theorem at_zero (s : List UInt8) : At s 0 s := ⟨by rw [List.drop_zero, List.take_length], by omega⟩
theorem at_whole {s l : List UInt8} (h : At s 0 l) (hl : s.length ≤ l.length) : s = l := by
  have := h.1; rw [List.drop_zero, List.take_of_length_le hl] at this; exact this

theorem num2_of_two8 (g : Int) (h0 : 0 ≤ g) (h1 : g ≤ 65535) {a b : UInt8} (e : two8 g = [a, b]) : num2 a b = g := by
  unfold two8 at e
  simp only [List.cons.injEq, and_true] at e
  rw [← e.1, ← e.2]; exact num2_two8 g h0 h1

/-- The bytes of a value that may be are read as it. -/
theorem decS_enc {x : Msg} (h : ValidM x) : decS (encV x) = .ok x := by
  obtain ⟨k, m, n, r, t⟩ := x
  have hl := h.len
  obtain ⟨hk, hn, hr, hc, hg, hm, ht⟩ := h
  simp only at hk hn hr hc hg hm ht
  have hn2 := num2_two8 n (by omega) (by omega)
  have hr2 := num2_two8 r (by omega) (by omega)
  rcases hk with rfl | rfl | rfl
  · obtain ⟨rfl, rfl⟩ := hc rfl
    have e : encV ⟨1, 0, n, r, []⟩ = [1, UInt8.ofNat (n / 256 % 256).toNat, UInt8.ofNat (n % 256).toNat, UInt8.ofNat (r / 256 % 256).toNat, UInt8.ofNat (r % 256).toNat] := rfl
    rw [e]
    simp [decS, rdHead, hn2, hr2]
    rw [if_neg (by omega)]
    simp
  · have hg := hg rfl
    have hm2 := num2_two8 m (by omega) (by omega)
    have ht := ht (by omega)
    have e : encV ⟨2, m, n, r, t⟩ = [2, UInt8.ofNat (m / 256 % 256).toNat, UInt8.ofNat (m % 256).toNat, UInt8.ofNat (n / 256 % 256).toNat, UInt8.ofNat (n % 256).toNat, UInt8.ofNat (r / 256 % 256).toNat, UInt8.ofNat (r % 256).toNat] ++ encNs t := rfl
    rw [e] at hl ⊢
    have ha := (At.append.1 (at_zero ([2, UInt8.ofNat (m / 256 % 256).toNat, UInt8.ofNat (m % 256).toNat, UInt8.ofNat (n / 256 % 256).toNat, UInt8.ofNat (n % 256).toNat, UInt8.ofNat (r / 256 % 256).toNat, UInt8.ofNat (r % 256).toNat] ++ encNs t))).2
    have hd := rdNode_shp _ 2 m n ht _ ha
    have hh : rdHead ([2, UInt8.ofNat (m / 256 % 256).toNat, UInt8.ofNat (m % 256).toNat, UInt8.ofNat (n / 256 % 256).toNat, UInt8.ofNat (n % 256).toNat, UInt8.ofNat (r / 256 % 256).toNat, UInt8.ofNat (r % 256).toNat] ++ encNs t) = .ok (2, m, n, r, 7) := by
      rw [rdHead, if_neg (by omega)]
      simp [hn2, hr2, hm2]
      rw [if_neg (by omega), if_neg (by omega)]
    rw [decS, hh]
    simp only [List.length_cons, List.length_nil, Nat.zero_add, Nat.reduceAdd] at hd
    simp only [hd]
    rw [if_neg (by omega), if_neg (by simp; omega)]
  · have hm := hm rfl
    obtain ⟨hm0, hm1, rfl⟩ := hm
    have hm2 := num2_two8 m (by omega) (by omega)
    have ht := ht (by omega)
    have e : encV ⟨3, m, n, 0, t⟩ = [3, UInt8.ofNat (m / 256 % 256).toNat, UInt8.ofNat (m % 256).toNat, UInt8.ofNat (n / 256 % 256).toNat, UInt8.ofNat (n % 256).toNat] ++ encNs t := rfl
    rw [e] at hl ⊢
    have ha := (At.append.1 (at_zero ([3, UInt8.ofNat (m / 256 % 256).toNat, UInt8.ofNat (m % 256).toNat, UInt8.ofNat (n / 256 % 256).toNat, UInt8.ofNat (n % 256).toNat] ++ encNs t))).2
    have hd := rdNode_shp _ 3 m n ht _ ha
    have hh : rdHead ([3, UInt8.ofNat (m / 256 % 256).toNat, UInt8.ofNat (m % 256).toNat, UInt8.ofNat (n / 256 % 256).toNat, UInt8.ofNat (n % 256).toNat] ++ encNs t) = .ok (3, m, n, 0, 5) := by
      rw [rdHead, if_neg (by omega)]
      simp [hn2, hm2]
      rw [if_neg (by omega), if_neg (by omega)]
    rw [decS, hh]
    simp only [List.length_cons, List.length_nil, Nat.zero_add, Nat.reduceAdd] at hd
    simp only [hd]
    rw [if_neg (by omega), if_neg (by simp; omega)]

/-- What is read is a value that may be, and its bytes are those. -/
theorem decS_ok {s : List UInt8} {x : Msg} (h : decS s = .ok x) : ValidM x ∧ s = encV x := by
  unfold decS at h
  split at h
  · cases h
  · rename_i k m n r a hh
    unfold rdHead at hh
    split at hh
    · cases hh
    split at hh
    · cases hh
    rename_i c h0
    split at hh
    · cases hh
    split at hh
    · rename_i hc
      split at hh
      · rename_i a1 b1 x1 y1 h1 h2 h3 h4
        split at hh
        · cases hh
        rename_i hn
        simp only [Except.ok.injEq, Prod.mk.injEq] at hh
        obtain ⟨rfl, rfl, rfl, rfl, rfl⟩ := hh
        rw [if_pos rfl] at h
        split at h
        · cases h
        rename_i hl
        simp only [Except.ok.injEq] at h
        subst h
        have hb := num2_bd x1 y1
        refine ⟨⟨Or.inl rfl, ⟨by simp only; omega, by simp only; omega⟩, hb, fun _ => ⟨rfl, rfl⟩, fun h => by simp at h, fun h => by simp at h, fun h => absurd rfl h⟩, ?_⟩
        have e : encV ⟨1, 0, num2 a1 b1, num2 x1 y1, []⟩ = [c, a1, b1, x1, y1] := by
          rw [u8_of_int hc]
          show b8 1 :: ([] ++ (two8 (num2 a1 b1) ++ two8 (num2 x1 y1))) ++ [] = _
          rw [two8_num2, two8_num2]; rfl
        rw [e]
        exact at_whole (at_cons h0 (at_cons h1 (at_cons h2 (at_cons h3 (at_one h4))))) (by simp; omega)
      · cases hh
    split at hh
    · rename_i hc1 hc
      split at hh
      · rename_i u1 v1 a1 b1 x1 y1 h1 h2 h3 h4 h5 h6
        split at hh
        · cases hh
        rename_i hn
        split at hh
        · cases hh
        rename_i hm
        simp only [Except.ok.injEq, Prod.mk.injEq] at hh
        obtain ⟨rfl, rfl, rfl, rfl, rfl⟩ := hh
        rw [if_neg (by omega)] at h
        split at h
        · cases h
        rename_i l a' hd
        split at h
        · cases h
        rename_i hl
        simp only [Except.ok.injEq] at h
        subst h
        obtain ⟨hs, ha, rfl⟩ := rdNode_ok s 2 _ _ _ _ _ _ _ hd
        have hb := num2_bd x1 y1
        refine ⟨⟨Or.inr (Or.inl rfl), ⟨by simp only; omega, by simp only; omega⟩, hb, fun h => by simp at h, fun _ => ⟨by simp only; omega, by simp only; omega⟩, fun h => by simp at h, fun _ => hs⟩, ?_⟩
        have e : encV ⟨2, num2 u1 v1, num2 a1 b1, num2 x1 y1, l⟩ = c :: u1 :: v1 :: a1 :: b1 :: x1 :: y1 :: encNs l := by
          rw [u8_of_int hc]
          show b8 2 :: (two8 (num2 u1 v1) ++ (two8 (num2 a1 b1) ++ two8 (num2 x1 y1))) ++ encNs l = _
          rw [two8_num2, two8_num2, two8_num2]; rfl
        rw [e]
        exact at_whole (at_cons h0 (at_cons h1 (at_cons h2 (at_cons h3 (at_cons h4 (at_cons h5 (at_cons h6 ha))))))) (by simp only [List.length_cons]; omega)
      · cases hh
    · rename_i hc1 hc2
      have hc : (c.toNat : Int) = 3 := by omega
      split at hh
      · rename_i u1 v1 a1 b1 h1 h2 h3 h4
        split at hh
        · cases hh
        rename_i hn
        split at hh
        · cases hh
        rename_i hm
        simp only [Except.ok.injEq, Prod.mk.injEq] at hh
        obtain ⟨rfl, rfl, rfl, rfl, rfl⟩ := hh
        rw [if_neg (by omega)] at h
        split at h
        · cases h
        rename_i l a' hd
        split at h
        · cases h
        rename_i hl
        simp only [Except.ok.injEq] at h
        subst h
        obtain ⟨hs, ha, rfl⟩ := rdNode_ok s 3 _ _ _ _ _ _ _ hd
        have hb := num2_bd u1 v1
        refine ⟨⟨Or.inr (Or.inr rfl), ⟨by simp only; omega, by simp only; omega⟩, ⟨by simp, by simp⟩, fun h => by simp at h, fun h => by simp at h, fun _ => ⟨hb.1, by simp only; omega, rfl⟩, fun _ => hs⟩, ?_⟩
        have e : encV ⟨3, num2 u1 v1, num2 a1 b1, 0, l⟩ = c :: u1 :: v1 :: a1 :: b1 :: encNs l := by
          rw [u8_of_int hc]
          show b8 3 :: (two8 (num2 u1 v1) ++ (two8 (num2 a1 b1) ++ [])) ++ encNs l = _
          rw [two8_num2, two8_num2]; rfl
        rw [e]
        exact at_whole (at_cons h0 (at_cons h1 (at_cons h2 (at_cons h3 (at_cons h4 ha))))) (by simp only [List.length_cons]; omega)
      · cases hh
end Go.Proofs.Ytlndinigbppafaa

/-
  Reading a message by its kind, as plain mathematics.
-/
namespace Go.Proofs.Ytlndinigbppafaa

/-- What is left of reading behind the fields: the tree, and the end. -/
def decT (l : List UInt8) (k M N R : Int) (a : Nat) : Except (Int × Nat) Msg :=
  match rdNode l k M N (dep N.toNat) 0 a with
  | .error e => .error e
  | .ok (t, a') => if a' < l.length then .error (6, a') else .ok ⟨k, M, N, R, t⟩
def dec1G (l : List UInt8) (N R : Int) : Except (Int × Nat) Msg :=
  if N < 1 ∨ 500 < N then .error (1, 1) else if 5 < l.length then .error (6, 5) else .ok ⟨1, 0, N, R, []⟩
def dec2G (l : List UInt8) (M N R : Int) : Except (Int × Nat) Msg :=
  if N < 1 ∨ 500 < N then .error (1, 3) else if M < 1 ∨ N < M then .error (1, 1) else decT l 2 M N R 7
def dec3G (l : List UInt8) (M N : Int) : Except (Int × Nat) Msg :=
  if N < 1 ∨ 500 < N then .error (1, 3) else if N ≤ M then .error (1, 1) else decT l 3 M N 0 5

theorem decS_long (l : List UInt8) (h : 4000 < l.length) : decS l = .error (2, 0) := by
  unfold decS rdHead; rw [if_pos h]
theorem decS_nil (l : List UInt8) (h : l.length = 0) : decS l = .error (5, 0) := by
  rw [List.eq_nil_of_length_eq_zero h]; rfl
theorem decS_kind (l : List UInt8) (h : 0 < l.length) (hl : l.length ≤ 4000) (hk : (l[0].toNat : Int) < 1 ∨ (3 : Int) < (l[0].toNat : Int)) : decS l = .error (4, 0) := by
  unfold decS rdHead
  rw [if_neg (by omega), List.getElem?_eq_getElem h]
  simp only
  rw [if_pos hk]

theorem decS_1s (l : List UInt8) (h : 0 < l.length) (hk : (l[0].toNat : Int) = 1) (h5 : l.length < 5) : decS l = .error (5, l.length) := by
  unfold decS rdHead
  rw [if_neg (by omega), List.getElem?_eq_getElem h]
  simp only
  rw [if_neg (by omega), if_pos hk, List.getElem?_eq_none (show l.length ≤ 4 by omega)]
  cases l[1]? <;> cases l[2]? <;> cases l[3]? <;> rfl
theorem decS_2s (l : List UInt8) (h : 0 < l.length) (hk : (l[0].toNat : Int) = 2) (h5 : l.length < 7) : decS l = .error (5, l.length) := by
  unfold decS rdHead
  rw [if_neg (by omega), List.getElem?_eq_getElem h]
  simp only
  rw [if_neg (by omega), if_neg (by omega), if_pos hk, List.getElem?_eq_none (show l.length ≤ 6 by omega)]
  cases l[1]? <;> cases l[2]? <;> cases l[3]? <;> cases l[4]? <;> cases l[5]? <;> rfl
theorem decS_3s (l : List UInt8) (h : 0 < l.length) (hk : (l[0].toNat : Int) = 3) (h5 : l.length < 5) : decS l = .error (5, l.length) := by
  unfold decS rdHead
  rw [if_neg (by omega), List.getElem?_eq_getElem h]
  simp only
  rw [if_neg (by omega), if_neg (by omega), if_neg (by omega), List.getElem?_eq_none (show l.length ≤ 4 by omega)]
  cases l[1]? <;> cases l[2]? <;> cases l[3]? <;> rfl
theorem decS_1 (l : List UInt8) (h5 : 5 ≤ l.length) (hl : l.length ≤ 4000) (hk : (l[0].toNat : Int) = 1) : decS l = dec1G l (num2 l[1] l[2]) (num2 l[3] l[4]) := by
  unfold decS rdHead dec1G
  rw [if_neg (by omega), List.getElem?_eq_getElem (show 0 < l.length by omega)]
  simp only
  rw [if_neg (by omega), if_pos hk, List.getElem?_eq_getElem (show 1 < l.length by omega), List.getElem?_eq_getElem (show 2 < l.length by omega), List.getElem?_eq_getElem (show 3 < l.length by omega), List.getElem?_eq_getElem (show 4 < l.length by omega)]
  simp only
  by_cases hN : num2 l[1] l[2] < 1 ∨ (500 : Int) < num2 l[1] l[2]
  · rw [if_pos hN, if_pos hN]
  · rw [if_neg hN, if_neg hN]
    simp only [if_pos]
theorem decS_2 (l : List UInt8) (h5 : 7 ≤ l.length) (hl : l.length ≤ 4000) (hk : (l[0].toNat : Int) = 2) : decS l = dec2G l (num2 l[1] l[2]) (num2 l[3] l[4]) (num2 l[5] l[6]) := by
  unfold decS rdHead dec2G decT
  rw [if_neg (by omega), List.getElem?_eq_getElem (show 0 < l.length by omega)]
  simp only
  rw [if_neg (by omega), if_neg (by omega), if_pos hk, List.getElem?_eq_getElem (show 1 < l.length by omega), List.getElem?_eq_getElem (show 2 < l.length by omega), List.getElem?_eq_getElem (show 3 < l.length by omega), List.getElem?_eq_getElem (show 4 < l.length by omega), List.getElem?_eq_getElem (show 5 < l.length by omega), List.getElem?_eq_getElem (show 6 < l.length by omega)]
  simp only
  by_cases hN : num2 l[3] l[4] < 1 ∨ (500 : Int) < num2 l[3] l[4]
  · rw [if_pos hN, if_pos hN]
  · rw [if_neg hN, if_neg hN]
    by_cases hM : num2 l[1] l[2] < 1 ∨ num2 l[3] l[4] < num2 l[1] l[2]
    · rw [if_pos hM, if_pos hM]
    · rw [if_neg hM, if_neg hM]
      simp only
      rw [if_neg (by omega)]
      all_goals (generalize rdNode _ _ _ _ _ _ _ = r; cases r <;> rfl)
theorem decS_3 (l : List UInt8) (h5 : 5 ≤ l.length) (hl : l.length ≤ 4000) (hk : (l[0].toNat : Int) = 3) : decS l = dec3G l (num2 l[1] l[2]) (num2 l[3] l[4]) := by
  unfold decS rdHead dec3G decT
  rw [if_neg (by omega), List.getElem?_eq_getElem (show 0 < l.length by omega)]
  simp only
  rw [if_neg (by omega), if_neg (by omega), if_neg (by omega), List.getElem?_eq_getElem (show 1 < l.length by omega), List.getElem?_eq_getElem (show 2 < l.length by omega), List.getElem?_eq_getElem (show 3 < l.length by omega), List.getElem?_eq_getElem (show 4 < l.length by omega)]
  simp only
  by_cases hN : num2 l[3] l[4] < 1 ∨ (500 : Int) < num2 l[3] l[4]
  · rw [if_pos hN, if_pos hN]
  · rw [if_neg hN, if_neg hN]
    by_cases hM : num2 l[3] l[4] ≤ num2 l[1] l[2]
    · rw [if_pos hM, if_pos hM]
    · rw [if_neg hM, if_neg hM]
      simp only
      rw [if_neg (by omega)]
      all_goals (generalize rdNode _ _ _ _ _ _ _ = r; cases r <;> rfl)
end Go.Proofs.Ytlndinigbppafaa

/-
  Reading a message that was cut short, or has a byte more, as plain mathematics.
-/
namespace Go.Proofs.Ytlndinigbppafaa

/-- The bytes of s from a on, up to its end, are the first of l, and not all. -/
def Cut (s : List UInt8) (a : Nat) (l : List UInt8) : Prop := a ≤ s.length ∧ s.length < a + l.length ∧ ∀ j, a + j < s.length → s[a + j]? = l[j]?

theorem Cut.split {s : List UInt8} {a : Nat} {l r : List UInt8} (h : Cut s a (l ++ r)) : Cut s a l ∨ (At s a l ∧ Cut s (a + l.length) r) := by
  obtain ⟨h1, h2, h3⟩ := h
  rw [List.length_append] at h2
  rcases Nat.lt_or_ge s.length (a + l.length) with h | h
  · left
    refine ⟨h1, h, fun j hj => ?_⟩
    rw [h3 j hj, List.getElem?_append_left (by omega)]
  · right
    refine ⟨At.of_get (fun j hj => ?_) h, h, by omega, fun j hj => ?_⟩
    · rcases Nat.lt_or_ge (a + j) s.length with hh | hh
      · rw [h3 j hh, List.getElem?_append_left hj, List.getElem?_eq_getElem hj]
      · omega
    · rw [Nat.add_assoc, h3 (l.length + j) (by omega), List.getElem?_append_right (by omega)]
      simp

/-- The first byte, if the cut is behind it. -/
theorem Cut.one {s : List UInt8} {a : Nat} {c : UInt8} {r : List UInt8} (h : Cut s a (c :: r)) : s[a]? = none ∨ (s[a]? = some c ∧ Cut s (a + 1) r) := by
  rcases Cut.split (l := [c]) (r := r) h with h | ⟨h, h'⟩
  · left
    have := h.1; have := h.2.1
    simp only [List.length_cons, List.length_nil] at this
    exact List.getElem?_eq_none (by omega)
  · right
    have := h.get 0 (by simp)
    simp only [Nat.add_zero, List.getElem_cons_zero] at this
    exact ⟨this, h'⟩
theorem Cut.nil {s : List UInt8} {a : Nat} (h : Cut s a []) : False := by
  have := h.1; have := h.2.1
  simp only [List.length_nil] at this
  omega

/-- A tree of the shape whose bytes are cut short is too short. -/
theorem rdNode_cut (s : List UInt8) (k M N : Int) {d p : Nat} {l : List PN} (h : Shp k M N d p l) : ∀ a, Cut s a (encNs l) → rdNode s k M N d p a = .error (5, s.length) := by
  induction h with
  | stub d p g hk h0 h1 =>
    intro a ha
    have e : encNs [(⟨0, g, ByteArray.empty⟩ : PN)] = [0, UInt8.ofNat (g / 256 % 256).toNat, UInt8.ofNat (g % 256).toNat] := by
      rw [encNs_one]; rfl
    rw [e] at ha
    rcases ha.one with q0 | ⟨q0, ha⟩
    · cases d with
      | zero => simp [rdNode, q0]
      | succ d => simp [rdNode, q0]
    · rcases ha.one with q1 | ⟨q1, ha⟩
      · cases d with
        | zero => simp [rdNode, q0, q1, hk]
        | succ d => simp [rdNode, q0, q1, hk]
      · rcases ha.one with q2 | ⟨q2, ha⟩
        · cases d with
          | zero => simp [rdNode, q0, q1, q2, hk]
          | succ d => simp [rdNode, q0, q1, q2, hk]
        · exact ha.nil.elim
  | leaf p e hk he =>
    intro a ha
    have hee : e.data.toList.length = e.size := by rw [Array.length_toList]; rfl
    have hb : (b8 (e.size : Int)).toNat = e.size := by have := b8_nat (e.size : Int) (by omega) (by omega); omega
    have en : encNs [(⟨1, 0, e⟩ : PN)] = 1 :: b8 (e.size : Int) :: e.data.toList := by
      rw [encNs_one]; rfl
    rw [en] at ha
    rcases ha.one with q0 | ⟨q0, ha⟩
    · simp [rdNode, q0]
    · rcases ha.one with q1 | ⟨q1, ha⟩
      · simp [rdNode, q0, q1, hk]
      · have h3 := ha.2.1
        rw [hee] at h3
        simp [rdNode, q0, q1, hk, hb]
        rw [if_neg (by omega), if_pos (by omega)]
  | two d p l r hk hl _ ihl ihr =>
    intro a ha
    have en : encNs ((⟨2, 0, ByteArray.empty⟩ : PN) :: (l ++ r)) = 2 :: (encNs l ++ encNs r) := by
      rw [encNs_cons, encNs_append]; rfl
    rw [en] at ha
    rcases ha.one with q0 | ⟨q0, ha⟩
    · simp [rdNode, q0]
    · rcases ha.split with h1 | ⟨h1, h2⟩
      · simp [rdNode, q0, hk, ihl _ h1]
      · simp [rdNode, q0, hk, rdNode_shp s k M N hl _ h1, ihr _ h2]
  | alone d p l hk _ ihl =>
    intro a ha
    have en : encNs ((⟨3, 0, ByteArray.empty⟩ : PN) :: l) = 3 :: encNs l := by
      rw [encNs_cons]; rfl
    rw [en] at ha
    rcases ha.one with q0 | ⟨q0, ha⟩
    · simp [rdNode, q0]
    · simp [rdNode, q0, hk, ihl _ ha]

theorem cut_of (e t : List UInt8) (c : Nat) (hc : c < t.length) : Cut (e ++ t.take c) e.length t := by
  refine ⟨by simp, ?_, fun j hj => ?_⟩
  · rw [List.length_append, List.length_take]; omega
  · rw [List.length_append, List.length_take] at hj
    rw [List.getElem?_append_right (by omega), Nat.add_sub_cancel_left, List.getElem?_take, if_pos (by omega)]

theorem at_of (e t r : List UInt8) : At (e ++ (t ++ r)) e.length t := by
  have := (At.append.1 (at_zero (e ++ (t ++ r)))).2
  rw [Nat.zero_add] at this
  exact (At.append.1 this).1

/-- The fields of a message that may be, whatever stands behind. -/
theorem rdHead_enc {x : Msg} (h : ValidM x) (t : List UInt8) (hl : (encH x.kind x.m x.n x.root ++ t).length ≤ 4000) : rdHead (encH x.kind x.m x.n x.root ++ t) = .ok (x.kind, x.m, x.n, x.root, (encH x.kind x.m x.n x.root).length) := by
  obtain ⟨k, m, n, r, tr⟩ := x
  obtain ⟨hk, hn, hr, hc, hg, hm, ht⟩ := h
  simp only at hk hn hr hc hg hm ht hl ⊢
  have hn2 := num2_two8 n (by omega) (by omega)
  have hr2 := num2_two8 r (by omega) (by omega)
  rcases hk with rfl | rfl | rfl
  · obtain ⟨rfl, rfl⟩ := hc rfl
    have e : encH 1 0 n r = [1, UInt8.ofNat (n / 256 % 256).toNat, UInt8.ofNat (n % 256).toNat, UInt8.ofNat (r / 256 % 256).toNat, UInt8.ofNat (r % 256).toNat] := rfl
    rw [e] at hl ⊢
    rw [rdHead, if_neg (by omega)]
    simp [hn2, hr2]
    omega
  · have hg := hg rfl
    have hm2 := num2_two8 m (by omega) (by omega)
    have e : encH 2 m n r = [2, UInt8.ofNat (m / 256 % 256).toNat, UInt8.ofNat (m % 256).toNat, UInt8.ofNat (n / 256 % 256).toNat, UInt8.ofNat (n % 256).toNat, UInt8.ofNat (r / 256 % 256).toNat, UInt8.ofNat (r % 256).toNat] := rfl
    rw [e] at hl ⊢
    rw [rdHead, if_neg (by omega)]
    simp [hn2, hr2, hm2]
    rw [if_neg (by omega), if_neg (by omega)]
  · obtain ⟨hm0, hm1, rfl⟩ := hm rfl
    have hm2 := num2_two8 m (by omega) (by omega)
    have e : encH 3 m n 0 = [3, UInt8.ofNat (m / 256 % 256).toNat, UInt8.ofNat (m % 256).toNat, UInt8.ofNat (n / 256 % 256).toNat, UInt8.ofNat (n % 256).toNat] := rfl
    rw [e] at hl ⊢
    rw [rdHead, if_neg (by omega)]
    simp [hn2, hm2]
    rw [if_neg (by omega), if_neg (by omega)]

/-- A message with a byte more. -/
theorem decS_more {x : Msg} (h : ValidM x) (z : UInt8) (hl : (encV x).length < 4000) : decS (encV x ++ [z]) = .error (6, (encV x).length) := by
  have e : encV x = encH x.kind x.m x.n x.root ++ encNs x.tree := rfl
  rw [e] at hl ⊢
  rw [List.append_assoc]
  have hh := rdHead_enc h (encNs x.tree ++ [z]) (by rw [← List.append_assoc, List.length_append]; simp only [List.length_cons, List.length_nil]; omega)
  rw [decS, hh]
  simp only
  by_cases hk : x.kind = 1
  · obtain ⟨hm, ht⟩ := h.c hk
    rw [if_pos hk, ht]
    have e2 : encNs ([] : List PN) = [] := rfl
    rw [e2]
    simp
  · rw [if_neg hk, rdNode_shp _ _ _ _ (h.t hk) _ (at_of _ _ _)]
    simp only
    rw [if_pos (by simp), List.length_append]

/-- A message that is cut short. -/
theorem decS_cut {x : Msg} (h : ValidM x) (c : Nat) (hc : c < (encV x).length) : decS ((encV x).take c) = .error (5, c) := by
  have hlen := h.len
  have hcl : ((encV x).take c).length = c := by rw [List.length_take]; omega
  have e : encV x = encH x.kind x.m x.n x.root ++ encNs x.tree := rfl
  rcases Nat.lt_or_ge c (encH x.kind x.m x.n x.root).length with hh | hh
  · rcases Nat.eq_zero_or_pos c with rfl | h0
    · rw [decS_nil _ hcl]
    · have hp : 0 < ((encV x).take c).length := by omega
      have hget : ((encV x).take c)[0] = b8 x.kind := by
        rw [List.getElem_take]
        have : (encV x)[0]? = some (b8 x.kind) := by rw [e]; rfl
        rw [List.getElem?_eq_getElem (by omega)] at this
        exact Option.some.inj this
      have key : ∀ r, (((encV x).take c).length = c) → decS ((encV x).take c) = .error (5, ((encV x).take c).length) → r = c → decS ((encV x).take c) = .error (5, r) := by
        intro r h1 h2 h3; rw [h2, h1, h3]
      refine key c hcl ?_ rfl
      rcases h.k with hk | hk | hk
      · rw [hk] at hget
        have h5 : (encH x.kind x.m x.n x.root).length = 5 := by rw [hk]; rfl
        exact decS_1s _ hp (by rw [hget]; rfl) (by omega)
      · rw [hk] at hget
        have h5 : (encH x.kind x.m x.n x.root).length = 7 := by rw [hk]; rfl
        exact decS_2s _ hp (by rw [hget]; rfl) (by omega)
      · rw [hk] at hget
        have h5 : (encH x.kind x.m x.n x.root).length = 5 := by rw [hk]; rfl
        exact decS_3s _ hp (by rw [hget]; rfl) (by omega)
  · have hE : (encV x).take c = encH x.kind x.m x.n x.root ++ (encNs x.tree).take (c - (encH x.kind x.m x.n x.root).length) := by
      rw [e, List.take_append, List.take_of_length_le hh]
    have hc2 : c - (encH x.kind x.m x.n x.root).length < (encNs x.tree).length := by
      rw [e, List.length_append] at hc; omega
    have hd := rdHead_enc h ((encNs x.tree).take (c - (encH x.kind x.m x.n x.root).length)) (by rw [← hE, hcl]; omega)
    have hcut := cut_of (encH x.kind x.m x.n x.root) (encNs x.tree) _ hc2
    have hk : x.kind ≠ 1 := fun hk => by
      have ht := (h.c hk).2
      rw [ht] at hc2
      have e2 : (encNs ([] : List PN)).length = 0 := rfl
      omega
    have hr := rdNode_cut _ _ _ _ (h.t hk) _ hcut
    rw [← hE, hcl] at hr
    rw [← hE] at hd
    rw [decS, hd]
    simp only
    rw [if_neg hk, hr]
end Go.Proofs.Ytlndinigbppafaa

/-
  The walks of the document's reader: the bytes and numbers of a message.
-/
namespace Go.Proofs.Ytlndinigbppafaa
open Go.RowKit

/-- A reader: its own block, and its row of nodes. -/
def ScanAt (w : World) (b0 B : Nat) (s : ByteArray) (a e q : Int) (V : Value) (ns : List PN) : Prop :=
  b0 ≤ B ∧ w.heap[B]? = some (.cells #[.string s, .int .i64 a, .int .i64 e, .int .i64 q, V] 96 (0, 0)) ∧ w.ownsRow b0 100 3 V ns.length (cellsN ns)

theorem ScanAt.cell {w : World} {b0 B : Nat} {s : ByteArray} {a e q : Int} {V : Value} {ns : List PN} (h : ScanAt w b0 B s a e q V ns) :
    w.cell? ⟨B, 0, none⟩ = some (.string s) ∧ w.cell? ⟨B, 1, none⟩ = some (.int .i64 a) ∧ w.cell? ⟨B, 2, none⟩ = some (.int .i64 e) ∧ w.cell? ⟨B, 3, none⟩ = some (.int .i64 q) ∧ w.cell? ⟨B, 4, none⟩ = some V := by
  refine ⟨?_, ?_, ?_, ?_, ?_⟩ <;> (rw [cell_of_row _ _ _ _ _ _ h.2.1]; rfl)
theorem ScanAt.frozen {w : World} {b0 B : Nat} {s : ByteArray} {a e q : Int} {V : Value} {ns : List PN} (h : ScanAt w b0 B s a e q V ns) (j : Nat) : w.frozen? ⟨B, j, none⟩ = false := by
  unfold World.frozen?; rw [h.2.1]; simp
theorem ScanAt.row_ne {w : World} {b0 B : Nat} {s : ByteArray} {a e q : Int} {V : Value} {ns : List PN} (h : ScanAt w b0 B s a e q V ns) : V.ownBlock ≠ some B := by
  intro x
  rcases h.2.2.2 with ⟨rfl, _⟩ | ⟨g, cap, cur, rfl, _, hgg, _⟩
  · simp [Value.ownBlock] at x
  · simp [Value.ownBlock] at x
    subst x
    have := h.2.1
    rw [hgg] at this
    simp at this
theorem ScanAt.below {w w' : World} {b0 B : Nat} {s : ByteArray} {a e q : Int} {V : Value} {ns : List PN} (h : ScanAt w b0 B s a e q V ns) (hb : Below w.heap.size w w') : ScanAt w' b0 B s a e q V ns := by
  obtain ⟨h0, h1, h2⟩ := h
  exact ⟨h0, by rw [hb.block B (lt_of_heap h1)]; exact h1, owns_below h2 hb⟩
/-- A store into one of its numbers. -/
theorem ScanAt.set1 {w : World} {b0 B : Nat} {s : ByteArray} {a e q : Int} {V : Value} {ns : List PN} (h : ScanAt w b0 B s a e q V ns) (x : Int) : ScanAt (w.setCell ⟨B, 1, none⟩ (.int .i64 x)) b0 B s x e q V ns :=
  ⟨h.1, by simp [World.setCell, Array.getElem?_modify, h.2.1], ownsRow_setCell_other h.2.2 h.row_ne _⟩
theorem ScanAt.set2 {w : World} {b0 B : Nat} {s : ByteArray} {a e q : Int} {V : Value} {ns : List PN} (h : ScanAt w b0 B s a e q V ns) (x : Int) : ScanAt (w.setCell ⟨B, 2, none⟩ (.int .i64 x)) b0 B s a x q V ns :=
  ⟨h.1, by simp [World.setCell, Array.getElem?_modify, h.2.1], ownsRow_setCell_other h.2.2 h.row_ne _⟩
theorem ScanAt.set3 {w : World} {b0 B : Nat} {s : ByteArray} {a e q : Int} {V : Value} {ns : List PN} (h : ScanAt w b0 B s a e q V ns) (x : Int) : ScanAt (w.setCell ⟨B, 3, none⟩ (.int .i64 x)) b0 B s a e x V ns :=
  ⟨h.1, by simp [World.setCell, Array.getElem?_modify, h.2.1], ownsRow_setCell_other h.2.2 h.row_ne _⟩

theorem Frame2.refl (w : World) (B : Nat) (row : Option Nat) : Frame2 w w B row := ⟨rfl, rfl, rfl, Nat.le_refl _, fun _ _ _ _ => rfl⟩
theorem Frame2.set (w w' : World) (B j : Nat) (row : Option Nat) (u : Value) (h : Frame2 w w' B row) : Frame2 w (w'.setCell ⟨B, j, none⟩ u) B row :=
  ⟨h.os, h.tape, h.output, by simpa [World.setCell] using h.size, fun k hk hB hr => by rw [Below.heap_setCell _ _ _ _ hB]; exact h.block k hk hB hr⟩

theorem Frame2.then {w w' w'' : World} {B : Nat} {row : Option Nat} (h : Frame2 w w' B row) (hb : Below w'.heap.size w' w'') : Frame2 w w'' B row :=
  ⟨hb.os.trans h.os, hb.tape.trans h.tape, hb.output.trans h.output, Nat.le_trans h.size hb.size, fun k hk hB hr => (hb.block k (Nat.lt_of_lt_of_le hk h.size)).trans (h.block k hk hB hr)⟩
theorem Frame2.trans {w w' w'' : World} {B : Nat} {row row' : Option Nat} (h : Frame2 w w' B row) (h' : Frame2 w' w'' B row') (hr : row' = none ∨ row' = row ∨ ∃ g, row' = some g ∧ w.heap.size ≤ g := by exact Or.inl rfl) : Frame2 w w'' B row :=
  ⟨h'.os.trans h.os, h'.tape.trans h.tape, h'.output.trans h.output, Nat.le_trans h.size h'.size, fun k hk hB hk2 => (h'.block k (Nat.lt_of_lt_of_le hk h.size) hB (by
    rcases hr with rfl | rfl | ⟨g, rfl, hg⟩
    · simp
    · exact hk2
    · intro e; cases e; omega)).trans (h.block k hk hB hk2)⟩
theorem Frame2.of_below {w w' : World} (B : Nat) (row : Option Nat) (hb : Below w.heap.size w w') : Frame2 w w' B row := (Frame2.refl w B row).then hb
theorem below_qn (w : World) (n : Nat) : Below w.heap.size w (w.drewN n) := below_drewN (Below.refl _ _) n

set_option maxRecDepth 100000 in
set_option maxHeartbeats 400000 in
theorem no_first (w : World) (b0 B : Nat) (s : ByteArray) (a q : Int) (V : Value) (ns : List PN) (x y : Int) (h : ScanAt w b0 B s a 0 q V ns) :
    Calls Try.prog 57 #[.pointer (some ⟨B, 0, none⟩), .int .i64 x, .int .i64 y] w fun r w' => r = .returned (.tuple #[]) ∧ ScanAt w' b0 B s a x y V ns ∧ Frame2 w w' B none := by
  obtain ⟨c0, c1, c2, c3, c4⟩ := h.cell
  have z2 := h.frozen 2
  have z3 := h.frozen 3
  have hB := lt_of_heap h.2.1
  have HS := (h.set2 x).set3 y
  have HF := (Frame2.refl w B none).set _ _ B 2 none (.int .i64 x) |>.set _ _ B 3 none (.int .i64 y)
  go_enter Try.func57, Try.ntmps57
  go_wp2
  go_returns
  exact ⟨rfl, HS, HF⟩

set_option maxRecDepth 100000 in
set_option maxHeartbeats 400000 in
theorem no_more (w : World) (b0 B : Nat) (s : ByteArray) (a e q : Int) (V : Value) (ns : List PN) (x y : Int) (h : ScanAt w b0 B s a e q V ns) (he : e ≠ 0) :
    Calls Try.prog 57 #[.pointer (some ⟨B, 0, none⟩), .int .i64 x, .int .i64 y] w fun r w' => r = .returned (.tuple #[]) ∧ w' = w := by
  obtain ⟨c0, c1, c2, c3, c4⟩ := h.cell
  have heb : (e == 0) = false := beq_eq_false_iff_ne.2 he
  go_enter Try.func57, Try.ntmps57
  go_wp2
  go_returns
  exact ⟨rfl, rfl⟩

theorem get_int (s : ByteArray) (a : Nat) (h : a < s.size) : s.data.toList[a]? = some s[a] := by
  rw [Array.getElem?_toList, Array.getElem?_eq_getElem (show a < s.data.size from h)]; rfl

set_option maxRecDepth 100000 in
set_option maxHeartbeats 400000 in
theorem next_ok (w : World) (b0 B : Nat) (s : ByteArray) (a : Nat) (q : Int) (V : Value) (ns : List PN) (h : ScanAt w b0 B s a 0 q V ns) (ha : a < s.size) (hs : s.size ≤ 4000) :
    Calls Try.prog 56 #[.pointer (some ⟨B, 0, none⟩)] w fun r w' => r = .returned (.int .i64 s[a].toNat) ∧ ScanAt w' b0 B s (a + 1 : Nat) 0 q V ns ∧ Frame2 w w' B none := by
  obtain ⟨c0, c1, c2, c3, c4⟩ := h.cell
  have z1 := h.frozen 1
  have hB := lt_of_heap h.2.1
  go_enter Try.func56, Try.ntmps56
  go_wp2
  go_quiet (fail)
  go_wp2
  go_quiet (fail)
  go_wp2
  go_returns
  exact ⟨ret_int (by have := s[a].toNat_lt; go_arith), ((h.below (below_qn _ _)).set1 _).below (below_qn _ _), ((Frame2.of_below B none (below_qn w _)).set _ _ B 1 none _).then (below_qn _ _)⟩

set_option maxRecDepth 100000 in
set_option maxHeartbeats 400000 in
theorem next_end (w : World) (b0 B : Nat) (s : ByteArray) (a : Nat) (q : Int) (V : Value) (ns : List PN) (h : ScanAt w b0 B s a 0 q V ns) (ha : s.size ≤ a) :
    Calls Try.prog 56 #[.pointer (some ⟨B, 0, none⟩)] w fun r w' => r = .returned (.int .i64 0) ∧ ScanAt w' b0 B s a 5 s.size V ns ∧ Frame2 w w' B none := by
  obtain ⟨c0, c1, c2, c3, c4⟩ := h.cell
  go_enter Try.func56, Try.ntmps56
  go_wp2
  go_quiet (fail)
  go_wp2_with (go_at_call 57; refine (no_first _ _ _ _ _ _ _ _ 5 s.size (h.below (below_qn _ _))).mono ?_; rintro e w' ⟨rfl, h', hF⟩; obtain ⟨d0, d1, d2, d3, d4⟩ := h'.cell)
  go_returns
  exact ⟨rfl, h', (Frame2.of_below B none (below_qn w _)).trans hF⟩

set_option maxRecDepth 100000 in
set_option maxHeartbeats 400000 in
theorem next_err (w : World) (b0 B : Nat) (s : ByteArray) (a : Nat) (e q : Int) (V : Value) (ns : List PN) (h : ScanAt w b0 B s a e q V ns) (he : e ≠ 0) :
    Calls Try.prog 56 #[.pointer (some ⟨B, 0, none⟩)] w fun r w' => r = .returned (.int .i64 0) ∧ Below w.heap.size w w' := by
  obtain ⟨c0, c1, c2, c3, c4⟩ := h.cell
  have heb : (e == 0) = false := beq_eq_false_iff_ne.2 he
  by_cases ha : a < s.size
  · go_enter Try.func56, Try.ntmps56
    go_wp2
    go_quiet (fail)
    go_wp2
    go_returns
    exact ⟨rfl, below_qn _ _⟩
  · go_enter Try.func56, Try.ntmps56
    go_wp2
    go_quiet (fail)
    go_wp2_with (go_at_call 57; refine (no_more _ _ _ _ _ _ _ _ _ 5 s.size (h.below (below_qn _ _)) he).mono ?_; rintro e w' ⟨rfl, rfl⟩)
    go_returns
    exact ⟨rfl, below_qn _ _⟩

/-- A byte is read: what comes, the place, the error and its place behind it. -/
def nxR (s : ByteArray) (a : Nat) (e : Int) : Int := if h : e = 0 ∧ a < s.size then s[a].toNat else 0
def nxA (s : ByteArray) (a : Nat) (e : Int) : Nat := if e = 0 ∧ a < s.size then a + 1 else a
def nxE (s : ByteArray) (a : Nat) (e : Int) : Int := if e = 0 then (if a < s.size then 0 else 5) else e
def nxQ (s : ByteArray) (a : Nat) (e q : Int) : Int := if e = 0 then (if a < s.size then q else s.size) else q
theorem nxR_bd (s : ByteArray) (a : Nat) (e : Int) : 0 ≤ nxR s a e ∧ nxR s a e ≤ 255 := by
  unfold nxR
  split
  · have := (s[a]).toNat_lt; omega
  · omega
theorem nxA_le (s : ByteArray) (a : Nat) (e : Int) (h : a ≤ s.size) : nxA s a e ≤ s.size := by
  unfold nxA; split <;> omega

theorem next_any (w : World) (b0 B : Nat) (s : ByteArray) (a : Nat) (e q : Int) (V : Value) (ns : List PN) (h : ScanAt w b0 B s a e q V ns) (hs : s.size ≤ 4000) :
    Calls Try.prog 56 #[.pointer (some ⟨B, 0, none⟩)] w fun r w' => r = .returned (.int .i64 (nxR s a e)) ∧ ScanAt w' b0 B s (nxA s a e) (nxE s a e) (nxQ s a e q) V ns ∧ Frame2 w w' B none := by
  by_cases he : e = 0
  · subst he
    by_cases ha : a < s.size
    · have e1 : nxR s a 0 = s[a].toNat := dif_pos ⟨rfl, ha⟩
      have e2 : nxA s a 0 = a + 1 := if_pos ⟨rfl, ha⟩
      have e3 : nxE s a 0 = 0 := by unfold nxE; rw [if_pos rfl, if_pos ha]
      have e4 : nxQ s a 0 q = q := by unfold nxQ; rw [if_pos rfl, if_pos ha]
      rw [e1, e2, e3, e4]
      exact next_ok w b0 B s a q V ns h ha hs
    · have e1 : nxR s a 0 = 0 := dif_neg (fun h => ha h.2)
      have e2 : nxA s a 0 = a := if_neg (fun h => ha h.2)
      have e3 : nxE s a 0 = 5 := by unfold nxE; rw [if_pos rfl, if_neg ha]
      have e4 : nxQ s a 0 q = s.size := by unfold nxQ; rw [if_pos rfl, if_neg ha]
      rw [e1, e2, e3, e4]
      exact next_end w b0 B s a q V ns h (by omega)
  · have e1 : nxR s a e = 0 := dif_neg (fun h => he h.1)
    have e2 : nxA s a e = a := if_neg (fun h => he h.1)
    have e3 : nxE s a e = e := if_neg he
    have e4 : nxQ s a e q = q := if_neg he
    rw [e1, e2, e3, e4]
    exact (next_err w b0 B s a e q V ns h he).mono fun r w' hr => ⟨hr.1, h.below hr.2, Frame2.of_below B none hr.2⟩

/-- Two bytes' number is read. -/
def nuR (s : ByteArray) (a : Nat) (e : Int) : Int := 256 * nxR s a e + nxR s (nxA s a e) (nxE s a e)
def nuA (s : ByteArray) (a : Nat) (e : Int) : Nat := nxA s (nxA s a e) (nxE s a e)
def nuE (s : ByteArray) (a : Nat) (e : Int) : Int := nxE s (nxA s a e) (nxE s a e)
def nuQ (s : ByteArray) (a : Nat) (e q : Int) : Int := nxQ s (nxA s a e) (nxE s a e) (nxQ s a e q)
theorem nuR_bd (s : ByteArray) (a : Nat) (e : Int) : 0 ≤ nuR s a e ∧ nuR s a e ≤ 65535 := by
  unfold nuR
  have h1 := nxR_bd s a e
  have h2 := nxR_bd s (nxA s a e) (nxE s a e)
  omega
theorem nuA_le (s : ByteArray) (a : Nat) (e : Int) (h : a ≤ s.size) : nuA s a e ≤ s.size := nxA_le s _ _ (nxA_le s _ _ h)

set_option maxRecDepth 100000 in
set_option maxHeartbeats 400000 in
theorem number_any (w : World) (b0 B : Nat) (s : ByteArray) (a : Nat) (e q : Int) (V : Value) (ns : List PN) (h : ScanAt w b0 B s a e q V ns) (hs : s.size ≤ 4000) :
    Calls Try.prog 58 #[.pointer (some ⟨B, 0, none⟩)] w fun r w' => r = .returned (.int .i64 (nuR s a e)) ∧ ScanAt w' b0 B s (nuA s a e) (nuE s a e) (nuQ s a e q) V ns ∧ Frame2 w w' B none := by
  have hb1 := nxR_bd s a e
  have hb2 := nxR_bd s (nxA s a e) (nxE s a e)
  unfold nuR nuA nuE nuQ
  go_enter Try.func58, Try.ntmps58
  go_wp2_with fail
  refine (next_any _ _ _ _ _ _ _ _ _ h hs).mono ?_
  rintro r w1 ⟨rfl, h1, hF1⟩
  go_wp2_with fail
  refine (next_any _ _ _ _ _ _ _ _ _ h1 hs).mono ?_
  rintro r w2 ⟨rfl, h2, hF2⟩
  go_wp2
  go_returns
  exact ⟨ret_int (by go_arith), h2, hF1.trans hF2⟩
end Go.Proofs.Ytlndinigbppafaa

/-
  The walk of the document's reader at a node.
-/
namespace Go.Proofs.Ytlndinigbppafaa
open Go.RowKit

theorem nx_ok (s : ByteArray) (a : Nat) (q : Int) (h : a < s.size) : nxR s a 0 = s[a].toNat ∧ nxA s a 0 = a + 1 ∧ nxE s a 0 = 0 ∧ nxQ s a 0 q = q :=
  ⟨dif_pos ⟨rfl, h⟩, if_pos ⟨rfl, h⟩, by unfold nxE; rw [if_pos rfl, if_pos h], by unfold nxQ; rw [if_pos rfl, if_pos h]⟩
theorem nx_end (s : ByteArray) (a : Nat) (q : Int) (h : s.size ≤ a) : nxR s a 0 = 0 ∧ nxA s a 0 = a ∧ nxE s a 0 = 5 ∧ nxQ s a 0 q = s.size :=
  ⟨dif_neg (fun h => by omega), if_neg (fun h => by omega), by unfold nxE; rw [if_pos rfl, if_neg (by omega)], by unfold nxQ; rw [if_pos rfl, if_neg (by omega)]⟩
theorem nx_err (s : ByteArray) (a : Nat) (e q : Int) (h : e ≠ 0) : nxR s a e = 0 ∧ nxA s a e = a ∧ nxE s a e = e ∧ nxQ s a e q = q :=
  ⟨dif_neg (fun x => h x.1), if_neg (fun x => h x.1), if_neg h, if_neg h⟩

/-- The message's value, as the callee keeps it. -/
def MsgAt (w : World) (H : Nat) (k M N R : Int) (T : Value) : Prop := w.cell? ⟨H, 0, none⟩ = some (.int .i64 k) ∧ w.cell? ⟨H, 1, none⟩ = some (.int .i64 M) ∧ w.cell? ⟨H, 2, none⟩ = some (.int .i64 N) ∧ w.cell? ⟨H, 3, none⟩ = some (.int .i64 R) ∧ w.cell? ⟨H, 4, none⟩ = some T
theorem msg_new (w : World) (k M N R : Int) (T : Value) : MsgAt (w.alloc (.cells #[.int .i64 k, .int .i64 M, .int .i64 N, .int .i64 R, T] 42)) w.heap.size k M N R T := by
  refine ⟨?_, ?_, ?_, ?_, ?_⟩ <;> simp
theorem msg_keep {w w' : World} {H : Nat} {k M N R : Int} {T : Value} (h : MsgAt w H k M N R T) (hb : Below w.heap.size w w') : MsgAt w' H k M N R T :=
  ⟨cell_keep h.1 hb, cell_keep h.2.1 hb, cell_keep h.2.2.1 hb, cell_keep h.2.2.2.1 hb, cell_keep h.2.2.2.2 hb⟩
theorem msg_frame {w w' : World} {H B : Nat} {row : Option Nat} {k M N R : Int} {T : Value} (h : MsgAt w H k M N R T) (hF : Frame2 w w' B row) (hB : H ≠ B) (hr : some H ≠ row) : MsgAt w' H k M N R T := by
  have e := hF.block H (World.block_lt_of_cell? w _ h.1) hB hr
  have e2 : ∀ j, w'.cell? ⟨H, j, none⟩ = w.cell? ⟨H, j, none⟩ := fun j => World.cell?_of_block e
  unfold MsgAt
  rw [e2, e2, e2, e2, e2]
  exact h
theorem msg_at {w w' : World} {k M N R : Int} {T : Value} (hb : Below (w.alloc (.cells #[.int .i64 k, .int .i64 M, .int .i64 N, .int .i64 R, T] 42)).heap.size (w.alloc (.cells #[.int .i64 k, .int .i64 M, .int .i64 N, .int .i64 R, T] 42)) w') : MsgAt w' w.heap.size k M N R T := msg_keep (msg_new w k M N R T) hb

set_option maxRecDepth 100000 in
set_option maxHeartbeats 1000000 in
theorem node_err (w : World) (b0 B : Nat) (s : ByteArray) (a : Nat) (e q : Int) (V : Value) (ns : List PN) (k M N R : Int) (T : Value) (p d : Nat) (h : ScanAt w b0 B s a e q V ns) (he : e ≠ 0) (hd : d ≤ 16) (hp : p ≤ 1000000) :
    Calls Try.prog 59 #[.pointer (some ⟨B, 0, none⟩), .agg #[.int .i64 k, .int .i64 M, .int .i64 N, .int .i64 R, T], .int .i64 p, .int .i64 d] w fun r w' => r = .returned (.tuple #[]) ∧ Below w.heap.size w w' := by
  obtain ⟨c0, c1, c2, c3, c4⟩ := h.cell
  have heb : (e == 0) = false := beq_eq_false_iff_ne.2 he
  have hB := lt_of_heap h.2.1
  have hA : Below w.heap.size w (w.alloc (.cells #[.int .i64 k, .int .i64 M, .int .i64 N, .int .i64 R, T] 42)) := (Below.refl _ _).alloc (Nat.le_refl _) _
  go_enter Try.func59, Try.ntmps59
  go_wp2_with fail
  refine (next_err _ _ _ _ _ _ _ _ _ (h.below hA) he).mono ?_
  rintro r w1 ⟨rfl, hb1⟩
  have hm := msg_at hb1
  have hb01 := below_step hA hb1
  clear hA
  obtain ⟨d0, d1, d2, d3, d4⟩ := (h.below hb01).cell
  obtain ⟨m0, m1, m2, m3, m4⟩ := hm
  go_wp2_with fail
  refine (kind_any k M N R T p d w1 hd hp).mono ?_
  rintro r w2 ⟨rfl, hb2⟩
  have hb := below_step hb01 hb2
  obtain ⟨f0, f1, f2, f3, f4⟩ := (h.below hb).cell
  go_wp2
  all_goals go_returns
  all_goals exact ⟨rfl, hb⟩

/-- What a reader leaves behind: its own block and its row alone have changed. -/
def Kept (w w' : World) (B : Nat) (V V' : Value) : Prop := Frame2 w w' B V.ownBlock ∧ (V'.ownBlock = V.ownBlock ∨ ∃ g, V'.ownBlock = some g ∧ w.heap.size ≤ g)

set_option maxRecDepth 100000 in
set_option maxHeartbeats 1000000 in
theorem node_end (w : World) (b0 B : Nat) (s : ByteArray) (a : Nat) (q : Int) (V : Value) (ns : List PN) (k M N R : Int) (T : Value) (p d : Nat) (h : ScanAt w b0 B s a 0 q V ns) (ha : s.size ≤ a) (hd : d ≤ 16) (hp : p ≤ 1000000) :
    Calls Try.prog 59 #[.pointer (some ⟨B, 0, none⟩), .agg #[.int .i64 k, .int .i64 M, .int .i64 N, .int .i64 R, T], .int .i64 p, .int .i64 d] w fun r w' => r = .returned (.tuple #[]) ∧ ScanAt w' b0 B s a 5 s.size V ns ∧ Frame2 w w' B none := by
  obtain ⟨c0, c1, c2, c3, c4⟩ := h.cell
  have hB := lt_of_heap h.2.1
  have hA : Below w.heap.size w (w.alloc (.cells #[.int .i64 k, .int .i64 M, .int .i64 N, .int .i64 R, T] 42)) := (Below.refl _ _).alloc (Nat.le_refl _) _
  go_enter Try.func59, Try.ntmps59
  go_wp2_with fail
  refine (next_end _ _ _ _ _ _ _ _ (h.below hA) ha).mono ?_
  rintro r w1 ⟨rfl, h1, hF1⟩
  obtain ⟨m0, m1, m2, m3, m4⟩ := msg_frame (msg_new w k M N R T) hF1 (by omega) (by simp)
  have hF := (Frame2.of_below B none hA).trans hF1
  clear hA hF1
  obtain ⟨d0, d1, d2, d3, d4⟩ := h1.cell
  go_wp2_with fail
  refine (kind_any k M N R T p d w1 hd hp).mono ?_
  rintro r w2 ⟨rfl, hb2⟩
  have h2 := h1.below hb2
  obtain ⟨f0, f1, f2, f3, f4⟩ := h2.cell
  go_wp2
  all_goals go_returns
  all_goals exact ⟨rfl, h2, hF.then hb2⟩

set_option maxRecDepth 100000 in
set_option maxHeartbeats 1000000 in
theorem node_shape (w : World) (b0 B : Nat) (s : ByteArray) (a : Nat) (q : Int) (V : Value) (ns : List PN) (k M N R : Int) (T : Value) (p d : Nat) (h : ScanAt w b0 B s a 0 q V ns) (ha : a < s.size) (hk : (s[a].toNat : Int) ≠ kindOf k M N p d) (hs : s.size ≤ 4000) (hd : d ≤ 16) (hp : p ≤ 1000000) :
    Calls Try.prog 59 #[.pointer (some ⟨B, 0, none⟩), .agg #[.int .i64 k, .int .i64 M, .int .i64 N, .int .i64 R, T], .int .i64 p, .int .i64 d] w fun r w' => r = .returned (.tuple #[]) ∧ ScanAt w' b0 B s (a + 1 : Nat) 7 a V ns ∧ Frame2 w w' B none := by
  obtain ⟨c0, c1, c2, c3, c4⟩ := h.cell
  have hB := lt_of_heap h.2.1
  have hA : Below w.heap.size w (w.alloc (.cells #[.int .i64 k, .int .i64 M, .int .i64 N, .int .i64 R, T] 42)) := (Below.refl _ _).alloc (Nat.le_refl _) _
  have hkb : ((s[a].toNat : Int) == kindOf k M N p d) = false := beq_eq_false_iff_ne.2 hk
  go_enter Try.func59, Try.ntmps59
  go_wp2_with fail
  refine (next_ok _ _ _ _ _ _ _ _ (h.below hA) ha hs).mono ?_
  rintro r w1 ⟨rfl, h1, hF1⟩
  obtain ⟨m0, m1, m2, m3, m4⟩ := msg_frame (msg_new w k M N R T) hF1 (by omega) (by simp)
  have hF := (Frame2.of_below B none hA).trans hF1
  clear hA hF1
  obtain ⟨d0, d1, d2, d3, d4⟩ := h1.cell
  go_wp2_with fail
  refine (kind_any k M N R T p d w1 hd hp).mono ?_
  rintro r w2 ⟨rfl, hb2⟩
  have h2 := h1.below hb2
  obtain ⟨f0, f1, f2, f3, f4⟩ := h2.cell
  go_wp2_with (go_at_call 57; refine (no_first _ _ _ _ _ _ _ _ 7 a h2).mono ?_; rintro e w3 ⟨rfl, h3, hF3⟩; obtain ⟨g0, g1, g2, g3, g4⟩ := h3.cell)
  all_goals go_returns
  all_goals exact ⟨rfl, h3, (hF.then hb2).trans hF3⟩
end Go.Proofs.Ytlndinigbppafaa

/-
  The walk of the document's reader at a node whose first byte is right.
-/
namespace Go.Proofs.Ytlndinigbppafaa
open Go.RowKit

/-- A node's value in a block of its own. -/
def NAt (w : World) (H : Nat) (x : PN) : Prop := w.heap[H]? = some (.cells #[.int .i64 x.kind, .int .i64 x.dig, .string x.ev] 100 (0, 0))
theorem NAt.cell {w : World} {H : Nat} {x : PN} (h : NAt w H x) : w.cell? ⟨H, 0, none⟩ = some (.int .i64 x.kind) ∧ w.cell? ⟨H, 1, none⟩ = some (.int .i64 x.dig) ∧ w.cell? ⟨H, 2, none⟩ = some (.string x.ev) := by
  refine ⟨?_, ?_, ?_⟩ <;> (rw [cell_of_row _ _ _ _ _ _ h]; rfl)
theorem NAt.frozen {w : World} {H : Nat} {x : PN} (h : NAt w H x) (j : Nat) : w.frozen? ⟨H, j, none⟩ = false := by
  unfold World.frozen?; rw [h]; simp
theorem NAt.frame {w w' : World} {H B : Nat} {row : Option Nat} {x : PN} (h : NAt w H x) (hF : Frame2 w w' B row) (hB : H ≠ B) (hr : some H ≠ row) : NAt w' H x := by
  unfold NAt; rw [hF.block H (lt_of_heap h) hB hr]; exact h
theorem NAt.below {w w' : World} {H : Nat} {x : PN} (h : NAt w H x) (hb : Below w.heap.size w w') : NAt w' H x := by
  unfold NAt; rw [hb.block H (lt_of_heap h)]; exact h
theorem NAt.set1 {w : World} {H : Nat} {x : PN} (h : NAt w H x) (g : Int) : NAt (w.setCell ⟨H, 1, none⟩ (.int .i64 g)) H ⟨x.kind, g, x.ev⟩ := by
  unfold NAt at h ⊢; simp [World.setCell, Array.getElem?_modify, h]
theorem NAt.set2 {w : World} {H : Nat} {x : PN} (h : NAt w H x) (t : ByteArray) : NAt (w.setCell ⟨H, 2, none⟩ (.string t)) H ⟨x.kind, x.dig, t⟩ := by
  unfold NAt at h ⊢; simp [World.setCell, Array.getElem?_modify, h]
theorem ScanAt.setFar {w : World} {b0 B : Nat} {s : ByteArray} {a e q : Int} {V : Value} {ns : List PN} (h : ScanAt w b0 B s a e q V ns) (H j : Nat) (u : Value) (hB : H ≠ B) (hr : V.ownBlock ≠ some H) : ScanAt (w.setCell ⟨H, j, none⟩ u) b0 B s a e q V ns :=
  ⟨h.1, by rw [Below.heap_setCell _ _ _ _ (show B ≠ H from fun e => hB e.symm)]; exact h.2.1, ownsRow_setCell_other h.2.2 hr _⟩
theorem ScanAt.row_lt {w : World} {b0 B : Nat} {s : ByteArray} {a e q : Int} {V : Value} {ns : List PN} (h : ScanAt w b0 B s a e q V ns) : ∀ g, V.ownBlock = some g → g < w.heap.size ∧ b0 ≤ g := by
  intro g hg
  rcases h.2.2.2 with ⟨rfl, _⟩ | ⟨g', cap, cur, rfl, hb, hgg, _⟩
  · simp [Value.ownBlock] at hg
  · simp [Value.ownBlock] at hg
    subst hg
    exact ⟨lt_of_heap hgg, hb⟩

/-- A store into a block that is neither. -/
theorem Frame2.put {w w' : World} {B H j : Nat} {u : Value} (h : Frame2 w w' B none) : Frame2 w (w'.setCell ⟨H, j, none⟩ u) B (some H) :=
  ⟨h.os, h.tape, h.output, by simpa [World.setCell] using h.size, fun k hk hB hr => by rw [Below.heap_setCell _ _ _ _ (show k ≠ H from fun e => hr (by rw [e]))]; exact h.block k hk hB (by simp)⟩
/-- The cells of one of its nodes. -/
theorem ScanAt.at {w : World} {b0 B : Nat} {s : ByteArray} {a e q : Int} {V : Value} {ns : List PN} (h : ScanAt w b0 B s a e q V ns) (g n cap : Nat) (hV : V = .slice (some ⟨g, 0, none⟩) n cap) (i : Nat) (hi : i < ns.length) :
    (∃ u, w.cell? ⟨g, i * 3, none⟩ = some u) ∧ (∃ u, w.cell? ⟨g, i * 3 + 1, none⟩ = some u) ∧ (∃ u, w.cell? ⟨g, i * 3 + 2, none⟩ = some u) ∧ (∀ j, w.frozen? ⟨g, j, none⟩ = false) := by
  subst hV
  rcases h.2.2.2 with ⟨hx, _⟩ | ⟨g', cap', cur, hx, _, hgg, hle, _, hsz, _⟩
  · cases hx
  · simp only [Value.slice.injEq, Option.some.injEq, Addr.mk.injEq] at hx
    obtain ⟨⟨rfl, _, _⟩, _, rfl⟩ := hx
    rw [cell_of_row _ _ _ _ _ _ hgg, cell_of_row _ _ _ _ _ _ hgg, cell_of_row _ _ _ _ _ _ hgg]
    have hc : ∀ j, j < cur.size → ∃ u, cur[j]? = some u := fun j hj => ⟨_, Array.getElem?_eq_getElem hj⟩
    have h3 : i * 3 + 2 < cur.size := by rw [hsz]; omega
    exact ⟨hc _ (by omega), hc _ (by omega), hc _ h3, fun j => by unfold World.frozen?; rw [hgg]; simp⟩

theorem cellsN_cons (x : PN) (ns : List PN) : cellsN (x :: ns) = .int .i64 x.kind :: .int .i64 x.dig :: .string x.ev :: cellsN ns := by
  unfold cellsN; rw [List.map_cons, List.flatten_cons]; rfl
theorem cellsN_set (ns : List PN) (i : Nat) (x : PN) (hi : i < ns.length) : cellsN (ns.set i x) = (((cellsN ns).set (i * 3) (.int .i64 x.kind)).set (i * 3 + 1) (.int .i64 x.dig)).set (i * 3 + 2) (.string x.ev) := by
  induction ns generalizing i with
  | nil => simp at hi
  | cons y ns ih =>
    cases i with
    | zero => rw [List.set_cons_zero, cellsN_cons, cellsN_cons]; rfl
    | succ i =>
      rw [List.set_cons_succ, cellsN_cons, cellsN_cons, ih i (by simpa using hi)]
      rw [show (i + 1) * 3 = i * 3 + 1 + 1 + 1 by omega]
      simp only [List.set_cons_succ]
/-- A node is written over. -/
theorem scan_put {w : World} {b0 B g n cap : Nat} {s : ByteArray} {a e q : Int} {ns : List PN} (h : ScanAt w b0 B s a e q (.slice (some ⟨g, 0, none⟩) n cap) ns) (x : PN) (i : Nat) (hi : i < ns.length) :
    ScanAt (((w.setCell ⟨g, i * 3, none⟩ (.int .i64 x.kind)).setCell ⟨g, i * 3 + 1, none⟩ (.int .i64 x.dig)).setCell ⟨g, i * 3 + 2, none⟩ (.string x.ev)).drew b0 B s a e q (.slice (some ⟨g, 0, none⟩) n cap) (ns.set i x) ∧
    Frame2 w (((w.setCell ⟨g, i * 3, none⟩ (.int .i64 x.kind)).setCell ⟨g, i * 3 + 1, none⟩ (.int .i64 x.dig)).setCell ⟨g, i * 3 + 2, none⟩ (.string x.ev)).drew B (some g) := by
  have hne := h.row_ne
  have hgB : B ≠ g := fun e => hne (by rw [e]; rfl)
  have hot : ∀ k, k ≠ g → (((w.setCell ⟨g, i * 3, none⟩ (.int .i64 x.kind)).setCell ⟨g, i * 3 + 1, none⟩ (.int .i64 x.dig)).setCell ⟨g, i * 3 + 2, none⟩ (.string x.ev)).drew.heap[k]? = w.heap[k]? := fun k hk => by
    show (((w.setCell ⟨g, i * 3, none⟩ (.int .i64 x.kind)).setCell ⟨g, i * 3 + 1, none⟩ (.int .i64 x.dig)).setCell ⟨g, i * 3 + 2, none⟩ (.string x.ev)).heap[k]? = w.heap[k]?
    rw [Below.heap_setCell _ _ _ _ hk, Below.heap_setCell _ _ _ _ hk, Below.heap_setCell _ _ _ _ hk]
  refine ⟨⟨h.1, by rw [hot B hgB]; exact h.2.1, ?_⟩, ⟨rfl, rfl, rfl, by simp [World.setCell], fun k _ _ hr => hot k (fun e => hr (by rw [e]))⟩⟩
  obtain ⟨h1, h2⟩ := h.2.2
  refine ⟨by rw [cellsN_length, List.length_set], ?_⟩
  rcases h2 with ⟨hx, _⟩ | ⟨g', cap', cur, hx, hb, hgg, hle, hmax, hsz, htake⟩
  · cases hx
  · simp only [Value.slice.injEq, Option.some.injEq, Addr.mk.injEq] at hx
    obtain ⟨⟨rfl, _, _⟩, rfl, rfl⟩ := hx
    refine .inr ⟨g, cap, ((cur.setIfInBounds (i * 3) (.int .i64 x.kind)).setIfInBounds (i * 3 + 1) (.int .i64 x.dig)).setIfInBounds (i * 3 + 2) (.string x.ev), ?_, hb, ?_, ?_, hmax, by simpa using hsz, ?_⟩
    · rw [List.length_set]
    · show (((w.setCell ⟨g, i * 3, none⟩ (.int .i64 x.kind)).setCell ⟨g, i * 3 + 1, none⟩ (.int .i64 x.dig)).setCell ⟨g, i * 3 + 2, none⟩ (.string x.ev)).heap[g]? = _
      simp [World.setCell, Array.getElem?_modify, hgg]
    · rw [List.length_set]; exact hle
    · rw [cellsN_set ns i x hi, ← htake, List.length_set]
      simp only [Array.toList_setIfInBounds, List.take_set]

theorem set_last (ns : List PN) (x y : PN) : (ns ++ [x]).set ns.length y = ns ++ [y] := by simp
/-- The frames of a node's walk, one behind the other. -/
theorem Frame2.close {w w3 w5 w7 w8 : World} {B H g n cap : Nat} {V : Value} (hF3 : Frame2 w w3 B none) (hK5 : Kept w3 w5 B V (.slice (some ⟨g, 0, none⟩) n cap)) (hF7 : Frame2 w5 w7 B (some H)) (hF8 : Frame2 w7 w8 B (some g)) (hH : w.heap.size ≤ H) : Kept w w8 B V (.slice (some ⟨g, 0, none⟩) n cap) := by
  obtain ⟨hF5, hat⟩ := hK5
  have hr : V.ownBlock = some g ∨ w3.heap.size ≤ g := by
    rcases hat with e | ⟨g', e, hg'⟩
    · left; rw [← e]; rfl
    · right; simp [Value.ownBlock] at e; omega
  refine ⟨⟨hF8.os.trans (hF7.os.trans (hF5.os.trans hF3.os)), hF8.tape.trans (hF7.tape.trans (hF5.tape.trans hF3.tape)), hF8.output.trans (hF7.output.trans (hF5.output.trans hF3.output)), ?_, fun k hk hkB hkr => ?_⟩, ?_⟩
  · exact Nat.le_trans hF3.size (Nat.le_trans hF5.size (Nat.le_trans hF7.size hF8.size))
  · have s3 := hF3.size
    have s5 := hF5.size
    have s7 := hF7.size
    rw [hF8.block k (by omega) hkB (fun e => ?_), hF7.block k (by omega) hkB (fun e => by cases e; omega), hF5.block k (by omega) hkB hkr, hF3.block k hk hkB (by simp)]
    cases e
    rcases hr with hr | hr
    · exact hkr hr.symm
    · omega
  · rcases hat with e | ⟨g', e, hg'⟩
    · exact .inl e
    · exact .inr ⟨g', e, Nat.le_trans hF3.size hg'⟩

/-- What is left behind an append. -/
theorem scan_appended {w3 w4 : World} {b0 B g cap2 : Nat} {s : ByteArray} {a e q : Int} {V : Value} {ns : List PN} {x : PN} {X : Obj} (h : ScanAt w3 b0 B s a e q V ns)
    (hown : w4.ownsRow b0 100 3 (.slice (some ⟨g, 0, none⟩) (ns.length + 1) cap2) (ns.length + 1) (cellsN ns ++ cellsN [x])) (hgrow : (w3.drew.alloc X).grownBy w4 V.ownBlock) (hat : V.ownBlock = some g ∨ g = (w3.drew.alloc X).heap.size) :
    ScanAt (w4.setCell ⟨B, 4, none⟩ (.slice (some ⟨g, 0, none⟩) (ns.length + 1) cap2)) b0 B s a e q (.slice (some ⟨g, 0, none⟩) (ns.length + 1) cap2) (ns ++ [x]) ∧ Kept w3 (w4.setCell ⟨B, 4, none⟩ (.slice (some ⟨g, 0, none⟩) (ns.length + 1) cap2)) B V (.slice (some ⟨g, 0, none⟩) (ns.length + 1) cap2) := by
  have hne := h.row_ne
  have hBlt := lt_of_heap h.2.1
  have hgB : g ≠ B := by
    rcases hat with hat | hat
    · intro e; rw [hat, e] at hne; exact hne rfl
    · rw [hat]; simp; omega
  have hB2 : w4.heap[B]? = some (.cells #[.string s, .int .i64 a, .int .i64 e, .int .i64 q, V] 96 (0, 0)) := by
    rw [hgrow.block B (by simp; omega) (fun e => hne e.symm), Below.heap_alloc _ _ _ (by simp; omega)]
    exact h.2.1
  have hother : ∀ k, k ≠ B → (w4.setCell ⟨B, 4, none⟩ (.slice (some ⟨g, 0, none⟩) (ns.length + 1) cap2)).heap[k]? = w4.heap[k]? := fun k hk => Below.heap_setCell _ _ _ _ hk
  refine ⟨⟨h.1, ?_, ?_⟩, ⟨?_, ?_, ?_, ?_, fun k hk hkB hkr => ?_⟩, ?_⟩
  · simp [World.setCell, Array.getElem?_modify, hB2]
  · rw [List.length_append, cellsN_append]
    exact ownsRow_setCell_other hown (by simpa [Value.ownBlock] using hgB) _
  · exact hgrow.os
  · exact hgrow.tape
  · exact hgrow.output
  · have := hgrow.size
    simp at this
    simp [World.setCell]
    omega
  · rw [hother k hkB, hgrow.block k (by simp; omega) hkr, Below.heap_alloc _ _ _ (by simpa using hk)]
    rfl
  · rcases hat with h | h
    · left; rw [h]; rfl
    · right; refine ⟨g, rfl, ?_⟩; rw [h]; simp

set_option maxRecDepth 100000 in
set_option maxHeartbeats 1000000 in
theorem node_stub (w : World) (b0 B : Nat) (s : ByteArray) (a : Nat) (q : Int) (V : Value) (ns : List PN) (k M N R : Int) (T : Value) (p d : Nat) (h : ScanAt w b0 B s a 0 q V ns) (ha : a < s.size) (hk : (s[a].toNat : Int) = 0) (hk2 : kindOf k M N p d = 0) (hs : s.size ≤ 4000) (hd : d ≤ 16) (hp : p ≤ 1000000) (hn : ns.length ≤ 100000) (hb0 : b0 ≤ w.heap.size) :
    Calls Try.prog 59 #[.pointer (some ⟨B, 0, none⟩), .agg #[.int .i64 k, .int .i64 M, .int .i64 N, .int .i64 R, T], .int .i64 p, .int .i64 d] w fun r w' => r = .returned (.tuple #[]) ∧
      ∃ V', ScanAt w' b0 B s (nuA s (a + 1) 0) (nuE s (a + 1) 0) (nuQ s (a + 1) 0 q) V' (ns ++ [⟨0, nuR s (a + 1) 0, ByteArray.empty⟩]) ∧ Kept w w' B V V' := by
  obtain ⟨i0, hi, hz0, hz1, hz2⟩ := info_parts Try.infoNode
  obtain ⟨c0, c1, c2, c3, c4⟩ := h.cell
  have hB := lt_of_heap h.2.1
  have hA : Below w.heap.size w (w.alloc (.cells #[.int .i64 k, .int .i64 M, .int .i64 N, .int .i64 R, T] 42)) := (Below.refl _ _).alloc (Nat.le_refl _) _
  go_enter Try.func59, Try.ntmps59
  go_wp2_with fail
  refine (next_ok _ _ _ _ _ _ _ _ (h.below hA) ha hs).mono ?_
  rintro r w1 ⟨rfl, h1, hF1⟩
  obtain ⟨m0, m1, m2, m3, m4⟩ := msg_frame (msg_new w k M N R T) hF1 (by omega) (by simp)
  have hF := (Frame2.of_below B none hA).trans hF1
  clear hA hF1
  obtain ⟨d0, d1, d2, d3, d4⟩ := h1.cell
  rw [hk]
  go_wp2_with fail
  refine (kind_any k M N R T p d w1 hd hp).mono ?_
  rintro r w2 ⟨rfl, hb2⟩
  rw [hk2]
  have h2 := h1.below hb2
  obtain ⟨f0, f1, f2, f3, f4⟩ := h2.cell
  obtain ⟨ao, cap, rfl, _⟩ := id (NodesAt.of_owns h2.2.2)
  have hB2 := lt_of_heap h2.2.1
  go_wp2
  have h3 := h2.below ((Below.refl _ _).alloc (Nat.le_refl _) (.cells #[.int .i64 0, .int .i64 0, .string ⟨#[]⟩] 100))
  have hN3 : NAt (w2.alloc (.cells #[.int .i64 0, .int .i64 0, .string ⟨#[]⟩] 100)) w2.heap.size ⟨0, 0, ⟨#[]⟩⟩ := heap_alloc_new _ _
  have hF3 := (hF.then hb2).then ((Below.refl _ _).alloc (Nat.le_refl _) (.cells #[.int .i64 0, .int .i64 0, .string ⟨#[]⟩] 100))
  have hVH : (Value.slice ao ns.length cap).ownBlock ≠ some w2.heap.size := fun x => by have := (h2.row_lt _ x).1; omega
  have hHw : w.heap.size ≤ w2.heap.size := (hF.then hb2).size
  generalize (w2.alloc (.cells #[.int .i64 0, .int .i64 0, .string ⟨#[]⟩] 100)) = w3 at *
  generalize w2.heap.size = H at *
  have hH3 := lt_of_heap hN3
  have c3' := h3.cell
  obtain ⟨g0, g1, g2, g3, g4⟩ := c3'
  obtain ⟨n0, n1, n2⟩ := hN3.cell
  have hne := h3.row_ne
  have hB3 := lt_of_heap h3.2.1
  clear c0 c1 c2 c3 c4 m0 m1 m2 m3 m4 d0 d1 d2 d3 d4 f0 f1 f2 f3 f4 hF hb2 h1 h2
  go_region_law (first
    | (refine step_append_lies _ rfl (.tmp 53) (.tmp 55) 40 rfl b0 100 i0 (.agg #[.int .i64 0, .int .i64 0, .string ByteArray.empty]) 3 32 Try.underlying40 hi hz0 hz1 hz2 rfl (by decide) (.slice ao ns.length cap) ns.length (cellsN ns) (by simp [Act.eval]) (h3.below ((Below.refl _ _).drew) |>.2.2.alloc _) ⟨w3.heap.size, 0, none⟩ 1 1 (cellsN [⟨0, 0, ⟨#[]⟩⟩]) (by simp [Act.eval]) rfl (World.news_of_block (heap_alloc_new w3.drew _)) (cellsN_one _) (by decide) (by unfold maxLen; omega) (by omega) (by simp; omega) _ rfl ?_; intro gg cap2 w4 hown4 hgrow4 hat4 hlt4; have c4 : w4.cell? ⟨B, 4, none⟩ = some (.slice ao ns.length cap) := (hgrow4.cell_far ⟨B, 4, none⟩ (by simp; omega) (fun e => hne e.symm)).trans (cell_keep g4 ((Below.refl _ _).drew.alloc (Nat.le_refl _) _)); have z4 : w4.frozen? ⟨B, 4, none⟩ = false := (hgrow4.frozen_far ⟨B, 4, none⟩ (by simp; omega) (fun e => hne e.symm)).trans (frozen_keep g4 (h3.frozen 4) ((Below.refl _ _).drew.alloc (Nat.le_refl _) _))))
  all_goals
    obtain ⟨h5, hK5⟩ := scan_appended (x := ⟨0, 0, ⟨#[]⟩⟩) h3 hown4 hgrow4 hat4
    have hN5 : NAt (w4.setCell ⟨B, 4, none⟩ (.slice (some ⟨gg, 0, none⟩) (ns.length + 1) cap2)) H ⟨0, 0, ⟨#[]⟩⟩ := hN3.frame hK5.1 (by omega) (fun e => hVH e.symm)
    have hVH5 : (Value.slice (some ⟨gg, 0, none⟩) (ns.length + 1) cap2).ownBlock ≠ some H := by
      rcases hK5.2 with e | ⟨g', e, hg'⟩
      · rw [e]; exact hVH
      · rw [e]; intro x; cases x; omega
    have hlt5 : H < (w4.setCell ⟨B, 4, none⟩ (.slice (some ⟨gg, 0, none⟩) (ns.length + 1) cap2)).heap.size := lt_of_heap hN5
    clear hown4 hgrow4 hat4 c4 z4 g0 g1 g2 g3 g4 n0 n1 n2 hne hlt4
    generalize w4.setCell ⟨B, 4, none⟩ (.slice (some ⟨gg, 0, none⟩) (ns.length + 1) cap2) = w5 at *
    have hB5 := lt_of_heap h5.2.1
    obtain ⟨c0, c1, c2, c3, c4⟩ := h5.cell
    obtain ⟨n0, n1, n2⟩ := hN5.cell
  all_goals
    go_wp2_with (go_at_call 58; refine (number_any _ _ _ _ _ _ _ _ _ h5 hs).mono ?_; rintro r w6 ⟨rfl, h6, hF6⟩; have hN6 : NAt w6 H ⟨0, 0, ⟨#[]⟩⟩ := hN5.frame hF6 (by omega) (by simp); have z6 := hN6.frozen 1; obtain ⟨e0, e1, e2⟩ := hN6.cell; have hH6 := lt_of_heap hN6)
  all_goals
    have h7 := h6.setFar H 1 (.int .i64 (nuR s (a + 1) 0)) (by omega) hVH5
    have hN7 := hN6.set1 (nuR s (a + 1) 0)
    have hF7 : Frame2 w5 (w6.setCell ⟨H, 1, none⟩ (.int .i64 (nuR s (a + 1) 0))) B (some H) := hF6.put
    clear h6 hN6 hF6 z6 e0 e1 e2 hH6 c0 c1 c2 c3 c4 n0 n1 n2
    generalize w6.setCell ⟨H, 1, none⟩ (.int .i64 (nuR s (a + 1) 0)) = w7 at *
    obtain ⟨c0, c1, c2, c3, c4⟩ := h7.cell
    obtain ⟨n0, n1, n2⟩ := hN7.cell
    obtain ⟨⟨u0, p0⟩, ⟨u1, p1⟩, ⟨u2, p2⟩, pz⟩ := h7.at gg (ns.length + 1) cap2 rfl ns.length (by simp)
    have z0 := pz (ns.length * 3)
    have z1 := pz (ns.length * 3 + 1)
    have z2 := pz (ns.length * 3 + 2)
  all_goals go_region
  all_goals
    obtain ⟨h8, hF8⟩ := scan_put h7 ⟨0, nuR s (a + 1) 0, ⟨#[]⟩⟩ ns.length (by simp)
    rw [set_last] at h8
  all_goals go_returns
  all_goals exact ⟨rfl, _, h8, hF3.close hK5 hF7 hF8 hHw⟩
end Go.Proofs.Ytlndinigbppafaa

/-
  The document's tree of a proof: the walk of steleref.Tree.
-/
namespace Go.Proofs.Ytlndinigbppafaa
open Go.RowKit

/-- A tree's result: a row of its own. -/
def TreeR (w : World) (ns : List PN) (e : Ending) (w' : World) : Prop := ∃ v', e = .returned v' ∧ w'.ownsRow w.heap.size 100 3 v' ns.length (cellsN ns) ∧ Below w.heap.size w w'

/-- One node, in a row of its own. -/
theorem owns_fresh (w : World) (b0 : Nat) (x : PN) (h : b0 ≤ w.heap.size) : (w.alloc (.cells #[.int .i64 x.kind, .int .i64 x.dig, .string x.ev] 100)).ownsRow b0 100 3 (.slice (some ⟨w.heap.size, 0, none⟩) 1 1) 1 (cellsN [x]) :=
  ⟨rfl, .inr ⟨w.heap.size, 1, _, rfl, h, heap_alloc_new w _, Nat.le_refl _, by decide, rfl, rfl⟩⟩

set_option maxRecDepth 100000 in
set_option maxHeartbeats 2000000 in
theorem tree_stub (evs : List ByteArray) (n d p : Nat) (P D : Int) (k M R : Int) (T V : Value) (w : World) (eP : P = p) (eD : D = d) (hd : d ≤ 16) (hp : p < n) (hn : n ≤ evs.length) (hl : evs.length ≤ 65535) (hs : ∀ s ∈ evs, s.size ≤ 255) (hV : StringsAt w V evs) (hk : kindOf k M n p d = 0) :
    Calls Try.prog 51 #[V, .agg #[.int .i64 k, .int .i64 M, .int .i64 n, .int .i64 R, T], .int .i64 P, .int .i64 D] w fun e w' => TreeR w [⟨0, dig (evs.take n) d p, ByteArray.empty⟩] e w' := by
  have hV1 := hV
  obtain ⟨ao, cap, rfl, _⟩ := hV1
  subst eP eD
  have HDN : Hid _ := digest_ref evs n hn hl hs (.slice ao evs.length cap) n rfl d hd p p d
  go_enter Try.func51, Try.ntmps51
  go_wp2_with fail
  have c0 : (w.alloc (.cells #[.int .i64 k, .int .i64 M, .int .i64 n, .int .i64 R, T] 42)).cell? ⟨w.heap.size, 2, none⟩ = some (.int .i64 n) := by simp
  have hW : Below w.heap.size w (w.alloc (.cells #[.int .i64 k, .int .i64 M, .int .i64 n, .int .i64 R, T] 42)) := (Below.refl _ _).alloc (Nat.le_refl _) _
  have hWs : (w.alloc (.cells #[.int .i64 k, .int .i64 M, .int .i64 n, .int .i64 R, T] 42)).heap.size = w.heap.size + 1 := by simp
  generalize w.alloc (.cells #[.int .i64 k, .int .i64 M, .int .i64 n, .int .i64 R, T] 42) = W at c0 hW hWs ⊢
  refine (kind_any k M n R T p d _ hd (by omega)).mono ?_
  rintro e w1 ⟨rfl, hb1⟩
  rw [hk]
  have c1 := cell_keep c0 hb1
  have hV1 := (hV.below hW).below hb1
  have hW1 := hW.trans (hb1.mono hW.size)
  have hs1 : w.heap.size + 1 ≤ w1.heap.size := by have := hb1.size; omega
  have hne : ¬ (w.heap.size = w1.heap.size) := by omega
  have hne' : ¬ (w1.heap.size = w.heap.size) := by omega
  have hX : Below w1.heap.size w1 (w1.alloc (.cells #[.int .i64 0, .int .i64 0, .string ⟨#[]⟩] 100)) := (Below.refl _ _).alloc (Nat.le_refl _) _
  have cX := cell_keep c1 hX
  clear hb1 hW c0 hV
  go_wp2_with fail
  have hV2 := hV1.below hX
  have hN0 : (w1.alloc (.cells #[.int .i64 0, .int .i64 0, .string ⟨#[]⟩] 100)).heap[w1.heap.size]? = some (.cells #[.int .i64 0, .int .i64 0, .string ⟨#[]⟩] 100) := heap_alloc_new w1 _
  have hW2 := hW1.trans (hX.mono hW1.size)
  generalize w1.alloc (.cells #[.int .i64 0, .int .i64 0, .string ⟨#[]⟩] 100) = w2 at hV2 hN0 hW2 ⊢
  refine (HDN.out w2 trivial trivial hp hV2).mono ?_
  rintro e w3 ⟨rfl, hb3⟩
  have hN : w3.heap[w1.heap.size]? = some (.cells #[.int .i64 0, .int .i64 0, .string ⟨#[]⟩] 100) := by rw [hb3.block _ (lt_of_heap hN0)]; exact hN0
  have n0 : w3.cell? ⟨w1.heap.size, 0, none⟩ = some (.int .i64 0) := by rw [cell_of_row _ _ _ _ _ _ hN]; rfl
  have n1 : w3.cell? ⟨w1.heap.size, 1, none⟩ = some (.int .i64 0) := by rw [cell_of_row _ _ _ _ _ _ hN]; rfl
  have n2 : w3.cell? ⟨w1.heap.size, 2, none⟩ = some (.string ⟨#[]⟩) := by rw [cell_of_row _ _ _ _ _ _ hN]; rfl
  have nz : w3.frozen? ⟨w1.heap.size, 1, none⟩ = false := by unfold World.frozen?; rw [hN]; rfl
  have hW3 := hW2.trans (hb3.mono hW2.size)
  clear HDN hb3 hV2 hN0 hW2 hX cX
  go_wp2
  go_ret
  have hs3 : w.heap.size ≤ w3.heap.size := hW3.size
  have hB : Below w.heap.size w (w3.setCell ⟨w1.heap.size, 1, none⟩ (.int .i64 (dig (evs.take n) d p))) := hW3.setCell (show w.heap.size ≤ w1.heap.size by omega) _
  have hz : (w3.setCell ⟨w1.heap.size, 1, none⟩ (.int .i64 (dig (evs.take n) d p))).heap.size = w3.heap.size := by simp [World.setCell]
  have hO := owns_fresh (w3.setCell ⟨w1.heap.size, 1, none⟩ (.int .i64 (dig (evs.take n) d p))) w.heap.size ⟨0, dig (evs.take n) d p, ⟨#[]⟩⟩ (by rw [hz]; exact hs3)
  rw [hz] at hO
  exact ⟨_, rfl, hO, hB.alloc (by rw [hz]; exact hs3) _⟩

set_option maxRecDepth 100000 in
set_option maxHeartbeats 2000000 in
theorem tree_leaf (evs : List ByteArray) (n p : Nat) (P : Int) (k M R : Int) (T V : Value) (w : World) (eP : P = p) (hp : p < n) (hn : n ≤ evs.length) (hl : evs.length ≤ 65535) (hV : StringsAt w V evs) (hk : kindOf k M n p 0 = 1) :
    Calls Try.prog 51 #[V, .agg #[.int .i64 k, .int .i64 M, .int .i64 n, .int .i64 R, T], .int .i64 P, .int .i64 0] w fun e w' => TreeR w [⟨1, 0, evs[p]'(by omega)⟩] e w' := by
  have hV1 := hV
  obtain ⟨ao, cap, rfl, hc⟩ := hV1
  obtain ⟨b, o, rfl, hb, _⟩ := hc (by omega)
  subst eP
  have hpi : (p : Int) < (evs.length : Int) := by omega
  have KA := kind_any k M n R T p 0
  clear hc
  go_enter Try.func51, Try.ntmps51
  go_wp2_with fail
  have hW : Below w.heap.size w (w.alloc (.cells #[.int .i64 k, .int .i64 M, .int .i64 n, .int .i64 R, T] 42)) := (Below.refl _ _).alloc (Nat.le_refl _) _
  have hWs : (w.alloc (.cells #[.int .i64 k, .int .i64 M, .int .i64 n, .int .i64 R, T] 42)).heap.size = w.heap.size + 1 := by simp
  generalize w.alloc (.cells #[.int .i64 k, .int .i64 M, .int .i64 n, .int .i64 R, T] 42) = W at hW hWs ⊢
  refine (kind_any k M n R T p 0 _ (by omega) (by omega)).mono ?_
  rintro e w1 ⟨rfl, hb1⟩
  rw [hk]
  have hV1 := (hV.below hW).below hb1
  have hW1 := hW.trans (hb1.mono hW.size)
  have hs1 : w.heap.size + 1 ≤ w1.heap.size := by have := hb1.size; omega
  have hX : Below w1.heap.size w1 (w1.alloc (.cells #[.int .i64 1, .int .i64 0, .string ⟨#[]⟩] 100)) := (Below.refl _ _).alloc (Nat.le_refl _) _
  have hVX := hV1.below hX
  have cX : (w1.alloc (.cells #[.int .i64 1, .int .i64 0, .string ⟨#[]⟩] 100)).cell? ⟨b, o + p, none⟩ = some (.string (evs[p]'(by omega))) := by
    obtain ⟨ao, cp, e, hc⟩ := hVX
    simp only [Value.slice.injEq] at e
    obtain ⟨rfl, -, rfl⟩ := e
    obtain ⟨b', o', e, _, hc⟩ := hc (by omega)
    cases e
    exact hc p (by omega)
  clear hb1 hW hV KA hV1 hVX
  go_wp2
  go_ret
  have hs3 : w.heap.size ≤ w1.heap.size := hW1.size
  have hB := hW1.alloc hs3 (.cells #[.int .i64 1, .int .i64 0, .string (evs[p]'(by omega))] 100)
  have hz : (w1.alloc (.cells #[.int .i64 1, .int .i64 0, .string (evs[p]'(by omega))] 100)).heap.size = w1.heap.size + 1 := by simp
  have hO := owns_fresh (w1.alloc (.cells #[.int .i64 1, .int .i64 0, .string (evs[p]'(by omega))] 100)) w.heap.size ⟨1, 0, evs[p]'(by omega)⟩ (by rw [hz]; omega)
  rw [hz] at hO
  exact ⟨_, rfl, hO, hB.alloc (by rw [hz]; omega) _⟩
end Go.Proofs.Ytlndinigbppafaa

/-
  The document's tree of a proof: the walk of steleref.Tree, on: a node with nodes below it.
-/
namespace Go.Proofs.Ytlndinigbppafaa
open Go.RowKit

theorem owns_cells3 {w : World} {base g cp : Nat} {ns : List PN} (h : w.ownsRow base 100 3 (.slice (some ⟨g, 0, none⟩) ns.length cp) ns.length (cellsN ns)) : ∀ j u, (cellsN ns)[j]? = some u → w.cell? ((⟨g, 0, none⟩ : Addr).add j) = some u := by
  intro j u hj
  obtain ⟨_, h2⟩ := h
  rcases h2 with ⟨h, _⟩ | ⟨g', cap, cur, e, _, hg, _, _, _, ht⟩
  · cases h
  · simp only [Value.slice.injEq, Option.some.injEq, Addr.mk.injEq] at e
    obtain ⟨⟨rfl, -, -⟩, -, rfl⟩ := e
    rw [show (⟨g, 0, none⟩ : Addr).add j = ⟨g, j, none⟩ by unfold Addr.add; split <;> simp_all, cell_of_row _ _ _ _ _ _ hg]
    rw [← ht, List.getElem?_take] at hj
    split at hj
    · simpa using hj
    · cases hj

/-- The message's box. -/
def MsgBox (w : World) (b : Nat) (k M n R : Int) (T : Value) : Prop := w.cell? ⟨b, 0, none⟩ = some (.int .i64 k) ∧ w.cell? ⟨b, 1, none⟩ = some (.int .i64 M) ∧ w.cell? ⟨b, 2, none⟩ = some (.int .i64 n) ∧ w.cell? ⟨b, 3, none⟩ = some (.int .i64 R) ∧ w.cell? ⟨b, 4, none⟩ = some T
theorem MsgBox.below {w w' : World} {b : Nat} {k M n R : Int} {T : Value} (h : MsgBox w b k M n R T) (hb : Below w.heap.size w w') : MsgBox w' b k M n R T := ⟨cell_keep h.1 hb, cell_keep h.2.1 hb, cell_keep h.2.2.1 hb, cell_keep h.2.2.2.1 hb, cell_keep h.2.2.2.2 hb⟩

theorem MsgBox.grown {w w' : World} {b : Nat} {k M n R : Int} {T : Value} {row : Option Nat} (h : MsgBox w b k M n R T) (hg : w.grownBy w' row) (hb : b < w.heap.size) (hne : some b ≠ row) : MsgBox w' b k M n R T := by
  have e := hg.block b hb hne
  have K : ∀ j u, w.cell? ⟨b, j, none⟩ = some u → w'.cell? ⟨b, j, none⟩ = some u := fun j u q => (World.cell?_of_block (w := w) e).trans q
  exact ⟨K _ _ h.1, K _ _ h.2.1, K _ _ h.2.2.1, K _ _ h.2.2.2.1, K _ _ h.2.2.2.2⟩

set_option maxRecDepth 100000 in
set_option maxHeartbeats 2000000 in
theorem tree_alone (evs : List ByteArray) (n d p : Nat) (P D : Int) (k M R : Int) (T V : Value) (A : List PN) (w : World) (eP : P = p) (eD : D = (d : Int) + 1) (hd : d + 1 ≤ 16) (hp : p < n) (hn : n ≤ evs.length) (hl : evs.length ≤ 65535) (hV : StringsAt w V evs) (hA1 : 1 ≤ A.length) (hA2 : A.length ≤ 200000)
    (hk : kindOf k M n p (d + 1) = 3)
    (ih : Hid (∀ (w : World) (D : Int), D = d → StringsAt w V evs → Calls Try.prog 51 #[V, .agg #[.int .i64 k, .int .i64 M, .int .i64 n, .int .i64 R, T], .int .i64 p, .int .i64 D] w fun e w' => TreeR w A e w')) :
    Calls Try.prog 51 #[V, .agg #[.int .i64 k, .int .i64 M, .int .i64 n, .int .i64 R, T], .int .i64 P, .int .i64 D] w fun e w' => TreeR w (⟨3, 0, ByteArray.empty⟩ :: A) e w' := by
  have hV1 := hV
  obtain ⟨ao, cap, rfl, _⟩ := hV1
  obtain ⟨i0, hi, hz0, hz1, hz2⟩ := info_parts Try.infoNode
  subst eP eD
  go_enter Try.func51, Try.ntmps51
  go_wp2_with fail
  have hM0 : MsgBox (w.alloc (.cells #[.int .i64 k, .int .i64 M, .int .i64 n, .int .i64 R, T] 42)) w.heap.size k M n R T := by refine ⟨?_, ?_, ?_, ?_, ?_⟩ <;> simp
  have hW : Below w.heap.size w (w.alloc (.cells #[.int .i64 k, .int .i64 M, .int .i64 n, .int .i64 R, T] 42)) := (Below.refl _ _).alloc (Nat.le_refl _) _
  have hWs : (w.alloc (.cells #[.int .i64 k, .int .i64 M, .int .i64 n, .int .i64 R, T] 42)).heap.size = w.heap.size + 1 := by simp
  generalize w.alloc (.cells #[.int .i64 k, .int .i64 M, .int .i64 n, .int .i64 R, T] 42) = W at hM0 hW hWs ⊢
  rw [show ((d : Int) + 1) = ((d + 1 : Nat) : Int) from rfl]
  refine (kind_any k M n R T p (d + 1) _ hd (by omega)).mono ?_
  rintro e w1 ⟨rfl, hb1⟩
  rw [hk]
  have hM1 := hM0.below hb1
  have hV1 := (hV.below hW).below hb1
  have hW1 := hW.trans (hb1.mono hW.size)
  have hs1 : w.heap.size + 1 ≤ w1.heap.size := by have := hb1.size; omega
  have hX : Below w1.heap.size w1 ((w1.alloc (.cells #[.int .i64 3, .int .i64 0, .string ⟨#[]⟩] 100)).alloc (.cells #[.int .i64 3, .int .i64 0, .string ⟨#[]⟩] 100)) := ((Below.refl _ _).alloc (Nat.le_refl _) _).alloc (by simp) _
  obtain ⟨m0, m1, m2, m3, m4⟩ := hM1.below hX
  have hO0 := owns_fresh (w1.alloc (.cells #[.int .i64 3, .int .i64 0, .string ⟨#[]⟩] 100)) w.heap.size ⟨3, 0, ⟨#[]⟩⟩ (by simp; omega)
  rw [show (w1.alloc (.cells #[.int .i64 3, .int .i64 0, .string ⟨#[]⟩] 100)).heap.size = w1.heap.size + 1 by simp] at hO0
  have HO : Hid _ := hO0
  clear hO0
  have HV : Hid _ := hV1.below hX
  have HW : Hid _ := hW1.trans (hX.mono hW1.size)
  clear hb1 hW hM0 hV hV1 hM1 hX
  go_wp2_with fail
  have hO0 := HO.out
  have hV0 := HV.out
  have hW0 := HW.out
  have hs0 := hW0.size
  clear HO HV HW m0 m1 m2 m3 m4
  generalize (w1.alloc (.cells #[.int .i64 3, .int .i64 0, .string ⟨#[]⟩] 100)).alloc (.cells #[.int .i64 3, .int .i64 0, .string ⟨#[]⟩] 100) = X at hO0 hV0 hW0 hs0 ⊢
  refine (ih.out X d rfl hV0).mono ?_
  rintro e w2 ⟨v', rfl, hO2, hb2⟩
  have hO1 := owns_below hO0 hb2
  have hW2 := hW0.trans (hb2.mono hs0)
  have hs2 := hW2.size
  obtain ⟨g, cp, rfl⟩ : ∃ g cp, v' = .slice (some ⟨g, 0, none⟩) A.length cp := by
    rcases hO2.2 with ⟨_, h0⟩ | ⟨g, cp, cur, rfl, _⟩
    · omega
    · exact ⟨g, cp, rfl⟩
  have hc2 := owns_cells3 hO2
  have HC : Hid _ := hc2
  have hcl := cellsN_length A
  clear hc2 hO0 hV0 hb2 ih
  go_wp2_with (at_builtin; refine wpList_append_lies _ rfl (.tmp 49) (.tmp 50) 40 rfl w.heap.size 100 i0 (.agg #[.int .i64 0, .int .i64 0, .string ByteArray.empty]) 3 32 Try.underlying40 hi hz0 hz1 hz2 rfl (by decide) _ _ _ rfl hO1 ⟨g, 0, none⟩ A.length cp (cellsN A) rfl hcl HC.out (cellsN_one A) (by omega) (by unfold maxLen; omega) (by omega) hs2 _ rfl ?_)
  intro g3 cp3 w3 hO3 hg3 hat3 _
  have hB3 : Below w.heap.size w w3 := hW2.grown hg3 hs2 (fun g hg => (hO1.lt g hg).1)
  rw [← cellsN_append] at hO3
  clear hO1 hO2 hg3 hat3 HC
  go_wp2
  go_ret
  refine ⟨_, rfl, ?_, hB3⟩
  rw [Nat.add_comm 1 A.length] at hO3
  rw [Nat.add_comm 1 A.length]
  exact hO3

set_option maxRecDepth 100000 in
set_option maxHeartbeats 2000000 in
theorem tree_two (evs : List ByteArray) (n d p : Nat) (P D : Int) (k M R : Int) (T V : Value) (A B : List PN) (w : World) (eP : P = p) (eD : D = (d : Int) + 1) (hd : d + 1 ≤ 16) (hp : p < n) (hn : n ≤ evs.length) (hl : evs.length ≤ 65535) (hV : StringsAt w V evs) (hA1 : 1 ≤ A.length) (hA2 : A.length ≤ 200000) (hB1 : 1 ≤ B.length) (hB2 : B.length ≤ 200000) (hR : p + pw d < n)
    (hk : kindOf k M n p (d + 1) = 2)
    (ih : Hid (∀ (w : World) (D : Int), D = d → StringsAt w V evs → Calls Try.prog 51 #[V, .agg #[.int .i64 k, .int .i64 M, .int .i64 n, .int .i64 R, T], .int .i64 p, .int .i64 D] w fun e w' => TreeR w A e w'))
    (ih2 : Hid (∀ (w : World) (P D : Int), P = (p + pw d : Nat) → D = d → StringsAt w V evs → Calls Try.prog 51 #[V, .agg #[.int .i64 k, .int .i64 M, .int .i64 n, .int .i64 R, T], .int .i64 P, .int .i64 D] w fun e w' => TreeR w B e w')) :
    Calls Try.prog 51 #[V, .agg #[.int .i64 k, .int .i64 M, .int .i64 n, .int .i64 R, T], .int .i64 P, .int .i64 D] w fun e w' => TreeR w (⟨2, 0, ByteArray.empty⟩ :: (A ++ B)) e w' := by
  have hV1 := hV
  obtain ⟨ao, cap, rfl, _⟩ := hV1
  have HVw : Hid _ := hV
  obtain ⟨i0, hi, hz0, hz1, hz2⟩ := info_parts Try.infoNode
  subst eP eD
  go_enter Try.func51, Try.ntmps51
  go_wp2_with fail
  have hM0 : MsgBox (w.alloc (.cells #[.int .i64 k, .int .i64 M, .int .i64 n, .int .i64 R, T] 42)) w.heap.size k M n R T := by refine ⟨?_, ?_, ?_, ?_, ?_⟩ <;> simp
  have hW : Below w.heap.size w (w.alloc (.cells #[.int .i64 k, .int .i64 M, .int .i64 n, .int .i64 R, T] 42)) := (Below.refl _ _).alloc (Nat.le_refl _) _
  have hWs : (w.alloc (.cells #[.int .i64 k, .int .i64 M, .int .i64 n, .int .i64 R, T] 42)).heap.size = w.heap.size + 1 := by simp
  generalize w.alloc (.cells #[.int .i64 k, .int .i64 M, .int .i64 n, .int .i64 R, T] 42) = W at hM0 hW hWs ⊢
  rw [show ((d : Int) + 1) = ((d + 1 : Nat) : Int) from rfl]
  refine (kind_any k M n R T p (d + 1) _ hd (by omega)).mono ?_
  rintro e w1 ⟨rfl, hb1⟩
  rw [hk]
  have hM1 := hM0.below hb1
  have hV1 := (hV.below hW).below hb1
  have hW1 := hW.trans (hb1.mono hW.size)
  have hs1 : w.heap.size + 1 ≤ w1.heap.size := by have := hb1.size; omega
  have hX : Below w1.heap.size w1 ((w1.alloc (.cells #[.int .i64 2, .int .i64 0, .string ⟨#[]⟩] 100)).alloc (.cells #[.int .i64 2, .int .i64 0, .string ⟨#[]⟩] 100)) := ((Below.refl _ _).alloc (Nat.le_refl _) _).alloc (by simp) _
  obtain ⟨m0, m1, m2, m3, m4⟩ := hM1.below hX
  have hO0 := owns_fresh (w1.alloc (.cells #[.int .i64 2, .int .i64 0, .string ⟨#[]⟩] 100)) w.heap.size ⟨2, 0, ⟨#[]⟩⟩ (by simp; omega)
  rw [show (w1.alloc (.cells #[.int .i64 2, .int .i64 0, .string ⟨#[]⟩] 100)).heap.size = w1.heap.size + 1 by simp] at hO0
  have HO : Hid _ := hO0
  clear hO0
  have HV : Hid _ := hV1.below hX
  have HW : Hid _ := hW1.trans (hX.mono hW1.size)
  clear hb1 hW hM0 hV hV1 hM1 hX
  go_wp2_with fail
  have hO0 := HO.out
  have hV0 := HV.out
  have hW0 := HW.out
  have hs0 := hW0.size
  have hWlt : w.heap.size < ((w1.alloc (.cells #[.int .i64 2, .int .i64 0, .string ⟨#[]⟩] 100)).alloc (.cells #[.int .i64 2, .int .i64 0, .string ⟨#[]⟩] 100)).heap.size := by simp; omega
  have hM0 : MsgBox ((w1.alloc (.cells #[.int .i64 2, .int .i64 0, .string ⟨#[]⟩] 100)).alloc (.cells #[.int .i64 2, .int .i64 0, .string ⟨#[]⟩] 100)) w.heap.size k M n R T := ⟨m0, m1, m2, m3, m4⟩
  clear HO HV HW m0 m1 m2 m3 m4
  generalize (w1.alloc (.cells #[.int .i64 2, .int .i64 0, .string ⟨#[]⟩] 100)).alloc (.cells #[.int .i64 2, .int .i64 0, .string ⟨#[]⟩] 100) = X at hO0 hV0 hW0 hs0 hM0 hWlt ⊢
  refine (ih.out X d rfl hV0).mono ?_
  rintro e w2 ⟨v', rfl, hO2, hb2⟩
  have hO1 := owns_below hO0 hb2
  have hM2 := hM0.below hb2
  have hX2 : w.heap.size < w2.heap.size := by have := hb2.size; have := hWlt; omega
  have hW2 := hW0.trans (hb2.mono hs0)
  have hs2 := hW2.size
  obtain ⟨g, cp, rfl⟩ : ∃ g cp, v' = .slice (some ⟨g, 0, none⟩) A.length cp := by
    rcases hO2.2 with ⟨_, h0⟩ | ⟨g, cp, cur, rfl, _⟩
    · omega
    · exact ⟨g, cp, rfl⟩
  have hc2 := owns_cells3 hO2
  have HC : Hid _ := hc2
  have hcl := cellsN_length A
  clear hc2 hO0 hV0 hb2 ih
  go_wp2_with (at_builtin; refine wpList_append_lies _ rfl (.tmp 49) (.tmp 50) 40 rfl w.heap.size 100 i0 (.agg #[.int .i64 0, .int .i64 0, .string ByteArray.empty]) 3 32 Try.underlying40 hi hz0 hz1 hz2 rfl (by decide) _ _ _ rfl hO1 ⟨g, 0, none⟩ A.length cp (cellsN A) rfl hcl HC.out (cellsN_one A) (by omega) (by unfold maxLen; omega) (by omega) hs2 _ rfl ?_)
  intro g3 cp3 w3 hO3 hg3 hat3 _
  have hB3 : Below w.heap.size w w3 := hW2.grown hg3 hs2 (fun g hg => (hO1.lt g hg).1)
  rw [← cellsN_append] at hO3
  have hM3 : MsgBox w3 w.heap.size k M n R T := hM2.grown hg3 (by have := hX2; omega) (by simp [Value.ownBlock]; omega)
  have hV3 := StringsAt.below HVw.out hB3
  have hs3 := hB3.size
  have h16 : pw d ≤ 65536 := pw_le (e := 16) (by omega)
  have hRi : ((p : Int) + (pw d : Int)) < (n : Int) := by omega
  obtain ⟨m0, m1, m2, m3, m4⟩ := hM3
  have hw1 : IntKind.i64.wrap (d : Int) = d := by go_arith
  have hw2 : IntKind.i64.wrap ((p : Int) + (pw d : Int)) = (p : Int) + (pw d : Int) := by go_arith
  have PW : ∀ w', Calls Try.prog 49 #[.int .i64 d] w' fun e w'' => e = .returned (.int .i64 (pw d)) ∧ w'' = w' := fun w' => power_any d w' (by omega)
  clear hO1 hO2 hg3 hat3 HC hM2 HVw
  go_wp2
  go_still_tail 9, (by kernel_rfl)
  still_call (PW _)
  repeat still_step
  refine wpStill_nil ?_
  generalize hwd : (World.mk w3.heap w3.tape (w3.drawn + 1) w3.os w3.output) = wd
  have hbd : Below w3.heap.size w3 wd := by rw [← hwd]; exact (Below.refl _ _).drew
  clear hwd
  go_wp2_with fail
  refine (ih2.out wd _ d (by omega) rfl (StringsAt.below hV3 hbd)).mono ?_
  rintro e w4 ⟨v4, rfl, hO4, hb4⟩
  have hO5 := owns_below (owns_below hO3 hbd) hb4
  have hB4 := (hB3.trans (hbd.mono hs3)).trans (hb4.mono (Nat.le_trans hs3 hbd.size))
  have hs4 := hB4.size
  obtain ⟨g4, cp4, rfl⟩ : ∃ g cp, v4 = .slice (some ⟨g, 0, none⟩) B.length cp := by
    rcases hO4.2 with ⟨_, h0⟩ | ⟨g, cp, cur, rfl, _⟩
    · omega
    · exact ⟨g, cp, rfl⟩
  have HC : Hid _ := owns_cells3 hO4
  have hcl4 := cellsN_length B
  clear hO3 hV3 hb4 ih2 hbd m0 m1 m2 m3 m4 PW
  go_wp2_with (at_builtin; refine wpList_append_lies _ rfl (.tmp 64) (.tmp 65) 40 rfl w.heap.size 100 i0 (.agg #[.int .i64 0, .int .i64 0, .string ByteArray.empty]) 3 32 Try.underlying40 hi hz0 hz1 hz2 rfl (by decide) _ _ _ rfl hO5 ⟨g4, 0, none⟩ B.length cp4 (cellsN B) rfl hcl4 HC.out (cellsN_one B) (by omega) (by unfold maxLen; omega) (by omega) hs4 _ rfl ?_)
  intro g6 cp6 w6 hO6 hg6 hat6 _
  have hB6 : Below w.heap.size w w6 := hB4.grown hg6 hs4 (fun g hg => (hO5.lt g hg).1)
  rw [← cellsN_append] at hO6
  clear hO5 hO4 hg6 hat6 HC
  go_wp2
  go_ret
  refine ⟨_, rfl, ?_, hB6⟩
  have e1 : (⟨2, 0, ByteArray.empty⟩ :: (A ++ B) : List PN).length = 1 + A.length + B.length := by simp; omega
  rw [e1]
  exact hO6
end Go.Proofs.Ytlndinigbppafaa

/-
  The document's tree of a proof: the walk of steleref.Tree, whole.
-/
namespace Go.Proofs.Ytlndinigbppafaa
open Go.RowKit

/-- The rule of a message's kind. -/
def ruleK (k M : Int) : Nat → Nat → Bool := if k = 2 then ruleG M else ruleM M

theorem kind_stub {k M : Int} {n p d : Nat} (h : ruleK k M p d = true) : kindOf k M n p d = 0 := by
  unfold kindOf
  rw [if_pos]
  unfold ruleK at h
  split at h
  · rename_i hk
    rw [if_pos hk]
    unfold ruleG at h
    simp only [Bool.or_eq_true, decide_eq_true_eq] at h
    omega
  · rename_i hk
    rw [if_neg hk]
    unfold ruleM at h
    simp only [Bool.or_eq_true, Bool.not_eq_true', decide_eq_false_iff_not] at h
    omega
theorem kind_more {k M : Int} {n p d : Nat} (h : ¬ ruleK k M p d = true) : kindOf k M n p d = if d = 0 then 1 else if (p : Int) + pw (d - 1) < n then 2 else 3 := by
  unfold kindOf
  rw [if_neg]
  unfold ruleK at h
  split at h
  · rename_i hk
    rw [if_pos hk]
    unfold ruleG at h
    simp only [Bool.or_eq_true, decide_eq_true_eq] at h
    omega
  · rename_i hk
    rw [if_neg hk]
    unfold ruleM at h
    simp only [Bool.or_eq_true, Bool.not_eq_true', decide_eq_false_iff_not] at h
    omega

theorem tree_ref (evs : List ByteArray) (n : Nat) (hn : n ≤ evs.length) (hl : evs.length ≤ 65535) (hs : ∀ s ∈ evs, s.size ≤ 255) (V : Value) (k M R : Int) (T : Value) (d : Nat) (hd : d ≤ 16) :
    ∀ (p : Nat) (P D : Int) (w : World), P = p → D = d → p < n → StringsAt w V evs → Calls Try.prog 51 #[V, .agg #[.int .i64 k, .int .i64 M, .int .i64 n, .int .i64 R, T], .int .i64 P, .int .i64 D] w fun e w' => TreeR w (pruneN (evs.take n) (ruleK k M) d p) e w' := by
  have hln : (evs.take n).length = n := by rw [List.length_take]; omega
  induction d with
  | zero =>
    intro p P D w eP eD hp hV
    have : D = 0 := by omega
    subst this
    unfold pruneN
    by_cases hr : ruleK k M p 0 = true
    · rw [if_pos hr]
      exact tree_stub evs n 0 p P 0 k M R T V w eP rfl hd hp hn hl hs hV (kind_stub hr)
    · rw [if_neg hr]
      have := tree_leaf evs n p P k M R T V w eP hp hn hl hV (by rw [kind_more hr, if_pos rfl])
      have e : evAt (evs.take n) p = evs[p]'(by omega) := by
        unfold evAt
        rw [List.getElem?_take, if_pos hp, List.getElem?_eq_getElem (by omega)]
        rfl
      rw [e]
      exact this
  | succ d ih =>
    intro p P D w eP eD hp hV
    have h16 : pw d ≤ 65536 := pw_le (e := 16) (by omega)
    have L := pruneN_len (evs.take n) (ruleK k M) d
    unfold pruneN
    by_cases hr : ruleK k M p (d + 1) = true
    · rw [if_pos hr]
      exact tree_stub evs n (d + 1) p P D k M R T V w eP (by omega) hd hp hn hl hs hV (kind_stub hr)
    · rw [if_neg hr, hln]
      have hk := kind_more (n := n) hr
      rw [if_neg (by omega), Nat.add_sub_cancel] at hk
      have l1 := L p
      by_cases hR : p + pw d < n
      · rw [if_pos hR]
        rw [if_pos (by omega)] at hk
        have l2 := L (p + pw d)
        exact tree_two evs n d p P D k M R T V _ _ w eP (by omega) hd hp hn hl hV (by omega) (by omega) (by omega) (by omega) hR hk (fun w D eD hV => ih (by omega) p p D w rfl eD hp hV) (fun w P D eP eD hV => ih (by omega) (p + pw d) P D w eP eD hR hV)
      · rw [if_neg hR]
        rw [if_neg (by omega)] at hk
        exact tree_alone evs n d p P D k M R T V _ w eP (by omega) hd hp hn hl hV (by omega) (by omega) hk (fun w D eD hV => ih (by omega) p p D w rfl eD hp hV)
end Go.Proofs.Ytlndinigbppafaa

/-
  The statements' own side of a log: what it is; begun, version, num.
-/
namespace Go.Proofs.Ytlndinigbppafaa
open Go.RowKit

/-- A side: its own block, its log, its list of events. -/
structure SideAt (w : World) (b0 C B : Nat) (S L : Value) (evs : List ByteArray) : Prop where
  low : b0 ≤ C
  blk : w.heap[C]? = some (.cells #[.pointer (some ⟨B, 0, none⟩), L] 67 (0, 0))
  log : LogAt w b0 B S evs
  row : w.ownsRow b0 9 1 L evs.length (strs8 evs)
  apart : ∀ g, L.ownBlock = some g → S.ownBlock ≠ some g

section
variable {w w' : World} {b0 C B : Nat} {S L : Value} {evs : List ByteArray}
theorem SideAt.below (h : SideAt w b0 C B S L evs) (hb : Below w.heap.size w w') : SideAt w' b0 C B S L evs :=
  ⟨h.low, by rw [hb.block C (lt_of_heap h.blk)]; exact h.blk, h.log.below hb, owns_below h.row hb, h.apart⟩
theorem SideAt.cells (h : SideAt w b0 C B S L evs) : w.cell? ⟨C, 0, none⟩ = some (.pointer (some ⟨B, 0, none⟩)) ∧ w.cell? ⟨C, 1, none⟩ = some L ∧ w.frozen? ⟨C, 1, none⟩ = false := by
  refine ⟨?_, ?_, ?_⟩
  · rw [cell_of_row _ _ _ _ _ _ h.blk]; rfl
  · rw [cell_of_row _ _ _ _ _ _ h.blk]; rfl
  · unfold World.frozen?; rw [h.blk]; rfl
theorem owns_strings (h : w.ownsRow b0 9 1 L evs.length (strs8 evs)) : ∃ ao cap, L = .slice ao evs.length cap ∧ StringsAt w L evs := by
  rcases h.2 with ⟨rfl, h0⟩ | ⟨g, cap, cur, rfl, _, hg, _, _, _, ht⟩
  · exact ⟨none, 0, by rw [h0], none, 0, by rw [h0], fun q => by omega⟩
  · refine ⟨_, cap, rfl, _, cap, rfl, fun _ => ⟨g, 0, rfl, lt_of_heap hg, fun j hj => ?_⟩⟩
    rw [cell_of_row _ _ _ _ _ _ hg, Nat.zero_add]
    have h1 : (strs8 evs)[j]? = some (.string evs[j]) := by simp [strs8, hj]
    rw [← ht, List.getElem?_take, if_pos (by omega)] at h1
    simpa using h1
end

set_option maxRecDepth 100000 in
set_option maxHeartbeats 400000 in
theorem num_law (x : Int) (w : World) : Calls Try.prog 32 #[.int .i64 x] w fun e w' => e = .returned (.int .i64 x) ∧ w' = w := by
  go_enter Try.func32, Try.ntmps32
  go_wp2
  go_ret
  exact ⟨rfl, rfl⟩

set_option maxRecDepth 100000 in
set_option maxHeartbeats 400000 in
theorem begun_any (w : World) :
    Calls Try.prog 12 #[] w fun e w' => e = .returned (.tuple #[.pointer (some ⟨w.heap.size + 1, 0, none⟩), .bool true]) ∧ SideAt w' w.heap.size (w.heap.size + 1) w.heap.size (.slice none 0 0) (.slice none 0 0) [] ∧ Below w.heap.size w w' := by
  go_enter Try.func12, Try.ntmps12
  go_wp2_with fail
  refine (newLog_any w).mono ?_
  rintro e w1 ⟨rfl, hl, hb, hsz⟩
  go_wp2
  go_ret2
  have hx : Below w1.heap.size w1 (w1.alloc (.cells #[.pointer (some ⟨w.heap.size, 0, none⟩), .slice none 0 0] 67)) := (Below.refl _ _).alloc (Nat.le_refl _) _
  refine ⟨?_, ⟨by omega, ?_, hl.below hx, World.ownsRow_nil _ _ _ _, fun g hg => by cases hg⟩, hb.trans (hx.mono hb.size)⟩
  · rw [← hsz]; rfl
  · rw [← hsz]; exact heap_alloc_new w1 _

set_option maxRecDepth 100000 in
set_option maxHeartbeats 400000 in
theorem version_side (w : World) (b0 C B : Nat) (S L : Value) (evs : List ByteArray) (n : Int) (h : SideAt w b0 C B S L evs) :
    Calls Try.prog 31 #[.pointer (some ⟨C, 0, none⟩), .int .i64 n] w fun e w' => e = .returned (.bool (decide (1 ≤ n ∧ n ≤ evs.length))) ∧ w' = w := by
  obtain ⟨c0, c1, _⟩ := h.cells
  obtain ⟨ao, cap, rfl, _⟩ := owns_strings h.row
  by_cases h1 : 1 ≤ n
  · by_cases h2 : n ≤ evs.length
    · have hd : decide (1 ≤ n ∧ n ≤ (evs.length : Int)) = true := decide_eq_true ⟨h1, h2⟩
      rw [hd]
      go_enter Try.func31, Try.ntmps31
      go_wp2
      go_ret
      exact ⟨rfl, rfl⟩
    · have hd : decide (1 ≤ n ∧ n ≤ (evs.length : Int)) = false := decide_eq_false (by omega)
      rw [hd]
      have h3 : (evs.length : Int) < n := by omega
      go_enter Try.func31, Try.ntmps31
      go_wp2
      go_ret
      exact ⟨rfl, rfl⟩
  · have hd : decide (1 ≤ n ∧ n ≤ (evs.length : Int)) = false := decide_eq_false (by omega)
    rw [hd]
    have h3 : n < 1 := by omega
    go_enter Try.func31, Try.ntmps31
    go_wp2
    go_ret
    exact ⟨rfl, rfl⟩
end Go.Proofs.Ytlndinigbppafaa

/-
  The statements' own side of a log: what it wants of a message.
-/
namespace Go.Proofs.Ytlndinigbppafaa
open Go.RowKit

/-- A row of nodes, where a cell of an elder block is written. -/
theorem nodes_put {w : World} {b0 b : Nat} {v : Value} {ns : List PN} (h : w.ownsRow b0 100 3 v ns.length (cellsN ns)) (hb : b < b0) (x : Value) : NodesG (w.setCell ⟨b, 4, none⟩ x) v ns := by
  have h2 : (w.setCell ⟨b, 4, none⟩ x).ownsRow b0 100 3 v ns.length (cellsN ns) := by
    obtain ⟨h1, h2⟩ := h
    refine ⟨h1, h2.imp id fun ⟨g, cap, cur, e, hg, hh, r⟩ => ⟨g, cap, cur, e, hg, ?_, r⟩⟩
    rw [Below.heap_setCell _ _ _ _ (by show g ≠ b; omega)]
    exact hh
  exact (NodesAt.of_owns h2).any

set_option maxRecDepth 100000 in
set_option maxHeartbeats 2000000 in
theorem want_member (w : World) (b0 C B : Nat) (S L : Value) (evs : List ByteArray) (n m : Nat) (h : SideAt w b0 C B S L evs) (h1 : 1 ≤ n) (h2 : n ≤ evs.length) (hm : m < n) (hl : evs.length ≤ 500) (hs : ∀ s ∈ evs, s.size ≤ 50) :
    Calls Try.prog 35 #[.pointer (some ⟨C, 0, none⟩), .int .i64 3, .int .i64 m, .int .i64 n] w fun e w' => e = .returned (.tuple #[.string ⟨(memberB (evs.take n) m).toArray⟩, .bool true]) ∧ Below w.heap.size w w' := by
  have hss : ∀ s ∈ evs, s.size ≤ 255 := fun s q => by have := hs s q; omega
  have hln : (evs.take n).length = n := by rw [List.length_take]; omega
  have hd16 : dep n ≤ 16 := dep_le _ 16 (by rw [pw_16]; omega)
  have hsm := small_prune (evs.take n) (ruleM m) 3 m 0 (by omega) (by omega) (by omega) (by omega) (take_small hss)
  rw [hln] at hsm
  have HS : Hid _ := hsm
  clear hsm
  have HM : Hid (memberB (evs.take n) m = encM 3 m n 0 (pruneN (evs.take n) (ruleK 3 m) (dep n) 0)) := by show _ = _; unfold memberB; rw [hln]; rfl
  have HV := version_side w b0 C B S L evs n h
  rw [decide_eq_true (show 1 ≤ (n : Int) ∧ (n : Int) ≤ evs.length by omega)] at HV
  obtain ⟨c0, c1, _⟩ := h.cells
  obtain ⟨ao, cap, rfl, hst⟩ := owns_strings h.row
  have i1 : (m : Int) < (n : Int) := by omega
  have i2 : ¬ ((m : Int) < 0) := by omega
  have DP : ∀ w' : World, Calls Try.prog 34 #[.int .i64 n] w' fun e w'' => e = .returned (.int .i64 (dep n)) ∧ w'' = w' := fun w' => depth_any n w' (by omega)
  go_enter Try.func35, Try.ntmps35
  go_wp2_with fail
  refine HV.mono ?_
  rintro e w' ⟨rfl, rfl⟩
  have hX : Below w'.heap.size w' (w'.alloc (.cells #[.int .i64 3, .int .i64 m, .int .i64 n, .int .i64 0, .slice none 0 0] 42)) := (Below.refl _ _).alloc (Nat.le_refl _) _
  have d0 := cell_keep c0 hX
  have d1 := cell_keep c1 hX
  have HST : Hid _ := StringsAt.below hst hX
  have HN : Hid _ := heap_alloc_new w' (.cells #[.int .i64 3, .int .i64 m, .int .i64 n, .int .i64 0, .slice none 0 0] 42)
  have hM0 : MsgBox (w'.alloc (.cells #[.int .i64 3, .int .i64 m, .int .i64 n, .int .i64 0, .slice none 0 0] 42)) w'.heap.size 3 m n 0 (.slice none 0 0) := by refine ⟨?_, ?_, ?_, ?_, ?_⟩ <;> simp
  have HX : Hid _ := hX
  clear hX HV
  go_wp2
  have hw0 := HX.out
  have hst0 := HST.out
  have hn0 := HN.out
  clear HX HST HN c0 c1 hst
  generalize w'.alloc (.cells #[.int .i64 3, .int .i64 m, .int .i64 n, .int .i64 0, .slice none 0 0] 42) = X at hM0 hw0 hst0 hn0 d0 d1 ⊢
  obtain ⟨m0, m1, m2, m3, m4⟩ := hM0
  go_still_tail 7, (by kernel_rfl)
  still_call (DP _)
  repeat still_step
  refine wpStill_nil ?_
  generalize hwd : (World.mk X.heap X.tape (X.drawn + 1) X.os X.output) = wd
  have hbd : Below X.heap.size X wd := by rw [← hwd]; exact (Below.refl _ _).drew
  have hbz : wd.heap.size = X.heap.size := by rw [← hwd]
  clear hwd
  go_wp2_with fail
  refine (tree_ref evs n h2 (by omega) hss (.slice ao evs.length cap) 3 m 0 (.slice none 0 0) (dep n) hd16 0 0 (dep n) wd rfl rfl (by omega) (StringsAt.below hst0 hbd)).mono ?_
  rintro e w2 ⟨v2, rfl, hO2, hb2⟩
  have hN2 : w2.heap[w'.heap.size]? = some (.cells #[.int .i64 3, .int .i64 m, .int .i64 n, .int .i64 0, .slice none 0 0] 42) := by
    rw [hb2.block _ (by rw [hbz]; exact lt_of_heap hn0), hbd.block _ (lt_of_heap hn0)]; exact hn0
  have hlt := lt_of_heap hn0
  have q0 : w2.cell? ⟨w'.heap.size, 0, none⟩ = some (.int .i64 3) := by rw [cell_of_row _ _ _ _ _ _ hN2]; rfl
  have q1 : w2.cell? ⟨w'.heap.size, 1, none⟩ = some (.int .i64 m) := by rw [cell_of_row _ _ _ _ _ _ hN2]; rfl
  have q2 : w2.cell? ⟨w'.heap.size, 2, none⟩ = some (.int .i64 n) := by rw [cell_of_row _ _ _ _ _ _ hN2]; rfl
  have q3 : w2.cell? ⟨w'.heap.size, 3, none⟩ = some (.int .i64 0) := by rw [cell_of_row _ _ _ _ _ _ hN2]; rfl
  have q4 : w2.cell? ⟨w'.heap.size, 4, none⟩ = some (.slice none 0 0) := by rw [cell_of_row _ _ _ _ _ _ hN2]; rfl
  have qz : w2.frozen? ⟨w'.heap.size, 4, none⟩ = false := by unfold World.frozen?; rw [hN2]; rfl
  have hB2 : Below w'.heap.size w' w2 := (hw0.trans (hbd.mono hw0.size)).trans (hb2.mono (by rw [hbz]; exact hw0.size))
  have HO : Hid _ := nodes_put hO2 (by rw [hbz]; omega) v2
  clear m0 m1 m2 m3 m4 d0 d1 hst0 hn0 hb2 hbd DP
  obtain ⟨g, cp, rfl⟩ : ∃ g cp, v2 = .slice (some ⟨g, 0, none⟩) (pruneN (evs.take n) (ruleK 3 m) (dep n) 0).length cp := by
    have := (pruneN_len (evs.take n) (ruleK 3 m) (dep n) 0).1
    rcases hO2.2 with ⟨_, h0⟩ | ⟨g, cp, cur, rfl, _⟩
    · omega
    · exact ⟨g, cp, rfl⟩
  go_wp2_with fail
  refine (refBytes_any 3 m n 0 _ _ _ HO.out HS.out).mono ?_
  rintro e w5 ⟨rfl, hb5⟩
  have hB4 : Below w'.heap.size w' (w2.setCell ⟨w'.heap.size, 4, none⟩ (.slice (some ⟨g, 0, none⟩) (pruneN (evs.take n) (ruleK 3 m) (dep n) 0).length cp)) := hB2.setCell (Nat.le_refl _) _
  have hB5 := hB4.trans (hb5.mono hB4.size)
  go_wp2
  go_ret2
  exact ⟨by rw [HM.out]; rfl, hB5⟩
end Go.Proofs.Ytlndinigbppafaa

/-
  The statements' own side of a log: an event is laid.
-/
namespace Go.Proofs.Ytlndinigbppafaa
open Go.RowKit

/-- What the events are behind it. -/
def layL (evs : List ByteArray) (s : ByteArray) : List ByteArray := if 50 < s.size then evs else if 500 ≤ evs.length then evs else evs ++ [s]

set_option maxRecDepth 100000 in
set_option maxHeartbeats 2000000 in
theorem lay_long (w : World) (b0 C B : Nat) (S L : Value) (evs : List ByteArray) (s : ByteArray) (h : SideAt w b0 C B S L evs) (hs : 50 < s.size) (hm : s.size ≤ maxLen) :
    Calls Try.prog 15 #[.pointer (some ⟨C, 0, none⟩), .string s] w fun e w' => e = .returned (.bool true) ∧ Below w.heap.size w w' ∧ w'.heap = w.heap := by
  obtain ⟨c0, c1, _⟩ := h.cells
  obtain ⟨ao, cap, rfl, hst⟩ := owns_strings h.row
  have HL : Hid _ := h.log
  have hsi : 50 < (s.size : Int) := by omega
  unfold maxLen at hm
  clear hst
  go_enter Try.func15, Try.ntmps15
  go_wp2_with fail
  refine (append_long w _ _ _ _ s HL.out hs (by unfold maxLen; omega)).mono ?_
  rintro e w' ⟨rfl, rfl⟩
  go_wp2
  go_quiet (first
    | (go_at_call 32; exact Calls.quiet_of_same (num_law _ _))
    | (go_at_call 38; exact Calls.quiet_of_same (len_log _ _ _ _ _ (by exact HL.out))))
  go_wp2
  go_ret
  exact ⟨rfl, ⟨rfl, rfl, rfl, Nat.le_refl _, fun _ _ => rfl⟩, rfl⟩

set_option maxRecDepth 100000 in
set_option maxHeartbeats 2000000 in
theorem lay_many (w : World) (b0 C B : Nat) (S L : Value) (evs : List ByteArray) (s : ByteArray) (h : SideAt w b0 C B S L evs) (hl : evs.length = 500) (hs : s.size ≤ 50) :
    Calls Try.prog 15 #[.pointer (some ⟨C, 0, none⟩), .string s] w fun e w' => e = .returned (.bool true) ∧ Below w.heap.size w w' ∧ w'.heap = w.heap := by
  obtain ⟨c0, c1, _⟩ := h.cells
  obtain ⟨ao, cap, rfl, hst⟩ := owns_strings h.row
  have HL : Hid _ := h.log
  have hsi : (s.size : Int) ≤ 50 := by omega
  have hg : (500 : Int) ≤ (evs.length : Int) := by omega
  have H5 : Hid _ := hl
  clear hst hl
  go_enter Try.func15, Try.ntmps15
  go_wp2_with fail
  refine (append_many w _ _ _ _ s HL.out hs (by have := H5.out; omega) (by have := H5.out; omega)).mono ?_
  rintro e w' ⟨rfl, rfl⟩
  go_wp2
  go_quiet (first
    | (go_at_call 32; exact Calls.quiet_of_same (num_law _ _))
    | (go_at_call 38; exact Calls.quiet_of_same (len_log _ _ _ _ _ (by exact HL.out))))
  go_wp2
  go_ret
  exact ⟨rfl, ⟨rfl, rfl, rfl, Nat.le_refl _, fun _ _ => rfl⟩, rfl⟩

theorem ownB_of {w : World} {b0 n : Nat} {t : TypeId} {v : Value} {xs : List Value} (h : w.ownsRow b0 t 1 v n xs) {g : Nat} (hg : v.ownBlock = some g) : ∃ cur fr, w.heap[g]? = some (.cells cur t fr) := by
  rcases h.2 with ⟨rfl, _⟩ | ⟨g', cap, cur, rfl, _, hh, _⟩
  · cases hg
  · simp only [Value.ownBlock, Option.some.injEq] at hg
    subst hg
    exact ⟨cur, _, hh⟩
theorem ne_types {w : World} {a b : Nat} {c c' : Array Value} {t t' : TypeId} {f f' : Nat × Nat} (h : w.heap[a]? = some (.cells c t f)) (h' : w.heap[b]? = some (.cells c' t' f')) (ht : t ≠ t') : a ≠ b := by
  intro e
  subst e
  rw [h] at h'
  cases h'
  exact ht rfl

/-- The side, when its log has one event more. -/
theorem side_appended {w w1 : World} {b0 C B : Nat} {S S1 L : Value} {evs : List ByteArray} (h : SideAt w b0 C B S L evs) (hF : Frame2 w w1 B S.ownBlock) (hat : S1.ownBlock = S.ownBlock ∨ ∃ g, S1.ownBlock = some g ∧ w.heap.size ≤ g) :
    w1.heap[C]? = some (.cells #[.pointer (some ⟨B, 0, none⟩), L] 67 (0, 0)) ∧ w1.ownsRow b0 9 1 L evs.length (strs8 evs) ∧ (∀ g, L.ownBlock = some g → S1.ownBlock ≠ some g) ∧ Below b0 w w1 := by
  have hCl := lt_of_heap h.blk
  have hCB : C ≠ B := ne_types h.blk h.log.2.1 (by decide)
  have hCS : some C ≠ S.ownBlock := fun e => by
    obtain ⟨cur, fr, hh⟩ := ownB_of h.log.2.2 e.symm
    exact ne_types h.blk hh (by decide) rfl
  refine ⟨by rw [hF.block C hCl hCB hCS]; exact h.blk, ?_, fun g hg => ?_, ?_⟩
  · obtain ⟨r1, r2⟩ := h.row
    refine ⟨r1, r2.imp id fun ⟨g, cap, cur, e, hg, hh, r⟩ => ⟨g, cap, cur, e, hg, ?_, r⟩⟩
    have hgB : g ≠ B := ne_types hh h.log.2.1 (by decide)
    have hgS : some g ≠ S.ownBlock := fun q => h.apart g (by rw [e]; rfl) q.symm
    rw [hF.block g (lt_of_heap hh) hgB hgS]
    exact hh
  · obtain ⟨cur, fr, hh⟩ := ownB_of h.row hg
    have := lt_of_heap hh
    rcases hat with q | ⟨g', q, hq⟩
    · rw [q]; exact h.apart g hg
    · rw [q]; intro e; cases e; omega
  · refine hF.below h.log.1 (fun k hk => ?_) ?_
    · rcases h.log.2.2.2 with ⟨e, _⟩ | ⟨g, cap, cur, e, hg, _⟩
      · rw [e] at hk; cases hk
      · rw [e] at hk; simp only [Value.ownBlock, Option.some.injEq] at hk; omega
    · have := h.low; omega

/-- The side, when its list has one event more, too. -/
theorem side_laid {w1 w2 : World} {X : Obj} {b0 C B g cp : Nat} {S1 L : Value} {evs : List ByteArray} {s : ByteArray} (hlow : b0 ≤ C) (hC : w1.heap[C]? = some (.cells #[.pointer (some ⟨B, 0, none⟩), L] 67 (0, 0))) (hL1 : LogAt w1 b0 B S1 (evs ++ [s])) (hr1 : w1.ownsRow b0 9 1 L evs.length (strs8 evs)) (ha1 : ∀ g, L.ownBlock = some g → S1.ownBlock ≠ some g)
    (hO2 : w2.ownsRow b0 9 1 (.slice (some ⟨g, 0, none⟩) (evs.length + 1) cp) (evs.length + 1) (strs8 evs ++ [.string s])) (hg2 : (w1.alloc X).grownBy w2 L.ownBlock) (hat2 : L.ownBlock = some g ∨ g = w1.heap.size + 1) :
    SideAt (w2.setCell ⟨C, 1, none⟩ (.slice (some ⟨g, 0, none⟩) (evs.length + 1) cp)) b0 C B S1 (.slice (some ⟨g, 0, none⟩) (evs.length + 1) cp) (evs ++ [s]) ∧ Below b0 w1 (w2.setCell ⟨C, 1, none⟩ (.slice (some ⟨g, 0, none⟩) (evs.length + 1) cp)) := by
  have keep : ∀ k, k < w1.heap.size → some k ≠ L.ownBlock → w2.heap[k]? = w1.heap[k]? := fun k hk hne => by
    rw [hg2.block k (by simp; omega) hne, Below.heap_alloc _ _ _ hk]
  have neC : some C ≠ L.ownBlock := fun e => by
    obtain ⟨cur, fr, hh⟩ := ownB_of hr1 e.symm
    exact ne_types hC hh (by decide) rfl
  have neB : some B ≠ L.ownBlock := fun e => by
    obtain ⟨cur, fr, hh⟩ := ownB_of hr1 e.symm
    exact ne_types hL1.2.1 hh (by decide) rfl
  have hCl := lt_of_heap hC
  have hC2 : w2.heap[C]? = some (.cells #[.pointer (some ⟨B, 0, none⟩), L] 67 (0, 0)) := by rw [keep C hCl neC]; exact hC
  have other : ∀ k, k ≠ C → (w2.setCell ⟨C, 1, none⟩ (.slice (some ⟨g, 0, none⟩) (evs.length + 1) cp)).heap[k]? = w2.heap[k]? := fun k hk => Below.heap_setCell _ _ _ _ hk
  have hBl := lt_of_heap hL1.2.1
  have hBC : B ≠ C := ne_types hL1.2.1 hC (by decide)
  have hlen : (evs ++ [s]).length = evs.length + 1 := by simp
  have hgC : g ≠ C := by
    rcases hO2.2 with ⟨e, _⟩ | ⟨g', cap', cur, e, _, hh, _⟩
    · cases e
    · simp only [Value.slice.injEq, Option.some.injEq, Addr.mk.injEq] at e
      obtain ⟨⟨rfl, -, -⟩, -, -⟩ := e
      exact ne_types hh hC2 (by decide)
  refine ⟨⟨hlow, ?_, ⟨hL1.1, ?_, ?_⟩, ?_, fun g' hg' => ?_⟩, ⟨?_, ?_, ?_, ?_, fun k hk => ?_⟩⟩
  · simp [World.setCell, Array.getElem?_modify, hC2]
  · rw [other B hBC, keep B hBl neB]; exact hL1.2.1
  · obtain ⟨r1, r2⟩ := hL1.2.2
    refine ⟨r1, r2.imp id fun ⟨g1, cap1, cur, e, hge, hh, r⟩ => ⟨g1, cap1, cur, e, hge, ?_, r⟩⟩
    rw [other g1 (ne_types hh hC (by decide)), keep g1 (lt_of_heap hh) fun q => ha1 g1 q.symm (by rw [e]; rfl)]
    exact hh
  · rw [hlen, show strs8 (evs ++ [s]) = strs8 evs ++ [.string s] by simp [strs8]]
    obtain ⟨r1, r2⟩ := hO2
    refine ⟨r1, r2.imp id fun ⟨g1, cap1, cur, e, hge, hh, r⟩ => ⟨g1, cap1, cur, e, hge, ?_, r⟩⟩
    have : g1 = g := by
      simp only [Value.slice.injEq, Option.some.injEq, Addr.mk.injEq] at e
      exact e.1.1.symm
    rw [other g1 (by rw [this]; exact hgC)]
    exact hh
  · simp only [Value.ownBlock, Option.some.injEq] at hg'
    subst hg'
    rcases hat2 with q | q
    · exact ha1 g q
    · intro e
      obtain ⟨cur, fr, hh⟩ := ownB_of hL1.2.2 e
      have := lt_of_heap hh
      rw [q] at this
      omega
  · exact hg2.os
  · exact hg2.tape
  · exact hg2.output
  · have := hg2.size
    simp at this
    simp [World.setCell]
    omega
  · rw [other k (by omega), keep k (by omega) fun e => ?_]
    rcases hr1.2 with ⟨q, _⟩ | ⟨g', cap', cur, q, hq, _⟩
    · rw [q] at e; cases e
    · rw [q] at e
      simp only [Value.ownBlock, Option.some.injEq] at e
      omega

set_option maxRecDepth 100000 in
set_option maxHeartbeats 2000000 in
theorem lay_ok (w : World) (b0 C B : Nat) (S L : Value) (evs : List ByteArray) (s : ByteArray) (h : SideAt w b0 C B S L evs) (hb0 : b0 ≤ w.heap.size) (hl : evs.length < 500) (hs : s.size ≤ 50) :
    Calls Try.prog 15 #[.pointer (some ⟨C, 0, none⟩), .string s] w fun e w' => e = .returned (.bool true) ∧ ∃ S' L', SideAt w' b0 C B S' L' (evs ++ [s]) ∧ Below b0 w w' := by
  obtain ⟨i0, hi, hz0, hz1, hz2⟩ := info_parts Try.infoStr
  obtain ⟨c0, c1, _⟩ := h.cells
  have hsi : (s.size : Int) ≤ 50 := by omega
  have hg : (evs.length : Int) < 500 := by omega
  have HH : Hid _ := h
  obtain ⟨ao, cap, rfl, hst⟩ := owns_strings h.row
  clear hst
  go_enter Try.func15, Try.ntmps15
  go_wp2_with fail
  refine (append_ok w _ _ _ _ s HH.out.log hs (by omega) hb0).mono ?_
  rintro e w1 ⟨S1, rfl, hL1, hF1, hat1⟩
  obtain ⟨hC1, hr1, ha1, hb1⟩ := side_appended HH.out hF1 hat1
  have k0 : w1.cell? ⟨C, 0, none⟩ = some (.pointer (some ⟨B, 0, none⟩)) := by rw [cell_of_row _ _ _ _ _ _ hC1]; rfl
  have k1 : w1.cell? ⟨C, 1, none⟩ = some (.slice ao evs.length cap) := by rw [cell_of_row _ _ _ _ _ _ hC1]; rfl
  have hs1 : b0 ≤ w1.heap.size := Nat.le_trans hb0 hb1.size
  clear c0 c1 hF1 hat1
  go_wp2_with (at_builtin; refine wpList_append_lies _ rfl (.tmp 55) (.tmp 57) 22 rfl b0 9 i0 (.string ByteArray.empty) 1 16 Try.underlying22 hi hz0 hz1 hz2 rfl (by decide) _ _ _ rfl (hr1.alloc _) ⟨w1.heap.size, 0, none⟩ 1 1 [.string s] rfl rfl (World.news_of_block (heap_alloc_new w1 _)) (by intro u hu; simp at hu; subst hu; rfl) (by decide) (by unfold maxLen; omega) (by omega) (by simp; omega) _ rfl ?_)
  intro g cp w2 hO2 hg2 hat2 hlt2
  have hC2 : w2.heap[C]? = some (.cells #[.pointer (some ⟨B, 0, none⟩), .slice ao evs.length cap] 67 (0, 0)) := by
    rw [hg2.block C (by have := lt_of_heap hC1; simp; omega) (fun e => by
      obtain ⟨cur, fr, hh⟩ := ownB_of hr1 e.symm
      exact ne_types hC1 hh (by decide) rfl), Below.heap_alloc _ _ _ (lt_of_heap hC1)]
    exact hC1
  have z0 : w2.cell? ⟨C, 0, none⟩ = some (.pointer (some ⟨B, 0, none⟩)) := by rw [cell_of_row _ _ _ _ _ _ hC2]; rfl
  have z1 : w2.cell? ⟨C, 1, none⟩ = some (.slice ao evs.length cap) := by rw [cell_of_row _ _ _ _ _ _ hC2]; rfl
  have zz : w2.frozen? ⟨C, 1, none⟩ = false := by unfold World.frozen?; rw [hC2]; rfl
  obtain ⟨R1, R2⟩ := side_laid HH.out.low hC1 hL1 hr1 ha1 hO2 hg2 hat2
  obtain ⟨y0, y1, _⟩ := R1.cells
  have HR : Hid _ := R1
  have HB : Hid _ := hb1.trans R2
  have HLg : Hid _ := R1.log
  clear hC1 hr1 ha1 hb1 k0 k1 hL1 hC2 hO2 hg2 hat2 hlt2 R1 R2
  have e1 : ((evs.length : Int) == (evs.length : Int)) = true := beq_self_eq_true _
  have hll : ((evs ++ [s]).length : Int) = (evs.length : Int) + 1 := by simp
  have LN : ∀ q : Nat, Calls Try.prog 38 #[.pointer (some ⟨B, 0, none⟩)] ((w2.setCell ⟨C, 1, none⟩ (.slice (some ⟨g, 0, none⟩) (evs.length + 1) cp)).drewN q) fun e w' => e = .returned (.int .i64 ((evs.length : Int) + 1)) ∧ w' = (w2.setCell ⟨C, 1, none⟩ (.slice (some ⟨g, 0, none⟩) (evs.length + 1) cp)).drewN q := fun q => by
    have := len_log ((w2.setCell ⟨C, 1, none⟩ (.slice (some ⟨g, 0, none⟩) (evs.length + 1) cp)).drewN q) b0 B S1 (evs ++ [s]) HLg.out
    rw [hll] at this
    exact this
  have HLN : Hid _ := LN
  clear LN hll
  go_wp2
  go_quiet (first
    | (go_at_call 32; exact Calls.quiet_of_same (num_law _ _))
    | (go_at_call 38; exact Calls.quiet_of_same (HLN.out _)))
  go_wp2
  go_ret
  refine ⟨rfl, S1, _, HR.out.below ⟨rfl, rfl, rfl, Nat.le_refl _, fun _ _ => rfl⟩, HB.out.trans ⟨rfl, rfl, rfl, Nat.le_refl _, fun _ _ => rfl⟩⟩
end Go.Proofs.Ytlndinigbppafaa

/-
  The statements' own side of a log: all proofs of a version, called by goroutine 0 alone.
-/
namespace Go.Proofs.Ytlndinigbppafaa
open Go.Sim Go.Conc Go.Fi

def r16_0 : Array Oper :=
  #[{ dst := some 4, op := .assign (.const (.slice none 0 0)), type := 23, pos := "law.go:101", after := #[], guard := none },
    { dst := some 5, op := .assign (.const (.bool false)), type := 4, pos := "law.go:101", after := #[{ on := 0, ground := .chain }], guard := none }]
def r16_1 : Array Oper :=
  #[{ dst := some 13, op := .move (.tmp 0), type := 29, pos := "law.go:102", after := #[], guard := none },
    { dst := some 14, op := .nilCheck (.tmp 13), type := 0, pos := "law.go:102", after := #[{ on := 0, ground := .data }], guard := none },
    { dst := some 15, op := .fieldAddr 67 (.tmp 14) 0, type := 0, pos := "law.go:102", after := #[{ on := 1, ground := .data }], guard := none },
    { dst := some 16, op := .load 48 (.tmp 15), type := 48, pos := "law.go:102", after := #[{ on := 2, ground := .data }], guard := none },
    { dst := some 17, op := .move (.tmp 1), type := 3, pos := "law.go:102", after := #[], guard := none },
    { dst := some 18, op := .call { callee := .value (.func 24), args := #[.tmp 16, .tmp 17], argTypes := #[48, 3] }, type := 55, pos := "law.go:102", after := #[{ on := 3, ground := .data }, { on := 4, ground := .data }], guard := none },
    { dst := some 12, op := .move (.tmp 18), type := 55, pos := "law.go:102", after := #[{ on := 5, ground := .data }], guard := none },
    { dst := some 19, op := .extract (.tmp 12) 0, type := 23, pos := "law.go:102", after := #[{ on := 6, ground := .data }], guard := none },
    { dst := some 20, op := .extract (.tmp 12) 1, type := 52, pos := "law.go:102", after := #[{ on := 6, ground := .data }, { on := 9, ground := .gcOnly .lateStores }], guard := none },
    { dst := some 6, op := .assign (.tmp 19), type := 23, pos := "law.go:102", after := #[{ on := 7, ground := .data }, { on := 5, ground := .chain }, { on := 0, ground := .phase }, { on := 1, ground := .phase }, { on := 2, ground := .phase }, { on := 3, ground := .phase }, { on := 4, ground := .phase }, { on := 5, ground := .phase }, { on := 6, ground := .phase }, { on := 7, ground := .phase }, { on := 8, ground := .textOnly .lateStores }], guard := none },
    { dst := some 7, op := .assign (.tmp 20), type := 52, pos := "law.go:102", after := #[{ on := 8, ground := .data }, { on := 9, ground := .chain }, { on := 0, ground := .phase }, { on := 1, ground := .phase }, { on := 2, ground := .phase }, { on := 3, ground := .phase }, { on := 4, ground := .phase }, { on := 5, ground := .phase }, { on := 6, ground := .phase }, { on := 7, ground := .phase }, { on := 8, ground := .phase }, { on := 9, ground := .phase }], guard := none }]
def r16_2 : Array Oper :=
  #[{ dst := some 21, op := .move (.tmp 0), type := 29, pos := "law.go:103", after := #[], guard := none },
    { dst := some 22, op := .move (.tmp 1), type := 3, pos := "law.go:103", after := #[], guard := none },
    { dst := some 23, op := .call { callee := .value (.func 31), args := #[.tmp 21, .tmp 22], argTypes := #[29, 3] }, type := 4, pos := "law.go:103", after := #[{ on := 0, ground := .data }, { on := 1, ground := .data }], guard := none },
    { dst := some 8, op := .assign (.tmp 23), type := 4, pos := "law.go:103", after := #[{ on := 2, ground := .data }, { on := 2, ground := .chain }, { on := 0, ground := .phase }, { on := 1, ground := .phase }, { on := 2, ground := .phase }], guard := none }]
def r16_3 : Array Oper :=
  #[{ dst := some 24, op := .move (.tmp 8), type := 4, pos := "law.go:104", after := #[], guard := none },
    { dst := some 25, op := .unOp .not 4 (.tmp 24), type := 4, pos := "law.go:104", after := #[{ on := 0, ground := .data }], guard := none }]
def r16_4 : Array Oper :=
  #[{ dst := some 26, op := .move (.tmp 6), type := 23, pos := "law.go:105", after := #[], guard := none },
    { dst := some 27, op := .move (.tmp 6), type := 23, pos := "law.go:105", after := #[], guard := none },
    { dst := some 28, op := .call { callee := .builtin .len, args := #[.tmp 27], argTypes := #[23] }, type := 3, pos := "law.go:105", after := #[{ on := 1, ground := .data }], guard := none },
    { dst := some 29, op := .binOp .eql 3 (.tmp 28) (.const (.int .i64 0)) 3, type := 4, pos := "law.go:105", after := #[{ on := 2, ground := .data }], guard := none },
    { dst := some 30, op := .move (.tmp 29), type := 4, pos := "law.go:105", after := #[{ on := 3, ground := .data }], guard := none },
    { dst := some 31, op := .move (.tmp 7), type := 52, pos := "law.go:105", after := #[{ on := 4, ground := .guard }], guard := some (4, true) },
    { dst := some 32, op := .call { callee := .value (.func 32), args := #[.tmp 31], argTypes := #[52] }, type := 3, pos := "law.go:105", after := #[{ on := 5, ground := .data }, { on := 4, ground := .chain }, { on := 4, ground := .guard }], guard := some (4, true) },
    { dst := some 33, op := .binOp .eql 3 (.tmp 32) (.const (.int .i64 1)) 3, type := 4, pos := "law.go:105", after := #[{ on := 6, ground := .data }, { on := 4, ground := .guard }, { on := 9, ground := .gcOnly .lateStores }], guard := some (4, true) },
    { dst := some 34, op := .pick (.tmp 30) (.tmp 33) (.const (.bool false)), type := 4, pos := "law.go:105", after := #[{ on := 4, ground := .data }, { on := 7, ground := .data }, { on := 9, ground := .gcOnly .lateStores }], guard := none },
    { dst := some 4, op := .assign (.tmp 26), type := 23, pos := "law.go:105", after := #[{ on := 0, ground := .data }, { on := 6, ground := .chain }, { on := 0, ground := .phase }, { on := 1, ground := .textOnly .lateStores }, { on := 2, ground := .textOnly .lateStoresUnsure }, { on := 3, ground := .textOnly .lateStores }, { on := 4, ground := .textOnly .lateStores }, { on := 5, ground := .textOnly .lateStores }, { on := 6, ground := .textOnly .lateStoresUnsure }, { on := 7, ground := .textOnly .lateStores }, { on := 8, ground := .textOnly .lateStores }], guard := none },
    { dst := some 5, op := .assign (.tmp 34), type := 4, pos := "law.go:105", after := #[{ on := 8, ground := .data }, { on := 9, ground := .chain }, { on := 0, ground := .phase }, { on := 1, ground := .phase }, { on := 2, ground := .phase }, { on := 3, ground := .phase }, { on := 4, ground := .phase }, { on := 5, ground := .phase }, { on := 6, ground := .phase }, { on := 7, ground := .phase }, { on := 8, ground := .phase }, { on := 9, ground := .phase }], guard := none }]
def r16_5 : Array Oper :=
  #[{ dst := some 35, op := .move (.tmp 6), type := 23, pos := "law.go:107", after := #[], guard := none },
    { dst := some 36, op := .call { callee := .builtin .len, args := #[.tmp 35], argTypes := #[23] }, type := 3, pos := "law.go:107", after := #[{ on := 0, ground := .data }], guard := none },
    { dst := some 37, op := .move (.tmp 1), type := 3, pos := "law.go:107", after := #[], guard := none },
    { dst := some 38, op := .binOp .neq 3 (.tmp 36) (.tmp 37) 3, type := 4, pos := "law.go:107", after := #[{ on := 1, ground := .data }, { on := 2, ground := .data }], guard := none },
    { dst := some 39, op := .move (.tmp 38), type := 4, pos := "law.go:107", after := #[{ on := 3, ground := .data }], guard := none },
    { dst := some 40, op := .move (.tmp 7), type := 52, pos := "law.go:107", after := #[{ on := 4, ground := .guard }], guard := some (4, false) },
    { dst := some 41, op := .call { callee := .value (.func 32), args := #[.tmp 40], argTypes := #[52] }, type := 3, pos := "law.go:107", after := #[{ on := 5, ground := .data }, { on := 4, ground := .chain }, { on := 4, ground := .guard }], guard := some (4, false) },
    { dst := some 42, op := .binOp .neq 3 (.tmp 41) (.const (.int .i64 0)) 3, type := 4, pos := "law.go:107", after := #[{ on := 6, ground := .data }, { on := 4, ground := .guard }], guard := some (4, false) },
    { dst := some 43, op := .pick (.tmp 39) (.const (.bool true)) (.tmp 42), type := 4, pos := "law.go:107", after := #[{ on := 4, ground := .data }, { on := 7, ground := .data }], guard := none }]
def r16_6 : Array Oper :=
  #[{ dst := some 44, op := .move (.tmp 6), type := 23, pos := "law.go:108", after := #[], guard := none },
    { dst := some 4, op := .assign (.tmp 44), type := 23, pos := "law.go:108", after := #[{ on := 0, ground := .data }, { on := 0, ground := .phase }], guard := none },
    { dst := some 5, op := .assign (.const (.bool false)), type := 4, pos := "law.go:108", after := #[{ on := 1, ground := .chain }, { on := 0, ground := .phase }, { on := 1, ground := .phase }], guard := none }]
def r16_7 : Array Oper :=
  #[{ dst := some 9, op := .assign (.const (.int .i64 0)), type := 3, pos := "law.go:110", after := #[], guard := none }]
def r16_8 : Array Oper :=
  #[{ dst := some 45, op := .move (.tmp 9), type := 3, pos := "law.go:110", after := #[], guard := none },
    { dst := some 46, op := .move (.tmp 1), type := 3, pos := "law.go:110", after := #[], guard := none },
    { dst := some 47, op := .binOp .lss 3 (.tmp 45) (.tmp 46) 3, type := 4, pos := "law.go:110", after := #[{ on := 0, ground := .data }, { on := 1, ground := .data }], guard := none }]
def r16_10 : Array Oper :=
  #[{ dst := some 51, op := .move (.tmp 0), type := 29, pos := "law.go:111", after := #[], guard := none },
    { dst := some 52, op := .move (.tmp 9), type := 3, pos := "law.go:111", after := #[], guard := none },
    { dst := some 53, op := .move (.tmp 1), type := 3, pos := "law.go:111", after := #[], guard := none },
    { dst := some 54, op := .call { callee := .value (.func 35), args := #[.tmp 51, .const (.int .i64 3), .tmp 52, .tmp 53], argTypes := #[29, 3, 3, 3] }, type := 71, pos := "law.go:111", after := #[{ on := 0, ground := .data }, { on := 1, ground := .data }, { on := 2, ground := .data }], guard := none },
    { dst := some 50, op := .move (.tmp 54), type := 71, pos := "law.go:111", after := #[{ on := 3, ground := .data }], guard := none },
    { dst := some 55, op := .extract (.tmp 50) 0, type := 9, pos := "law.go:111", after := #[{ on := 4, ground := .data }], guard := none },
    { dst := some 56, op := .extract (.tmp 50) 1, type := 4, pos := "law.go:111", after := #[{ on := 4, ground := .data }, { on := 7, ground := .gcOnly .lateStores }], guard := none },
    { dst := some 10, op := .assign (.tmp 55), type := 9, pos := "law.go:111", after := #[{ on := 5, ground := .data }, { on := 3, ground := .chain }, { on := 0, ground := .phase }, { on := 1, ground := .phase }, { on := 2, ground := .phase }, { on := 3, ground := .phase }, { on := 4, ground := .phase }, { on := 5, ground := .phase }, { on := 6, ground := .textOnly .lateStores }], guard := none },
    { dst := some 11, op := .assign (.tmp 56), type := 4, pos := "law.go:111", after := #[{ on := 6, ground := .data }, { on := 7, ground := .chain }, { on := 0, ground := .phase }, { on := 1, ground := .phase }, { on := 2, ground := .phase }, { on := 3, ground := .phase }, { on := 4, ground := .phase }, { on := 5, ground := .phase }, { on := 6, ground := .phase }, { on := 7, ground := .phase }], guard := none }]
def r16_11 : Array Oper :=
  #[{ dst := some 57, op := .move (.tmp 6), type := 23, pos := "law.go:112", after := #[], guard := none },
    { dst := some 58, op := .move (.tmp 9), type := 3, pos := "law.go:112", after := #[], guard := none },
    { dst := some 59, op := .indexAddr 23 (.tmp 57) (.tmp 58), type := 0, pos := "law.go:112", after := #[{ on := 0, ground := .data }, { on := 1, ground := .data }], guard := none },
    { dst := some 60, op := .load 24 (.tmp 59), type := 24, pos := "law.go:112", after := #[{ on := 2, ground := .data }], guard := none },
    { dst := some 61, op := .convert 24 9 (.tmp 60), type := 9, pos := "law.go:112", after := #[{ on := 3, ground := .data }], guard := none },
    { dst := some 62, op := .move (.tmp 10), type := 9, pos := "law.go:112", after := #[], guard := none },
    { dst := some 63, op := .binOp .neq 9 (.tmp 61) (.tmp 62) 9, type := 4, pos := "law.go:112", after := #[{ on := 4, ground := .data }, { on := 5, ground := .data }], guard := none }]
def r16_12 : Array Oper :=
  #[{ dst := some 64, op := .move (.tmp 6), type := 23, pos := "law.go:113", after := #[], guard := none },
    { dst := some 4, op := .assign (.tmp 64), type := 23, pos := "law.go:113", after := #[{ on := 0, ground := .data }, { on := 0, ground := .phase }], guard := none },
    { dst := some 5, op := .assign (.const (.bool false)), type := 4, pos := "law.go:113", after := #[{ on := 1, ground := .chain }, { on := 0, ground := .phase }, { on := 1, ground := .phase }], guard := none }]
def r16_9 : Array Oper :=
  #[{ dst := some 48, op := .move (.tmp 9), type := 3, pos := "law.go:110", after := #[], guard := none },
    { dst := some 49, op := .binOp .add 3 (.tmp 48) (.const (.int .i64 1)) 3, type := 3, pos := "law.go:110", after := #[{ on := 0, ground := .data }], guard := none },
    { dst := some 9, op := .assign (.tmp 49), type := 3, pos := "law.go:110", after := #[{ on := 1, ground := .data }, { on := 0, ground := .phase }, { on := 1, ground := .phase }], guard := none }]
def r16_13 : Array Oper :=
  #[{ dst := some 65, op := .move (.tmp 6), type := 23, pos := "law.go:116", after := #[], guard := none },
    { dst := some 4, op := .assign (.tmp 65), type := 23, pos := "law.go:116", after := #[{ on := 0, ground := .data }, { on := 0, ground := .phase }], guard := none },
    { dst := some 5, op := .assign (.const (.bool true)), type := 4, pos := "law.go:116", after := #[{ on := 1, ground := .chain }, { on := 0, ground := .phase }, { on := 1, ground := .phase }], guard := none }]
def c16 : Code := ((Code.region 0 r16_0 false).seq ((Code.region 1 r16_1 false).seq ((Code.region 2 r16_2 false).seq (((Code.region 3 r16_3 false).seq (Code.cond (Operand.tmp 25) ((Code.region 4 r16_4 false).seq Code.ret) Code.skip)).seq (((Code.region 5 r16_5 false).seq (Code.cond (Operand.tmp 43) ((Code.region 6 r16_6 false).seq Code.ret) Code.skip)).seq (((Code.region 7 r16_7 false).seq (Code.block 0 (((Code.region 8 r16_8 false).seq (Code.cond (Operand.tmp 47) Code.skip (Code.exit 0))).seq ((Code.block 1 ((Code.region 10 r16_10 false).seq ((Code.region 11 r16_11 false).seq (Code.cond (Operand.tmp 63) ((Code.region 12 r16_12 false).seq Code.ret) Code.skip)))).seq (Code.region 9 r16_9 false))).loop)).seq ((Code.region 13 r16_13 false).seq Code.ret)))))))
theorem body16 : Try.f16.body = some c16 := rfl

def c16rest : Code := ((Code.region 2 r16_2 false).seq (((Code.region 3 r16_3 false).seq (Code.cond (Operand.tmp 25) ((Code.region 4 r16_4 false).seq Code.ret) Code.skip)).seq (((Code.region 5 r16_5 false).seq (Code.cond (Operand.tmp 43) ((Code.region 6 r16_6 false).seq Code.ret) Code.skip)).seq (((Code.region 7 r16_7 false).seq (Code.block 0 (((Code.region 8 r16_8 false).seq (Code.cond (Operand.tmp 47) Code.skip (Code.exit 0))).seq ((Code.block 1 ((Code.region 10 r16_10 false).seq ((Code.region 11 r16_11 false).seq (Code.cond (Operand.tmp 63) ((Code.region 12 r16_12 false).seq Code.ret) Code.skip)))).seq (Code.region 9 r16_9 false))).loop)).seq ((Code.region 13 r16_13 false).seq Code.ret)))))
theorem c16_eq : c16 = (Code.region 0 r16_0 false).seq ((Code.region 1 r16_1 false).seq c16rest) := rfl
theorem codeOK16 : CodeOK Try.prog c16rest := codeB_ok infos (by kernel_rfl)

theorem field16 (C : Nat) (w : World) : (Instr.fieldAt 67 (.pointer (some ⟨C, 0, none⟩)) 0).run Try.prog w = .ok (.pointer (some ⟨C, 0, none⟩)) w ∧ (Instr.fieldAt 67 (.pointer (some ⟨C, 0, none⟩)) 0).events Try.prog w #[] = #[] := by
  constructor
  · simp [Instr.fieldAt, go_sem]
  · simp [Instr.fieldAt, go_sem]
end Go.Proofs.Ytlndinigbppafaa

/-
  The statements' own side of a log: all proofs of a version, called by goroutine 0 alone, on: Proofs of what is no version; the walk of what is left.
-/
namespace Go.Proofs.Ytlndinigbppafaa
open Go.Sim Go.Conc Go.Fi

section
variable {Gl : Array Goroutine → World → Option (Nat × Nat) → Trace → Prop}
variable {k : List Item} {cs : List Frame} {ops : Array Oper} {i : Nat} {rest : List Nat} {b₀ : Frame} {a₀ : Act} {w : World}

theorem Can.logProofsErr {D : Nat → Prop} {b0 B : Nat} {n : Int} {S : Value} {evs : List ByteArray} (hlog : LogAt w b0 B S evs) (hno : n < 1 ∨ (evs.length : Int) < n) (hlv : Vs D (.pointer (some ⟨B, 0, none⟩))) (hw : Sf D w)
    (hK : ∀ (D' : Nat → Prop) (w' : World), (∀ b, D b → D' b) → Sf D' w' → Bel w w' → Can Gl 0 (G (b₀.at (a₀.put ((ops[i]?).bind (·.dst)) (.tuple #[.slice none 0 0, .int .i64 1])) (.inRegion ops rest :: k)) cs) w') :
    Can Gl 0 (G ((base 24).at (⟨#[.pointer (some ⟨B, 0, none⟩), .int .i64 n, undef, undef, undef, undef, undef, undef, undef, undef, undef, undef, undef, undef, undef, undef, undef, undef], []⟩ : Act) [.code c24]) (b₀.at a₀ (.inRegion ops (i :: rest) :: k) :: cs)) w := by
  generalize hl : Value.pointer (some ⟨B, 0, none⟩) = lv at hlv ⊢
  have hk : (base 24).kind ≠ .early := by intro h; cases h
  refine Can.seq (Can.region (a' := (⟨#[lv, .int .i64 n, undef, undef, .slice none 0 0, .int .i64 0, undef, undef, undef, undef, undef, undef, undef, undef, undef, undef, undef, undef], []⟩ : Act)) hk rfl ?_)
  refine Can.seq (Can.seq (Can.into (Can.pures (l := [0, 1]) (rest := [2, 3]) (a' := (⟨#[lv, .int .i64 n, undef, undef, .slice none 0 0, .int .i64 0, undef, lv, .int .i64 n, undef, undef, undef, undef, undef, undef, undef, undef, undef], []⟩ : Act)) hk rfl ?_)))
  refine Can.callS (o := r24_1[2]) (vs := [lv, .int .i64 n]) (Q := fun v w' => v = .int .i64 1 ∧ Bel w w') hk rfl rfl rfl Try.func42 (by simp [Try.f42, names]) rfl (by simp [Try.f42]) (by simp [Act.eval]) (fun v hv => ?_) hw (fun v w' τ q => ⟨q.1, q.2.tp τ⟩) (fun τ => ?_) ?_
  · simp at hv
    rcases hv with rfl | rfl
    · exact hlv
    · exact Vs.int _ _ _
  · show Calls _ _ #[lv, .int .i64 n] _ _
    rw [← hl]
    refine (check_no (w.tp τ) b0 B S evs n hlog hno).mono fun e w' q => ?_
    obtain ⟨rfl, rfl⟩ := q
    exact ⟨rfl, rfl, rfl, Nat.le_refl _, fun _ _ => rfl⟩
  intro D1 v w1 s1 _ hw1 hq1
  obtain ⟨rfl, hb1⟩ := hq1
  show Can Gl 0 (G ((base 24).at (⟨#[lv, .int .i64 n, undef, undef, .slice none 0 0, .int .i64 0, undef, lv, .int .i64 n, .int .i64 1, undef, undef, undef, undef, undef, undef, undef, undef], []⟩ : Act) _) _) _
  refine Can.pures (l := [3]) (rest := []) (a' := (⟨#[lv, .int .i64 n, undef, undef, .slice none 0 0, .int .i64 0, .int .i64 1, lv, .int .i64 n, .int .i64 1, undef, undef, undef, undef, undef, undef, undef, undef], []⟩ : Act)) hk rfl (Can.out ?_)
  refine Can.seq (Can.region (a' := (⟨#[lv, .int .i64 n, undef, undef, .slice none 0 0, .int .i64 0, .int .i64 1, lv, .int .i64 n, .int .i64 1, .int .i64 1, .bool true, undef, undef, undef, undef, undef, undef], []⟩ : Act)) hk rfl ?_)
  refine Can.cond (t := true) rfl (Can.seq (Can.region (a' := (⟨#[lv, .int .i64 n, undef, undef, .slice none 0 0, .int .i64 1, .int .i64 1, lv, .int .i64 n, .int .i64 1, .int .i64 1, .bool true, .int .i64 1, undef, undef, undef, undef, undef], []⟩ : Act)) hk rfl (Can.ret ?_)))
  refine Can.leave2 rfl rfl Try.func24 rfl ?_
  exact hK D1 w1 s1 hw1 hb1
end
end Go.Proofs.Ytlndinigbppafaa

/-
  The statements' own side of a log: all proofs of a version: the walk of what is left behind Proofs.
-/
namespace Go.Proofs.Ytlndinigbppafaa
open Go.Sim Go.Conc Go.Fi Go.RowKit

def px16 (C B : Nat) (n : Int) (l : Value) (e : Int) : Act :=
  (⟨#[.pointer (some ⟨C, 0, none⟩), .int .i64 n, undef, undef, .slice none 0 0, .bool false, l, .int .i64 e, undef, undef, undef, undef, .tuple #[l, .int .i64 e], .pointer (some ⟨C, 0, none⟩), .pointer (some ⟨C, 0, none⟩), .pointer (some ⟨C, 0, none⟩), .pointer (some ⟨B, 0, none⟩), .int .i64 n, .tuple #[l, .int .i64 e], l, .int .i64 e, undef, undef, undef, undef, undef, undef, undef, undef, undef, undef, undef, undef, undef, undef, undef, undef, undef, undef, undef, undef, undef, undef, undef, undef, undef, undef, undef, undef, undef, undef, undef, undef, undef, undef, undef, undef, undef, undef, undef, undef, undef, undef, undef, undef, undef], []⟩ : Act)

set_option maxRecDepth 100000 in
set_option maxHeartbeats 2000000 in
theorem rest16_no (w : World) (b0 C B : Nat) (S L : Value) (evs : List ByteArray) (n : Int) (h : SideAt w b0 C B S L evs) (hno : n < 1 ∨ (evs.length : Int) < n) (Post : Ending → World → Prop) (hPost : ∀ w', Below w.heap.size w w' → Post (.returned (.tuple #[.slice none 0 0, .bool true])) w') :
    c16rest.wp Try.prog (bodyPost Try.prog Try.f16 Post) (px16 C B n (.slice none 0 0) 1) w := by
  have HV := version_side w b0 C B S L evs n h
  rw [decide_eq_false (show ¬ (1 ≤ n ∧ n ≤ (evs.length : Int)) by omega)] at HV
  have HP : Hid _ := hPost
  clear hPost
  unfold c16rest px16 r16_2 r16_3 r16_4 r16_5 r16_6 r16_7 r16_8 r16_9 r16_10 r16_11 r16_12 r16_13
  go_wp2_with fail
  refine HV.mono ?_
  rintro e w' ⟨rfl, rfl⟩
  go_wp2_with fail
  refine (num_law _ _).mono ?_
  rintro e w' ⟨rfl, rfl⟩
  go_wp2
  exact HP.out _ (Below.refl _ _)

/-- The rows that Proofs has gathered. -/
def GathAt (w : World) (ga : Nat) (n : Nat) (evs : List ByteArray) : Prop := ∃ vs : List Value, vs.length = n ∧ w.heap[ga]? = some (.cells vs.toArray 24) ∧ ∀ (j : Nat) (V : Value), vs[j]? = some V → RowB (memberB evs j) V w
theorem GathAt.below {w w' : World} {ga n : Nat} {evs : List ByteArray} (h : GathAt w ga n evs) (hb : Below w.heap.size w w') : GathAt w' ga n evs := by
  obtain ⟨vs, h1, h2, h3⟩ := h
  exact ⟨vs, h1, by rw [hb.block ga (lt_of_heap h2)]; exact h2, fun j V hj => owns_below (h3 j V hj) hb⟩
theorem GathAt.at {w : World} {ga n : Nat} {evs : List ByteArray} (h : GathAt w ga n evs) {j : Nat} (hj : j < n) : ∃ g cp, w.cell? ⟨ga, j, none⟩ = some (.slice (some ⟨g, 0, none⟩) (memberB evs j).length cp) ∧ BytesAt w (.slice (some ⟨g, 0, none⟩) (memberB evs j).length cp) (memberB evs j) := by
  obtain ⟨vs, h1, h2, h3⟩ := h
  have hjl : j < vs.length := by omega
  have hr := h3 j vs[j] (List.getElem?_eq_getElem hjl)
  have hpos : 0 < (memberB evs j).length := by unfold memberB encM encH; simp
  obtain ⟨g, cp, e⟩ : ∃ g cp, vs[j] = .slice (some ⟨g, 0, none⟩) (memberB evs j).length cp := by
    rcases hr.2 with ⟨_, h0⟩ | ⟨g, cp, cur, e, _⟩
    · omega
    · exact ⟨g, cp, e⟩
  refine ⟨g, cp, ?_, ?_⟩
  · rw [cell_of_row _ _ _ _ _ _ h2, ← e]; simp [hjl]
  · rw [← e]; exact BytesAt.of_owns hr

theorem conv_row2 (u : World) (l : List UInt8) (ad : Addr) (cp : Nat) (h : BytesAt u (.slice (some ad) l.length cp) l) : (convert 24 9 (.slice (some ad) l.length cp)).run Try.prog u = .ok (.string ⟨l.toArray⟩) u := by
  refine run_convert_bytes_back _ _ _ 5 _ _ l Try.underlying24 Try.underlying5 Try.underlying9 fun j hj => ?_
  obtain ⟨ao, cap, e, _, hc⟩ := h.cells
  simp only [Value.slice.injEq] at e
  obtain ⟨rfl, -, -⟩ := e
  obtain ⟨b, o, e, hcell⟩ := hc (by omega)
  cases e
  rw [show (⟨b, o, none⟩ : Addr).add j = ⟨b, o + j, none⟩ by unfold Addr.add; split <;> simp_all]
  exact hcell j hj

set_option maxRecDepth 100000 in
set_option maxHeartbeats 4000000 in
theorem rest16_ok (w : World) (b0 C B : Nat) (S L : Value) (evs : List ByteArray) (n ga : Nat) (h : SideAt w b0 C B S L evs) (h1 : 1 ≤ n) (h2 : n ≤ evs.length) (hl : evs.length ≤ 500) (hs : ∀ s ∈ evs, s.size ≤ 50) (hG : GathAt w ga n (evs.take n)) (Post : Ending → World → Prop) (hPost : ∀ w', Below w.heap.size w w' → Post (.returned (.tuple #[.slice (some ⟨ga, 0, none⟩) n n, .bool true])) w') :
    c16rest.wp Try.prog (bodyPost Try.prog Try.f16 Post) (px16 C B n (.slice (some ⟨ga, 0, none⟩) n n) 0) w := by
  have HV := version_side w b0 C B S L evs n h
  rw [decide_eq_true (show 1 ≤ (n : Int) ∧ (n : Int) ≤ (evs.length : Int) by omega)] at HV
  have HP : Hid _ := hPost
  have HH : Hid _ := h
  have HG : Hid _ := hG
  clear hPost h hG
  unfold c16rest px16 r16_2 r16_3 r16_4 r16_5 r16_6 r16_7 r16_8 r16_9 r16_10 r16_11 r16_12 r16_13
  go_wp2_with fail
  refine HV.mono ?_
  rintro e w' ⟨rfl, rfl⟩
  clear HV
  go_wp2_with fail
  refine (num_law _ _).mono ?_
  rintro e w' ⟨rfl, rfl⟩
  go_wp2
  go_loopw [9] (fun i wr => ∃ j : Nat, j ≤ n ∧ i = .int .i64 j ∧ Below w'.heap.size w' wr) (fun i _ => n - (intOf i).toNat)
  case atStart => exact ⟨0, Nat.zero_le _, rfl, Below.refl _ _⟩
  case round =>
    obtain ⟨j, hj, rfl, hb⟩ := hrel
    have hsz := hb.size
    by_cases hlt : j < n
    · have hji : (j : Int) < (n : Int) := by omega
      go_wp2_with fail
      refine (want_member wr b0 C B S L evs n j (HH.out.below hb) h1 h2 hlt hl hs).mono ?_
      rintro e w2 ⟨rfl, hb2⟩
      have hb3 := hb.trans (hb2.mono hsz)
      obtain ⟨g, cp, hc, hby⟩ := (GathAt.below HG.out hb3).at hlt
      have hcv := conv_row2 _ _ _ _ hby
      clear hby
      go_wp2
      go_roundw
      case rel => exact ⟨j + 1, by omega, by go_num, hb3⟩
      case measure => simp [intOf]; omega
    · have hje : j = n := by omega
      subst hje
      go_wp2
      exact HP.out _ hb
end Go.Proofs.Ytlndinigbppafaa
