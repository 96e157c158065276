/-
  Reading a message's nodes one by one, against a list of kinds: the same as reading them as a tree.
-/
import Derived.Test.YtlndinigbppafaaGreatDec
namespace Go.Proofs.YtlndinigbppafaaGreat

/-- One node of the kind k is read from place a on. -/
def rd1 (s : List UInt8) (k : Int) (a : Nat) : Except (Int × Nat) (PN × Nat) :=
  match s[a]? with
  | none => .error (5, s.length)
  | some c =>
    if (c.toNat : Int) ≠ k then .error (7, a)
    else if k = 0 then
      match s[a + 1]?, s[a + 2]? with
      | some x, some y => .ok (⟨0, num2 x y, ByteArray.empty⟩, a + 3)
      | _, _ => .error (5, s.length)
    else if k = 1 then
      match s[a + 1]? with
      | none => .error (5, s.length)
      | some z => if 50 < z.toNat then .error (2, a) else if s.length < a + 2 + z.toNat then .error (5, s.length) else .ok (⟨1, 0, ⟨((s.drop (a + 2)).take z.toNat).toArray⟩⟩, a + 2 + z.toNat)
    else .ok (⟨k, 0, ByteArray.empty⟩, a + 1)

/-- Nodes of these kinds are read. -/
def rdL (s : List UInt8) : List Int → Nat → Except (Int × Nat) (List PN × Nat)
  | [], a => .ok ([], a)
  | k :: ks, a =>
    match rd1 s k a with
    | .error e => .error e
    | .ok (x, a') =>
      match rdL s ks a' with
      | .error e => .error e
      | .ok (l, b) => .ok (x :: l, b)

/-- The kinds of the nodes of a proof, from the node at p of depth d on. -/
def kindsL (k M N : Int) : Nat → Nat → List Int
  | 0, p => [kindOf k M N p 0]
  | d + 1, p =>
    if kindOf k M N p (d + 1) = 0 then [0]
    else if kindOf k M N p (d + 1) = 2 then 2 :: (kindsL k M N d p ++ kindsL k M N d (p + pw d))
    else 3 :: kindsL k M N d p

theorem rdL_nil (s : List UInt8) (a : Nat) : rdL s [] a = .ok ([], a) := rfl
theorem rdL_cons (s : List UInt8) (k : Int) (ks : List Int) (a : Nat) : rdL s (k :: ks) a =
    match rd1 s k a with
    | .error e => .error e
    | .ok (x, a') =>
      match rdL s ks a' with
      | .error e => .error e
      | .ok (l, b) => .ok (x :: l, b) := rfl
theorem rdL_append (s : List UInt8) (ks ls : List Int) (a : Nat) : rdL s (ks ++ ls) a =
    match rdL s ks a with
    | .error e => .error e
    | .ok (l, b) =>
      match rdL s ls b with
      | .error e => .error e
      | .ok (r, c) => .ok (l ++ r, c) := by
  induction ks generalizing a with
  | nil =>
    rw [List.nil_append, rdL_nil]
    simp only
    cases rdL s ls a with
    | error e => rfl
    | ok v => rfl
  | cons k ks ih =>
    rw [List.cons_append, rdL_cons, rdL_cons]
    cases rd1 s k a with
    | error e => rfl
    | ok v =>
      simp only
      rw [ih]
      cases rdL s ks v.2 with
      | error e => rfl
      | ok u =>
        simp only
        cases rdL s ls u.2 with
        | error e => rfl
        | ok t => rfl

theorem rdNode_kinds (s : List UInt8) (k M N : Int) (d p a : Nat) : rdNode s k M N d p a = rdL s (kindsL k M N d p) a := by
  induction d generalizing p a with
  | zero =>
    rw [show kindsL k M N 0 p = [kindOf k M N p 0] from rfl, rdL_cons]
    unfold rdNode rd1
    cases hs : s[a]? with
    | none => rfl
    | some c =>
      simp only
      by_cases h0 : (c.toNat : Int) ≠ kindOf k M N p 0
      · rw [if_pos h0, if_pos h0]
      · rw [if_neg h0, if_neg h0]
        rcases kindOf_zero k M N p with hk | hk
        · rw [if_pos hk, if_pos hk]
          cases s[a + 1]? <;> cases s[a + 2]? <;> rfl
        · rw [if_neg (by omega), if_neg (by omega), if_pos hk]
          cases s[a + 1]? with
          | none => rfl
          | some z =>
            simp only
            by_cases h1 : 50 < z.toNat
            · rw [if_pos h1, if_pos h1]
            · rw [if_neg h1, if_neg h1]
              by_cases h2 : s.length < a + 2 + z.toNat
              · rw [if_pos h2, if_pos h2]
              · rw [if_neg h2, if_neg h2]; rfl
  | succ d ih =>
    unfold rdNode
    rcases kindOf_succ k M N p d with hk | hk | hk
    · have e : kindsL k M N (d + 1) p = [0] := by unfold kindsL; rw [if_pos hk]
      rw [e, hk, rdL_cons]
      unfold rd1
      cases hs : s[a]? with
      | none => rfl
      | some c =>
        simp only
        by_cases h0 : (c.toNat : Int) ≠ 0
        · rw [if_pos h0, if_pos h0]
        · rw [if_neg h0, if_neg h0, if_pos trivial, if_pos trivial]
          cases s[a + 1]? <;> cases s[a + 2]? <;> rfl
    · have e : kindsL k M N (d + 1) p = 2 :: (kindsL k M N d p ++ kindsL k M N d (p + pw d)) := by
        rw [kindsL, if_neg (by omega), if_pos hk]
      rw [e, hk, rdL_cons]
      unfold rd1
      cases hs : s[a]? with
      | none => rfl
      | some c =>
        simp only
        by_cases h0 : (c.toNat : Int) ≠ 2
        · rw [if_pos h0, if_pos h0]
        · rw [if_neg h0, if_neg h0, if_neg (by omega), if_pos trivial, if_neg (by omega), if_neg (by omega), ih]
          simp only [rdL_append]
          cases rdL s (kindsL k M N d p) (a + 1) with
          | error e => rfl
          | ok v =>
            simp only
            rw [ih]
            cases rdL s (kindsL k M N d (p + pw d)) v.2 with
            | error e => rfl
            | ok u => rfl
    · have e : kindsL k M N (d + 1) p = 3 :: kindsL k M N d p := by
        rw [kindsL, if_neg (by omega), if_neg (by omega)]
      rw [e, hk, rdL_cons]
      unfold rd1
      cases hs : s[a]? with
      | none => rfl
      | some c =>
        simp only
        by_cases h0 : (c.toNat : Int) ≠ 3
        · rw [if_pos h0, if_pos h0]
        · rw [if_neg h0, if_neg h0, if_neg (by omega), if_neg (by omega), if_neg (by omega), if_neg (by omega), ih]
          simp only
          cases rdL s (kindsL k M N d p) (a + 1) with
          | error e => rfl
          | ok v => rfl

theorem kindsL_len (k M N : Int) (d p : Nat) : 1 ≤ (kindsL k M N d p).length ∧ (kindsL k M N d p).length + 1 ≤ 2 * pw d := by
  induction d generalizing p with
  | zero => unfold kindsL; simp [pw]
  | succ d ih =>
    have h1 := ih p
    have h2 := ih (p + pw d)
    have h3 := pw_succ d
    have h4 := pw_pos d
    unfold kindsL
    split
    · simp; omega
    · split
      · simp; omega
      · simp; omega

theorem kindsL_small (k M N : Int) (d p : Nat) : ∀ x ∈ kindsL k M N d p, 0 ≤ x ∧ x ≤ 3 := by
  induction d generalizing p with
  | zero =>
    unfold kindsL
    intro x hx
    rw [List.mem_singleton] at hx
    rcases kindOf_zero k M N p with h | h <;> omega
  | succ d ih =>
    unfold kindsL
    intro x hx
    split at hx
    · rw [List.mem_singleton] at hx; omega
    · split at hx
      · rcases List.mem_cons.1 hx with h | h
        · omega
        · rcases List.mem_append.1 h with h | h
          · exact ih p x h
          · exact ih _ x h
      · rcases List.mem_cons.1 hx with h | h
        · omega
        · exact ih p x h
end Go.Proofs.YtlndinigbppafaaGreat
