/-
  The document's reader at any node: what it leaves is what the bytes say.
-/
import Derived.Test.YtpdjdaipijjeeaaScanH
namespace Go.Proofs.Ytpdjdaipijjeeaa
open Go.RowKit

theorem Frame2.wide {w w' : World} {B : Nat} {row : Option Nat} (h : Frame2 w w' B none) : Frame2 w w' B row := ⟨h.os, h.tape, h.output, h.size, fun k hk hB _ => h.block k hk hB (by simp)⟩
theorem get_none (s : ByteArray) (a : Nat) (h : s.size ≤ a) : s.data.toList[a]? = none := by
  rw [List.getElem?_eq_none]; rw [Array.length_toList]; exact h
theorem len_toList (s : ByteArray) : s.data.toList.length = s.size := by rw [Array.length_toList]; rfl
theorem extract_list (s : ByteArray) (i n : Nat) : s.extract i (i + n) = ⟨((s.data.toList.drop i).take n).toArray⟩ := by
  apply ByteArray.ext
  rw [ByteArray.data_extract]
  apply Array.ext'
  rw [Array.toList_extract]
  simp [List.extract]

/-- What a stub's two bytes come to. -/
theorem stub_out (s : ByteArray) (a : Nat) (q : Int) (ns : List PN) (rd : Except (Int × Nat) (List PN × Nat))
    (hrd : rd = match s.data.toList[a + 1]?, s.data.toList[a + 2]? with
        | some x, some y => .ok ([⟨0, num2 x y, ByteArray.empty⟩], a + 3)
        | _, _ => .error (5, s.data.toList.length)) :
    OutIs rd q ns (nuA s (a + 1) 0) (nuE s (a + 1) 0) (nuQ s (a + 1) 0 q) (ns ++ [⟨0, nuR s (a + 1) 0, ByteArray.empty⟩]) := by
  subst hrd
  by_cases h1 : a + 1 < s.size
  · obtain ⟨e1, e2, e3, e4⟩ := nx_ok s (a + 1) q h1
    unfold nuA nuE nuQ nuR
    rw [e1, e2, e3, e4, get_int s (a + 1) h1]
    by_cases h2 : a + 2 < s.size
    · obtain ⟨f1, f2, f3, f4⟩ := nx_ok s (a + 1 + 1) q h2
      rw [f1, f2, f3, f4, get_int s (a + 2) h2]
      exact ⟨rfl, rfl, rfl, rfl⟩
    · obtain ⟨f1, f2, f3, f4⟩ := nx_end s (a + 1 + 1) q (by omega)
      rw [f1, f2, f3, f4, get_none s (a + 2) (by omega)]
      exact ⟨by omega, rfl, by rw [len_toList], by simp⟩
  · obtain ⟨e1, e2, e3, e4⟩ := nx_end s (a + 1) q (by omega)
    obtain ⟨f1, f2, f3, f4⟩ := nx_err s (a + 1) 5 (s.size : Int) (by omega)
    unfold nuA nuE nuQ nuR
    rw [e1, e2, e3, e4, f1, f2, f3, f4, get_none s (a + 1) (by omega)]
    exact ⟨by omega, rfl, by rw [len_toList], by simp⟩

theorem encN_pos (x : PN) : 1 ≤ (encN x).length := by unfold encN; rw [List.length_cons]; omega
theorem encNs_pos (l : List PN) : l.length ≤ (encNs l).length := by
  induction l with
  | nil => exact Nat.zero_le _
  | cons x l ih => rw [encNs_cons, List.length_append, List.length_cons]; have := encN_pos x; omega

theorem node_any (s : ByteArray) (hs : s.size ≤ 4000) (b0 B : Nat) (q : Int) (k M N R : Int) (T : Value) : ∀ (d p a : Nat) (w : World) (V : Value) (ns : List PN), d ≤ 15 → p + pw d ≤ 65536 → ScanAt w b0 B s a 0 q V ns → b0 ≤ w.heap.size → ns.length ≤ a →
    Calls Try.prog 59 #[.pointer (some ⟨B, 0, none⟩), .agg #[.int .i64 k, .int .i64 M, .int .i64 N, .int .i64 R, T], .int .i64 p, .int .i64 d] w fun r w' => r = .returned (.tuple #[]) ∧ NodeOut w w' b0 B s q V ns (rdNode s.data.toList k M N d p a) := by
  have short : ∀ (d p a : Nat) (w : World) (V : Value) (ns : List PN), d ≤ 15 → p + pw d ≤ 65536 → ScanAt w b0 B s a 0 q V ns → s.size ≤ a →
      Calls Try.prog 59 #[.pointer (some ⟨B, 0, none⟩), .agg #[.int .i64 k, .int .i64 M, .int .i64 N, .int .i64 R, T], .int .i64 p, .int .i64 d] w fun r w' => r = .returned (.tuple #[]) ∧ NodeOut w w' b0 B s q V ns (.error (5, s.data.toList.length)) := fun d p a w V ns hd hp h ha =>
    (node_end w b0 B s a q V ns k M N R T p d h ha (by omega) (by omega)).mono fun r w' hr => ⟨hr.1, V, a, 5, s.size, ns, ⟨hr.2.2.wide, .inl rfl⟩, hr.2.1, by omega, rfl, by rw [len_toList], Nat.le_refl _⟩
  have shape : ∀ (d p a : Nat) (w : World) (V : Value) (ns : List PN), d ≤ 15 → p + pw d ≤ 65536 → ScanAt w b0 B s a 0 q V ns → (ha : a < s.size) → (s[a].toNat : Int) ≠ kindOf k M N p d →
      Calls Try.prog 59 #[.pointer (some ⟨B, 0, none⟩), .agg #[.int .i64 k, .int .i64 M, .int .i64 N, .int .i64 R, T], .int .i64 p, .int .i64 d] w fun r w' => r = .returned (.tuple #[]) ∧ NodeOut w w' b0 B s q V ns (.error (7, a)) := fun d p a w V ns hd hp h ha hk =>
    (node_shape w b0 B s a q V ns k M N R T p d h ha hk hs (by omega) (by omega)).mono fun r w' hr => ⟨hr.1, V, a + 1, 7, a, ns, ⟨hr.2.2.wide, .inl rfl⟩, hr.2.1, by omega, rfl, rfl, Nat.le_refl _⟩
  have stub : ∀ (d p a : Nat) (w : World) (V : Value) (ns : List PN), d ≤ 15 → p + pw d ≤ 65536 → ScanAt w b0 B s a 0 q V ns → b0 ≤ w.heap.size → ns.length ≤ a → (ha : a < s.size) → (s[a].toNat : Int) = kindOf k M N p d → kindOf k M N p d = 0 → ∀ rd, (rd = match s.data.toList[a + 1]?, s.data.toList[a + 2]? with
        | some x, some y => .ok ([⟨0, num2 x y, ByteArray.empty⟩], a + 3)
        | _, _ => .error (5, s.data.toList.length)) →
      Calls Try.prog 59 #[.pointer (some ⟨B, 0, none⟩), .agg #[.int .i64 k, .int .i64 M, .int .i64 N, .int .i64 R, T], .int .i64 p, .int .i64 d] w fun r w' => r = .returned (.tuple #[]) ∧ NodeOut w w' b0 B s q V ns rd := fun d p a w V ns hd hp h hb0 hn ha hk h0 rd hrd =>
    (node_stub w b0 B s a q V ns k M N R T p d h ha (by omega) h0 hs (by omega) (by omega) (by omega) hb0).mono fun r w' hr => by
      obtain ⟨h1, V', h2, h3⟩ := hr
      exact ⟨h1, V', _, _, _, _, h3, h2, stub_out s a q ns rd hrd⟩
  intro d
  induction d with
  | zero =>
    intro p a w V ns hd hp h hb0 hn
    rw [rdNode]
    by_cases ha : a < s.size
    · rw [get_int s a ha]
      dsimp only
      by_cases hk : (s[a].toNat : Int) = kindOf k M N p 0
      · rw [if_neg (by omega)]
        by_cases h0 : kindOf k M N p 0 = 0
        · rw [if_pos h0]
          exact stub 0 p a w V ns hd hp h hb0 hn ha hk h0 _ rfl
        · rw [if_neg h0]
          have h1 : kindOf k M N p 0 = 1 := by rcases kindOf_zero k M N p with h' | h' <;> omega
          by_cases hz : a + 1 < s.size
          · rw [get_int s (a + 1) hz]
            dsimp only
            by_cases hl : 50 < s[a + 1].toNat
            · rw [if_pos hl]
              exact (leaf_long w b0 B s a q V ns k M N R T p 0 h ha (by omega) h1 hs (by omega) (by omega) (by omega) hb0 hz hl).mono fun r w' hr => by
                obtain ⟨e1, V', e2, e3⟩ := hr
                exact ⟨e1, V', a + 2, 2, a, _, e3, e2, by omega, rfl, rfl, by simp⟩
            · rw [if_neg hl]
              by_cases hq : s.size < a + 2 + s[a + 1].toNat
              · rw [if_pos (by rw [len_toList]; exact hq)]
                exact (leaf_short2 w b0 B s a q V ns k M N R T p 0 h ha (by omega) h1 hs (by omega) (by omega) (by omega) hb0 hz (by omega) hq).mono fun r w' hr => by
                  obtain ⟨e1, V', e2, e3⟩ := hr
                  exact ⟨e1, V', a + 2, 5, s.size, _, e3, e2, by omega, rfl, by rw [len_toList], by simp⟩
              · rw [if_neg (by rw [len_toList]; exact hq)]
                exact (leaf_ok w b0 B s a q V ns k M N R T p 0 h ha (by omega) h1 hs (by omega) (by omega) (by omega) hb0 hz (by omega) (by omega)).mono fun r w' hr => by
                  obtain ⟨e1, V', e2, e3⟩ := hr
                  exact ⟨e1, V', _, _, _, _, e3, e2, rfl, rfl, rfl, by rw [extract_list s (a + 2) s[a + 1].toNat]⟩
          · rw [get_none s (a + 1) (by omega)]
            dsimp only
            exact (leaf_short w b0 B s a q V ns k M N R T p 0 h ha (by omega) h1 hs (by omega) (by omega) (by omega) hb0 (by omega)).mono fun r w' hr => by
              obtain ⟨e1, V', e2, e3⟩ := hr
              exact ⟨e1, V', a + 1, 5, s.size, _, e3, e2, by omega, rfl, by rw [len_toList], by simp⟩
      · rw [if_pos hk]
        exact shape 0 p a w V ns hd hp h ha hk
    · rw [get_none s a (by omega)]
      exact short 0 p a w V ns hd hp h (by omega)
  | succ d ih =>
    intro p a w V ns hd hp h hb0 hn
    have hpw := pw_succ d
    have hpp := pw_pos d
    rw [rdNode]
    by_cases ha : a < s.size
    · rw [get_int s a ha]
      dsimp only
      by_cases hk : (s[a].toNat : Int) = kindOf k M N p (d + 1)
      · rw [if_neg (by omega)]
        by_cases h0 : kindOf k M N p (d + 1) = 0
        · rw [if_pos h0]
          exact stub (d + 1) p a w V ns hd hp h hb0 hn ha hk h0 _ rfl
        · rw [if_neg h0]
          have ih1 := fun w V ns h hb0 hn => ih p (a + 1) w V ns (by omega) (by omega) h hb0 hn
          by_cases h2 : kindOf k M N p (d + 1) = 2
          · rw [if_pos h2]
            show Calls _ _ _ _ fun r w' => r = .returned (.tuple #[]) ∧ NodeOut w w' b0 B s q V ns (goTwo (rdNode s.data.toList k M N d p (a + 1)) (rdNode s.data.toList k M N d (p + pw d)))
            cases hr1 : rdNode s.data.toList k M N d p (a + 1) with
            | error y =>
              rw [hr1] at ih1
              exact two_bad w b0 B s a q V ns k M N R T p d _ y ih1 h ha (by omega) h2 hs (by omega) (by omega) hn hb0
            | ok z =>
              obtain ⟨l, a1⟩ := z
              rw [hr1] at ih1
              obtain ⟨_, t1, t2⟩ := rdNode_ok _ k M N d p (a + 1) l a1 hr1
              have t3 := encNs_pos l
              exact two_good w b0 B s a q V ns k M N R T p d _ l a1 (by omega) (fun w V ns h hb0 hn => ih (p + pw d) a1 w V ns (by omega) (by omega) h hb0 hn) ih1 h ha (by omega) h2 hs (by omega) (by omega) hn hb0
          · rw [if_neg h2]
            have h3 : kindOf k M N p (d + 1) = 3 := by rcases kindOf_succ k M N p d with h' | h' | h' <;> omega
            exact node_alone w b0 B s a q V ns k M N R T p d _ ih1 h ha (by omega) h3 hs (by omega) (by omega) hn hb0
      · rw [if_pos hk]
        exact shape (d + 1) p a w V ns hd hp h ha hk
    · rw [get_none s a (by omega)]
      exact short (d + 1) p a w V ns hd hp h (by omega)
end Go.Proofs.Ytpdjdaipijjeeaa
