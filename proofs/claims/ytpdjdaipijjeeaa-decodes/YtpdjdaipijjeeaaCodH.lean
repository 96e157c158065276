/-
  The walks of the program's Decode: the head by the document's words, and the message.
-/
import Derived.Test.YtpdjdaipijjeeaaCodG
namespace Go.Proofs.Ytpdjdaipijjeeaa
open Go.RowKit

/-- Reading behind the head. -/
def decK (l : List UInt8) (k M N R : Int) (a : Nat) : Except (Int × Nat) Msg :=
  match rdL l (kindsM k M N) a with
  | .error e => .error e
  | .ok (t, a') => if a' < l.length then .error (6, a') else .ok ⟨k, M, N, R, t⟩
theorem decK_T (l : List UInt8) (k M N R : Int) (a : Nat) (hk : k ≠ 1) : decT l k M N R a = decK l k M N R a := by
  unfold decT decK kindsM
  rw [if_neg hk, rdNode_kinds]
  cases rdL l (kindsL k M N (dep N.toNat) 0) a <;> rfl
theorem decK_1 (l : List UInt8) (N R : Int) (a : Nat) : decK l 1 0 N R a = if a < l.length then .error (6, a) else .ok ⟨1, 0, N, R, []⟩ := by
  unfold decK kindsM
  rw [if_pos rfl, rdL_nil]

/-- What the head gives. -/
def HeadD (l : List UInt8) (e : Ending) : Prop :=
  (∃ (f : Int) (q : Nat) (k M N R p : Int), f ≠ 0 ∧ e = .returned (.tuple #[.agg #[.int .i64 k, .int .i64 M, .int .i64 N, .int .i64 R, .slice none 0 0], .int .i64 p, .agg #[.int .i64 f, .int .i64 q]]) ∧ decS l = .error (f, q)) ∨
  (∃ (k M N R : Int) (a : Nat), (k = 1 ∨ k = 2 ∨ k = 3) ∧ 1 ≤ N ∧ N ≤ 500 ∧ a ≤ l.length ∧ e = .returned (.tuple #[.agg #[.int .i64 k, .int .i64 M, .int .i64 N, .int .i64 R, .slice none 0 0], .int .i64 a, .agg #[.int .i64 0, .int .i64 0]]) ∧ decS l = decK l k M N R a)

theorem numP_at (l : List UInt8) (a : Nat) (h0 : 1 ≤ a) (h : a + 2 ≤ l.length) : numP l (a : Nat) = num2 l[a] l[a + 1] := by
  unfold numP
  rw [if_neg (by omega), Int.toNat_natCast]
  simp only [List.getD_eq_getElem?_getD]
  rw [List.getElem?_eq_getElem (by omega), List.getElem?_eq_getElem (by omega)]
  rfl

theorem head_dec (v : Value) (l : List UInt8) (w : World) (hv : BytesC w v l) (hl : l.length ≤ 4000) :
    Calls Try.prog 81 #[v] w fun e w' => HeadD l e ∧ Below w.heap.size w w' := by
  by_cases h1 : 1 ≤ l.length
  · have hb := l[0].toNat_lt
    by_cases k1 : (l[0].toNat : Int) = 1
    · by_cases h5 : 5 ≤ l.length
      · have n1 : numP l 1 = num2 l[1] l[2] := numP_at l 1 (by omega) (by omega)
        have n3 : numP l 3 = num2 l[3] l[4] := numP_at l 3 (by omega) (by omega)
        have n0 : numP l 0 = 0 := rfl
        have hd := decS_1 l h5 hl k1
        rw [dec1G] at hd
        by_cases hN : num2 l[1] l[2] < 1 ∨ (500 : Int) < num2 l[1] l[2]
        · rw [if_pos hN] at hd
          refine (head_any v l w hv hl h1 1 0 1 3 5 1 1 k1 (by omega) (.inl rfl) (.inr ⟨by omega, by omega⟩) (.inr ⟨by omega, by omega⟩) (fun w => layout_1 w) (fun T w => chk_n 1 _ _ _ 0 1 3 5 T w (by rw [n1]; exact hN))).mono fun e w' h => ⟨.inl ⟨1, 1, _, _, _, _, _, by decide, h.1, hd⟩, h.2⟩
        · rw [if_neg hN] at hd
          refine (head_any v l w hv hl h1 1 0 1 3 5 0 0 k1 (by omega) (.inl rfl) (.inr ⟨by omega, by omega⟩) (.inr ⟨by omega, by omega⟩) (fun w => layout_1 w) (fun T w => chk_1 _ _ _ 0 1 3 5 T w (by rw [n1]; omega) (by rw [n1]; omega))).mono fun e w' h => ⟨.inr ⟨1, 0, num2 l[1] l[2], num2 l[3] l[4], 5, .inl rfl, by omega, by omega, h5, ?_, ?_⟩, h.2⟩
          · rw [h.1, n0, n1, n3]; rfl
          · rw [hd, decK_1]
      · refine (head_short v l w hv h1 1 0 1 3 5 k1 (by omega) (fun w => layout_1 w)).mono fun e w' h => ⟨.inl ⟨5, l.length, _, _, _, _, _, by decide, h.1, decS_1s l (by omega) k1 (by omega)⟩, h.2⟩
    · by_cases k2 : (l[0].toNat : Int) = 2
      · by_cases h7 : 7 ≤ l.length
        · have n1 : numP l 1 = num2 l[1] l[2] := numP_at l 1 (by omega) (by omega)
          have n3 : numP l 3 = num2 l[3] l[4] := numP_at l 3 (by omega) (by omega)
          have n5 : numP l 5 = num2 l[5] l[6] := numP_at l 5 (by omega) (by omega)
          have hd := decS_2 l h7 hl k2
          rw [dec2G] at hd
          by_cases hN : num2 l[3] l[4] < 1 ∨ (500 : Int) < num2 l[3] l[4]
          · rw [if_pos hN] at hd
            refine (head_any v l w hv hl h1 2 1 3 5 7 1 3 k2 (by omega) (.inr ⟨by omega, by omega⟩) (.inr ⟨by omega, by omega⟩) (.inr ⟨by omega, by omega⟩) (fun w => layout_2 w) (fun T w => chk_n 2 _ _ _ 1 3 5 7 T w (by rw [n3]; exact hN))).mono fun e w' h => ⟨.inl ⟨1, 3, _, _, _, _, _, by decide, h.1, hd⟩, h.2⟩
          · rw [if_neg hN] at hd
            by_cases hM1 : num2 l[1] l[2] < 1
            · rw [if_pos (.inl hM1)] at hd
              refine (head_any v l w hv hl h1 2 1 3 5 7 1 1 k2 (by omega) (.inr ⟨by omega, by omega⟩) (.inr ⟨by omega, by omega⟩) (.inr ⟨by omega, by omega⟩) (fun w => layout_2 w) (fun T w => chk_2a _ _ _ 1 3 5 7 T w (by rw [n3]; omega) (by rw [n3]; omega) (by rw [n1]; omega))).mono fun e w' h => ⟨.inl ⟨1, 1, _, _, _, _, _, by decide, h.1, hd⟩, h.2⟩
            · by_cases hM2 : num2 l[3] l[4] < num2 l[1] l[2]
              · rw [if_pos (.inr hM2)] at hd
                refine (head_any v l w hv hl h1 2 1 3 5 7 1 1 k2 (by omega) (.inr ⟨by omega, by omega⟩) (.inr ⟨by omega, by omega⟩) (.inr ⟨by omega, by omega⟩) (fun w => layout_2 w) (fun T w => chk_2b _ _ _ 1 3 5 7 T w (by rw [n3]; omega) (by rw [n3]; omega) (by rw [n1]; omega) (by rw [n1, n3]; omega))).mono fun e w' h => ⟨.inl ⟨1, 1, _, _, _, _, _, by decide, h.1, hd⟩, h.2⟩
              · rw [if_neg (by omega)] at hd
                refine (head_any v l w hv hl h1 2 1 3 5 7 0 0 k2 (by omega) (.inr ⟨by omega, by omega⟩) (.inr ⟨by omega, by omega⟩) (.inr ⟨by omega, by omega⟩) (fun w => layout_2 w) (fun T w => chk_2 _ _ _ 1 3 5 7 T w (by rw [n3]; omega) (by rw [n3]; omega) (by rw [n1]; omega) (by rw [n1, n3]; omega))).mono fun e w' h => ⟨.inr ⟨2, num2 l[1] l[2], num2 l[3] l[4], num2 l[5] l[6], 7, .inr (.inl rfl), by omega, by omega, h7, ?_, ?_⟩, h.2⟩
                · rw [h.1, n1, n3, n5]; rfl
                · rw [hd, decK_T _ _ _ _ _ _ (by decide)]
        · refine (head_short v l w hv h1 2 1 3 5 7 k2 (by omega) (fun w => layout_2 w)).mono fun e w' h => ⟨.inl ⟨5, l.length, _, _, _, _, _, by decide, h.1, decS_2s l (by omega) k2 (by omega)⟩, h.2⟩
      · by_cases k3 : (l[0].toNat : Int) = 3
        · by_cases h5 : 5 ≤ l.length
          · have n1 : numP l 1 = num2 l[1] l[2] := numP_at l 1 (by omega) (by omega)
            have n3 : numP l 3 = num2 l[3] l[4] := numP_at l 3 (by omega) (by omega)
            have n0 : numP l 0 = 0 := rfl
            have hd := decS_3 l h5 hl k3
            rw [dec3G] at hd
            by_cases hN : num2 l[3] l[4] < 1 ∨ (500 : Int) < num2 l[3] l[4]
            · rw [if_pos hN] at hd
              refine (head_any v l w hv hl h1 3 1 3 0 5 1 3 k3 (by omega) (.inr ⟨by omega, by omega⟩) (.inr ⟨by omega, by omega⟩) (.inl rfl) (fun w => layout_3 w) (fun T w => chk_n 3 _ _ _ 1 3 0 5 T w (by rw [n3]; exact hN))).mono fun e w' h => ⟨.inl ⟨1, 3, _, _, _, _, _, by decide, h.1, hd⟩, h.2⟩
            · rw [if_neg hN] at hd
              by_cases hM1 : num2 l[3] l[4] ≤ num2 l[1] l[2]
              · rw [if_pos hM1] at hd
                refine (head_any v l w hv hl h1 3 1 3 0 5 1 1 k3 (by omega) (.inr ⟨by omega, by omega⟩) (.inr ⟨by omega, by omega⟩) (.inl rfl) (fun w => layout_3 w) (fun T w => chk_3a _ _ _ 1 3 0 5 T w (by rw [n3]; omega) (by rw [n3]; omega) (by rw [n1, n3]; omega))).mono fun e w' h => ⟨.inl ⟨1, 1, _, _, _, _, _, by decide, h.1, hd⟩, h.2⟩
              · rw [if_neg hM1] at hd
                refine (head_any v l w hv hl h1 3 1 3 0 5 0 0 k3 (by omega) (.inr ⟨by omega, by omega⟩) (.inr ⟨by omega, by omega⟩) (.inl rfl) (fun w => layout_3 w) (fun T w => chk_3 _ _ _ 1 3 0 5 T w (by rw [n3]; omega) (by rw [n3]; omega) (by rw [n1, n3]; omega))).mono fun e w' h => ⟨.inr ⟨3, num2 l[1] l[2], num2 l[3] l[4], 0, 5, .inr (.inr rfl), by omega, by omega, h5, ?_, ?_⟩, h.2⟩
                · rw [h.1, n0, n1, n3]; rfl
                · rw [hd, decK_T _ _ _ _ _ _ (by decide)]
          · refine (head_short v l w hv h1 3 1 3 0 5 k3 (by omega) (fun w => layout_3 w)).mono fun e w' h => ⟨.inl ⟨5, l.length, _, _, _, _, _, by decide, h.1, decS_3s l (by omega) k3 (by omega)⟩, h.2⟩
        · refine (head_bad v l w hv h1 _ rfl (by omega)).mono fun e w' h => ⟨.inl ⟨4, 0, _, _, _, _, _, by decide, h.1, decS_kind l (by omega) hl (by omega)⟩, h.2⟩
  · have e0 : l = [] := List.eq_nil_of_length_eq_zero (by omega)
    subst e0
    refine (head_nil v w hv).mono fun e w' h => ⟨.inl ⟨5, 0, _, _, _, _, _, by decide, h.1, rfl⟩, h.2⟩

theorem kindsOf_any (k M N R : Int) (T : Value) (w : World) (hk : k = 1 ∨ k = 2 ∨ k = 3) (h1 : 1 ≤ N) (hN : N ≤ 500) :
    Calls Try.prog 83 #[.agg #[.int .i64 k, .int .i64 M, .int .i64 N, .int .i64 R, T]] w fun e w' => ∃ v', e = .returned v' ∧ IntsAt w' v' (kindsM k M N) ∧ Below w.heap.size w w' := by
  have eN : N = ((N.toNat : Nat) : Int) := by omega
  unfold kindsM
  rcases hk with rfl | rfl | rfl
  · rw [if_pos rfl]
    exact kindsOf_1 M N R T w
  · rw [if_neg (by decide)]
    have := kindsOf_2 M R N.toNat T w (by omega) (by omega)
    rw [← eN] at this
    exact this
  · rw [if_neg (by decide)]
    have := kindsOf_3 M R N.toNat T w (by omega) (by omega)
    rw [← eN] at this
    exact this
theorem kindsM_small (k M N : Int) : ∀ x ∈ kindsM k M N, 0 ≤ x ∧ x ≤ 3 := by
  unfold kindsM
  split
  · intro x hx; cases hx
  · exact kindsL_small k M N _ 0
theorem kindsM_len (k M N : Int) (hN : N ≤ 500) : (kindsM k M N).length ≤ 100000 := by
  unfold kindsM
  split
  · simp
  · have h1 := kindsL_len k M N (dep N.toNat) 0
    have h2 : pw (dep N.toNat) ≤ 512 := pw_le (e := 9) (dep_500 N hN)
    omega
end Go.Proofs.Ytpdjdaipijjeeaa
