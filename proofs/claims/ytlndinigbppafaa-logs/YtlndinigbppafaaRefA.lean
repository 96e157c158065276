/-
  The walks of the document's small functions: power, Depth, Two, kind.
-/
import Derived.Test.YtlndinigbppafaaJ40
import Derived.Test.YtlndinigbppafaaJ40
import Derived.BigQuiet
namespace Go.Proofs.Ytlndinigbppafaa
open Go.RowKit

set_option maxHeartbeats 400000 in
theorem power_any (d : Nat) (w : World) (hd : d ≤ 62) :
    Calls Try.prog 49 #[.int .i64 d] w fun e w' => e = .returned (.int .i64 (pw d)) ∧ w' = w := by
  go_enter Try.func49, Try.ntmps49
  go_wp2
  go_loop [0, 3] (fun i v => ∃ k : Nat, k ≤ d ∧ i = .int .i64 (d - k : Nat) ∧ v = .int .i64 (pw k)) (fun i _ => (intOf i).toNat)
  case atStart => exact ⟨0, Nat.zero_le _, by simp, rfl⟩
  case round =>
    obtain ⟨k, hk, rfl, rfl⟩ := hrel
    have HP : Hid (pw (k + 1) = 2 * pw k) := pw_succ k
    by_cases hlt : k < d
    · have hp2 : pw k ≤ 2305843009213693952 := pw_le (show k ≤ 61 by omega)
      go_wp2
      go_round
      case rel => exact ⟨k + 1, by omega, by go_num, by rw [HP.out]; go_num⟩
      case measure => simp [intOf]; omega
    · have : k = d := by omega
      subst this
      go_wp2
      go_ret
      exact ⟨rfl, rfl⟩

set_option maxHeartbeats 400000 in
theorem depth_any (n : Nat) (w : World) (hn : n ≤ 4611686018427387904) :
    Calls Try.prog 34 #[.int .i64 n] w fun e w' => e = .returned (.int .i64 (dep n)) ∧ w' = w := by
  have hle := dep_le n 62 (by rw [pw_62]; exact hn)
  go_enter Try.func34, Try.ntmps34
  go_wp2
  go_loop [3] (fun i => ∃ k : Nat, k ≤ dep n ∧ i = .int .i64 k) (fun i => dep n - (intOf i).toNat)
  case atStart => exact ⟨0, Nat.zero_le _, rfl⟩
  case round =>
    obtain ⟨k, hk, rfl⟩ := hrel
    by_cases hlt : k < dep n
    · have h2 := dep_least n k hlt
      go_wp2_with (go_at_call 49; refine (power_any k _ (by omega)).mono ?_; rintro e w' ⟨rfl, rfl⟩)
      go_round
      case rel => exact ⟨k + 1, by omega, by go_num⟩
      case measure => simp [intOf]; omega
    · have he : k = dep n := by omega
      have h1 := dep_spec n
      rw [← he] at h1
      have HE : Hid (k = dep n) := he
      clear he
      go_wp2_with (go_at_call 49; refine (power_any k _ (by omega)).mono ?_; rintro e w' ⟨rfl, rfl⟩)
      go_ret
      exact ⟨ret_int (by rw [HE.out]), rfl⟩

theorem add0' (b j : Nat) : ((⟨b, 0, none⟩ : Addr).add j) = ⟨b, j, none⟩ := by
  unfold Addr.add; split <;> simp_all

/-- 'string(..)' of a new row of bytes. -/
theorem conv_new (u : World) (l : List UInt8) :
    (convert 24 9 (.slice (some ⟨u.heap.size, 0, none⟩) l.length l.length)).run Try.prog (u.alloc (.cells (l.map fun b => Value.int .u8 b.toNat).toArray 5)) = .ok (.string ⟨l.toArray⟩) (u.alloc (.cells (l.map fun b => Value.int .u8 b.toNat).toArray 5)) := by
  refine run_convert_bytes_back _ _ _ 5 _ _ l Try.underlying24 Try.underlying5 Try.underlying9 fun j hj => ?_
  rw [show ((⟨u.heap.size, 0, none⟩ : Addr).add j) = ⟨u.heap.size, j, none⟩ from add0' u.heap.size j, World.cell?_alloc_mark]
  simp [hj]
theorem conv_two (u : World) (x y : Int) (h0 : 0 ≤ x) (h1 : x ≤ 255) (h2 : 0 ≤ y) (h3 : y ≤ 255) :
    (convert 24 9 (.slice (some ⟨u.heap.size, 0, none⟩) 2 2)).run Try.prog (u.alloc (.cells #[.int .u8 x, .int .u8 y] 5)) = .ok (.string ⟨#[b8 x, b8 y]⟩) (u.alloc (.cells #[.int .u8 x, .int .u8 y] 5)) := by
  have := conv_new u [b8 x, b8 y]
  simpa only [List.map_cons, List.map_nil, b8_nat x h0 h1, b8_nat y h2 h3, List.length_cons, List.length_nil] using this
theorem conv_one (u : World) (x : Int) (h0 : 0 ≤ x) (h1 : x ≤ 255) :
    (convert 24 9 (.slice (some ⟨u.heap.size, 0, none⟩) 1 1)).run Try.prog (u.alloc (.cells #[.int .u8 x] 5)) = .ok (.string ⟨#[b8 x]⟩) (u.alloc (.cells #[.int .u8 x] 5)) := by
  have := conv_new u [b8 x]
  simpa only [List.map_cons, List.map_nil, b8_nat x h0 h1, List.length_cons, List.length_nil] using this

/-- The same, as rules for the walk: the block by its number. -/
theorem conv_one_at (b : Nat) (u : World) (x : Int) (hb : b = u.heap.size) (h0 : 0 ≤ x) (h1 : x ≤ 255) :
    (convert 24 9 (.slice (some ⟨b, 0, none⟩) 1 1)).run Try.prog (u.alloc (.cells #[.int .u8 x] 5)) = .ok (.string ⟨#[b8 x]⟩) (u.alloc (.cells #[.int .u8 x] 5)) := by
  subst hb; exact conv_one u x h0 h1
theorem conv_two_at (b : Nat) (u : World) (x y : Int) (hb : b = u.heap.size) (h0 : 0 ≤ x) (h1 : x ≤ 255) (h2 : 0 ≤ y) (h3 : y ≤ 255) :
    (convert 24 9 (.slice (some ⟨b, 0, none⟩) 2 2)).run Try.prog (u.alloc (.cells #[.int .u8 x, .int .u8 y] 5)) = .ok (.string ⟨#[b8 x, b8 y]⟩) (u.alloc (.cells #[.int .u8 x, .int .u8 y] 5)) := by
  subst hb; exact conv_two u x y h0 h1 h2 h3

set_option maxRecDepth 100000 in
set_option maxHeartbeats 400000 in
theorem two_any (n : Int) (w : World) (h0 : 0 ≤ n) (h1 : n ≤ 65535) :
    Calls Try.prog 50 #[.int .i64 n] w fun e w' => e = .returned (.string ⟨(two8 n).toArray⟩) ∧ w' = w.alloc (.cells #[.int .u8 (n / 256 % 256), .int .u8 (n % 256)] 5) := by
  have hc := conv_two w (n / 256 % 256) (n % 256) (by omega) (by omega) (by omega) (by omega)
  go_enter Try.func50, Try.ntmps50
  go_wp2
  go_ret
  exact ⟨rfl, rfl⟩

theorem kindOf_eq (k M N : Int) (p d : Nat) (P : Int) (hP : (pw d : Int) = P) : kindOf k M N p d =
    if (if k = 2 then ((p : Int) + P ≤ M ∨ M ≤ p) else (M < p ∨ (p : Int) + P ≤ M)) then 0 else if (d : Int) = 0 then 1 else if (p : Int) + P / 2 < N then 2 else 3 := by
  subst hP
  unfold kindOf
  by_cases hd : d = 0
  · subst hd; simp
  · have h := pw_half d (by omega)
    have e : (pw d : Int) / 2 = (pw (d - 1) : Int) := by omega
    have hd' : ¬ (d : Int) = 0 := by omega
    rw [if_neg hd, if_neg hd', e]

set_option maxRecDepth 100000 in
set_option maxHeartbeats 1000000 in
theorem kind_any (k M N R : Int) (T : Value) (p d : Nat) (w : World) (hd : d ≤ 16) (hp : p ≤ 1000000) :
    Calls Try.prog 68 #[.agg #[.int .i64 k, .int .i64 M, .int .i64 N, .int .i64 R, T], .int .i64 p, .int .i64 d] w fun e w' => e = .returned (.int .i64 (kindOf k M N p d)) ∧ Below w.heap.size w w' := by
  have h16 : pw d ≤ 65536 := pw_le (e := 16) hd
  obtain ⟨P, hP⟩ : ∃ P, P = pw d := ⟨_, rfl⟩
  have HK : Hid (kindOf k M N p d = _) := kindOf_eq k M N p d P (by rw [hP])
  have HP : Hid (P = pw d) := hP
  rw [← hP] at h16
  clear hP
  have pa : ∀ w, Calls Try.prog 49 #[.int .i64 d] w fun e w' => e = .returned (.int .i64 P) ∧ w' = w := fun w => by rw [HP.out]; exact power_any d w (by omega)
  have PA := Hid.out (show Hid _ from pa)
  by_cases hk : k = 2
  · have hkb : (k == 2) = true := by simp [hk]
    have HK2 : Hid (k = 2) := hk
    clear hk
    by_cases ha : (p : Int) + P ≤ M
    · go_enter Try.func68, Try.ntmps68
      go_wp2_with (go_at_call 49; refine (PA _).mono ?_; rintro e w' ⟨rfl, rfl⟩)
      go_ret
      exact ⟨ret_int (by rw [HK.out]; rw [if_pos (by rw [if_pos HK2.out]; exact .inl ha)]), (Below.refl _ _).alloc (Nat.le_refl _) _⟩
    · by_cases hb : M ≤ p
      · go_enter Try.func68, Try.ntmps68
        go_wp2_with (go_at_call 49; refine (PA _).mono ?_; rintro e w' ⟨rfl, rfl⟩)
        go_ret
        exact ⟨ret_int (by rw [HK.out]; rw [if_pos (by rw [if_pos HK2.out]; exact .inr hb)]), (Below.refl _ _).alloc (Nat.le_refl _) _⟩
      · by_cases hd0 : (d : Int) = 0
        · have hdb : ((d : Int) == 0) = true := by simp [hd0]
          have HD : Hid ((d : Int) = 0) := hd0
          clear hd0
          go_enter Try.func68, Try.ntmps68
          go_wp2_with (go_at_call 49; refine (PA _).mono ?_; rintro e w' ⟨rfl, rfl⟩)
          go_ret
          exact ⟨ret_int (by rw [HK.out]; rw [if_neg (by simp [HK2.out]; omega), if_pos HD.out]), (Below.refl _ _).alloc (Nat.le_refl _) _⟩
        · have hdb : ((d : Int) == 0) = false := beq_eq_false_iff_ne.2 hd0
          by_cases hc : (p : Int) + P / 2 < N
          · go_enter Try.func68, Try.ntmps68
            go_wp2_with (go_at_call 49; refine (PA _).mono ?_; rintro e w' ⟨rfl, rfl⟩)
            go_ret
            exact ⟨ret_int (by rw [HK.out]; rw [if_neg (by simp [HK2.out]; omega), if_neg hd0, if_pos hc]), (Below.refl _ _).alloc (Nat.le_refl _) _⟩
          · go_enter Try.func68, Try.ntmps68
            go_wp2_with (go_at_call 49; refine (PA _).mono ?_; rintro e w' ⟨rfl, rfl⟩)
            go_ret
            exact ⟨ret_int (by rw [HK.out]; rw [if_neg (by simp [HK2.out]; omega), if_neg hd0, if_neg (by omega)]), (Below.refl _ _).alloc (Nat.le_refl _) _⟩
  · have hkb : (k == 2) = false := by simp [hk]
    have HK2 : Hid (¬ k = 2) := hk
    clear hk
    by_cases ha : M < p
    · go_enter Try.func68, Try.ntmps68
      go_wp2_with (go_at_call 49; refine (PA _).mono ?_; rintro e w' ⟨rfl, rfl⟩)
      go_ret
      exact ⟨ret_int (by rw [HK.out]; rw [if_pos (by rw [if_neg HK2.out]; exact .inl ha)]), (Below.refl _ _).alloc (Nat.le_refl _) _⟩
    · by_cases hb : (p : Int) + P ≤ M
      · go_enter Try.func68, Try.ntmps68
        go_wp2_with (go_at_call 49; refine (PA _).mono ?_; rintro e w' ⟨rfl, rfl⟩)
        go_ret
        exact ⟨ret_int (by rw [HK.out]; rw [if_pos (by rw [if_neg HK2.out]; exact .inr hb)]), (Below.refl _ _).alloc (Nat.le_refl _) _⟩
      · by_cases hd0 : (d : Int) = 0
        · have hdb : ((d : Int) == 0) = true := by simp [hd0]
          have HD : Hid ((d : Int) = 0) := hd0
          clear hd0
          go_enter Try.func68, Try.ntmps68
          go_wp2_with (go_at_call 49; refine (PA _).mono ?_; rintro e w' ⟨rfl, rfl⟩)
          go_ret
          exact ⟨ret_int (by rw [HK.out]; rw [if_neg (by simp [HK2.out]; omega), if_pos HD.out]), (Below.refl _ _).alloc (Nat.le_refl _) _⟩
        · have hdb : ((d : Int) == 0) = false := beq_eq_false_iff_ne.2 hd0
          by_cases hc : (p : Int) + P / 2 < N
          · go_enter Try.func68, Try.ntmps68
            go_wp2_with (go_at_call 49; refine (PA _).mono ?_; rintro e w' ⟨rfl, rfl⟩)
            go_ret
            exact ⟨ret_int (by rw [HK.out]; rw [if_neg (by simp [HK2.out]; omega), if_neg hd0, if_pos hc]), (Below.refl _ _).alloc (Nat.le_refl _) _⟩
          · go_enter Try.func68, Try.ntmps68
            go_wp2_with (go_at_call 49; refine (PA _).mono ?_; rintro e w' ⟨rfl, rfl⟩)
            go_ret
            exact ⟨ret_int (by rw [HK.out]; rw [if_neg (by simp [HK2.out]; omega), if_neg hd0, if_neg (by omega)]), (Below.refl _ _).alloc (Nat.le_refl _) _⟩
end Go.Proofs.Ytlndinigbppafaa
