/-
  The walks of the two sums: the document's (steleref.Sum) and the program's (stele.Sum, sum.Of).
-/
import Derived.Test.YtpdjdaipijjeeaaRows
import Derived.Test.YtpdjdaipijjeeaaMem
import Derived.WalkKit
import Derived.WalkSpells
import Derived.WalkLawsBesides
namespace Go.Proofs.Ytpdjdaipijjeeaa
open Go.RowKit

theorem byte_bd (b : UInt8) : 0 ≤ (b.toNat : Int) ∧ (b.toNat : Int) ≤ 255 := by have := b.toNat_lt; omega
theorem smStep_l (v : Int) (b : UInt8) : smStep v b = (257 * v + b.toNat + 1) % 65521 := by unfold smStep; rw [Int.mul_comm]

set_option maxHeartbeats 400000 in
theorem refSum_any (s : ByteArray) (w : World) (hs : s.size ≤ maxLen) :
    Calls Try.prog 11 #[.string s] w fun e w' => e = .returned (.int .i64 (sm s.data.toList)) ∧ w' = w := by
  unfold maxLen at hs
  go_enter Try.func11, Try.ntmps11
  go_wp2
  go_loop [3, 4] (fun v i => ∃ k : Nat, k ≤ s.size ∧ i = .int .i64 k ∧ v = .int .i64 (sm (s.data.toList.take k))) (fun _ i => s.size - (intOf i).toNat)
  case atStart => exact ⟨0, Nat.zero_le _, rfl, rfl⟩
  case round =>
    obtain ⟨k, hk, rfl, rfl⟩ := hrel
    have hd := sm_bd (s.data.toList.take k)
    by_cases hlt : k < s.size
    · have HS : Hid (sm (s.data.toList.take (k + 1)) = smStep (sm (s.data.toList.take k)) s[k]) := by
        rw [bytes_snoc s k hlt]; exact sm_snoc _ _
      generalize sm (s.data.toList.take k) = v at *
      have hb := byte_bd s[k]
      go_wp2
      go_round
      case rel => exact ⟨k + 1, by omega, by go_num, by rw [HS.out, smStep_l]; try simp only [wrap64_byte]; go_num⟩
      case measure => simp [intOf]; omega
    · go_wp2
      go_ret
      exact ⟨ret_int (by rw [List.take_of_length_le (by simp; omega)]), rfl⟩

set_option maxHeartbeats 400000 in
theorem sumOf_any (ls : List (List UInt8)) (v : Value) (w : World) (hv : RowsAt w v ls) (hn : ls.length ≤ 9223372036854775807) (hl : ∀ l ∈ ls, l.length ≤ 9223372036854775807) :
    Calls Try.prog 29 #[v] w fun e w' => e = .returned (.int .i64 (sm ls.flatten)) ∧ w' = w := by
  obtain ⟨ao, cap, rfl, hc⟩ := hv.cells
  clear hv
  go_enter Try.func29, Try.ntmps29
  go_wp2
  go_loop [3, 10] (fun v i => ∃ k : Nat, k ≤ ls.length ∧ i = .int .i64 k ∧ v = .int .i64 (sm (ls.take k).flatten)) (fun _ i => ls.length - (intOf i).toNat)
  case atStart => exact ⟨0, Nat.zero_le _, rfl, rfl⟩
  case round =>
    obtain ⟨k, hk, rfl, rfl⟩ := hrel
    by_cases hlt : k < ls.length
    · obtain ⟨b, o, rfl, hcell⟩ := hc (by omega)
      obtain ⟨u, hu, hbytes⟩ := hcell k hlt
      obtain ⟨bo, cp, rfl, _, hb⟩ := hbytes.cells
      clear hbytes
      have hll := hl _ (List.getElem_mem hlt)
      have HF : Hid (sm (ls.take (k + 1)).flatten = smFrom (sm (ls.take k).flatten) ls[k]) := by rw [flatten_snoc ls k hlt]; exact sm_append _ _
      have hv0 := sm_bd (ls.take k).flatten
      generalize sm (ls.take k).flatten = v0 at *
      generalize ls[k] = l at *
      clear hcell hc
      go_wp2
      go_loop [3, 16] (fun v i => ∃ j : Nat, j ≤ l.length ∧ i = .int .i64 j ∧ v = .int .i64 (smFrom v0 (l.take j))) (fun _ i => l.length - (intOf i).toNat)
      case atStart => exact ⟨0, Nat.zero_le _, rfl, rfl⟩
      case round =>
        obtain ⟨j, hj, rfl, rfl⟩ := hrel
        have hd := smFrom_bd v0 (l.take j) hv0
        by_cases hjl : j < l.length
        · obtain ⟨bb, oo, rfl, hcb⟩ := hb (by omega)
          have hcj := hcb j hjl
          have hbd := byte_bd l[j]
          have HS : Hid (smFrom v0 (l.take (j + 1)) = smStep (smFrom v0 (l.take j)) l[j]) := by rw [take_snoc l j hjl]; exact smFrom_snoc _ _ _
          generalize smFrom v0 (l.take j) = v1 at *
          clear hcb
          go_wp2
          go_round
          case rel => exact ⟨j + 1, by omega, by go_num, by rw [HS.out]; unfold smStep; first | rfl | (refine congrArg (Value.int .i64) ?_; omega)⟩
          case measure => simp [intOf]; omega
        · have HT : Hid (smFrom v0 (l.take j) = smFrom v0 l) := by rw [List.take_of_length_le (by omega)]; exact rfl
          clear hb
          go_wp2
          go_round
          case rel => exact ⟨k + 1, by omega, by go_num, by rw [HF.out, HT.out]⟩
          case measure => simp [intOf]; omega
    · go_wp2
      go_ret
      exact ⟨ret_int (by rw [List.take_of_length_le (by omega)]), rfl⟩

set_option maxHeartbeats 400000 in
theorem sum_any (ls : List (List UInt8)) (v : Value) (w : World) (hv : RowsAt w v ls) (hn : ls.length ≤ 9223372036854775807) (hl : ∀ l ∈ ls, l.length ≤ 9223372036854775807) :
    Calls Try.prog 10 #[v] w fun e w' => e = .returned (.int .i64 (sm ls.flatten)) ∧ w' = w := by
  go_enter Try.func10, Try.ntmps10
  go_wp2_with (go_at_call 29; refine (sumOf_any ls _ _ hv hn hl).mono ?_; rintro e w' ⟨rfl, rfl⟩)
  go_ret
  exact ⟨rfl, rfl⟩
end Go.Proofs.Ytpdjdaipijjeeaa
