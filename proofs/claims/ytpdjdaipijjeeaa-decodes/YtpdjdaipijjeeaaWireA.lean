/-
  The walks of the program's wire: Two, Join.
-/
import Derived.Test.YtpdjdaipijjeeaaSumW
import Derived.Test.YtpdjdaipijjeeaaOwn
import Derived.Deep.RegionHeld3
import Derived.Laws.AppendOwnNone
namespace Go.Proofs.Ytpdjdaipijjeeaa
open Go.RowKit

theorem Try.infoByte : (Try.prog.info? 5).map (fun i => (i.zero, i.size, i.bytes)) = some (some (.int .u8 0), 1, 1) := by kernel_rfl

set_option maxRecDepth 100000 in
set_option maxHeartbeats 400000 in
theorem wireTwo_any (n : Int) (w : World) (h0 : 0 ≤ n) (h1 : n ≤ 65535) :
    Calls Try.prog 87 #[.int .i64 n] w fun e w' => e = .returned (.slice (some ⟨w.heap.size, 0, none⟩) 2 2) ∧ w' = w.alloc (.cells #[.int .u8 (n / 256), .int .u8 (n % 256)] 5) := by
  go_enter Try.func87, Try.ntmps87
  go_wp2
  go_ret
  exact ⟨rfl, rfl⟩

theorem two8_at (n : Int) (w : World) (b : Nat) (h0 : 0 ≤ n) (h1 : n ≤ 65535) (hb : b = w.heap.size) : BytesAt (w.alloc (.cells #[.int .u8 (n / 256), .int .u8 (n % 256)] 5)) (.slice (some ⟨b, 0, none⟩) 2 2) (two8 n) := by
  subst hb
  refine ⟨_, _, rfl, fun h => (by cases h), fun _ => ⟨_, _, _, _, rfl, heap_alloc_new w _, fun j hj => ?_⟩⟩
  have e1 := b8_nat (n / 256 % 256) (by omega) (by omega)
  have e2 := b8_nat (n % 256) (by omega) (by omega)
  unfold b8 at e1 e2
  match j, hj with
  | 0, _ => show some (Value.int .u8 (n / 256)) = some (.int .u8 ((UInt8.ofNat (n / 256 % 256).toNat).toNat : Int)); rw [e1, show n / 256 % 256 = n / 256 by omega]
  | 1, _ => show some (Value.int .u8 (n % 256)) = some (.int .u8 ((UInt8.ofNat (n % 256).toNat).toNat : Int)); rw [e2]

set_option maxRecDepth 100000 in
set_option maxHeartbeats 400000 in
theorem join_any (ls : List (List UInt8)) (v : Value) (w : World) (hv : RowsAt w v ls) (hn : ls.length ≤ 2000000) (hl : ls.flatten.length ≤ 1000000000) :
    Calls Try.prog 71 #[v] w fun e w' => ∃ v', e = .returned v' ∧ w'.ownsRow w.heap.size 5 1 v' ls.flatten.length (bytes8 ls.flatten) ∧ Below w.heap.size w w' := by
  obtain ⟨ao, cap, rfl, hc⟩ := hv.cells
  clear hv
  obtain ⟨i0, hi, hz0, hz1, hz2⟩ := info_parts Try.infoByte
  go_enter Try.func71, Try.ntmps71
  go_wp2
  go_loopw [3, 8] (fun v i wr => ∃ k : Nat, k ≤ ls.length ∧ i = .int .i64 k ∧ wr.ownsRow w.heap.size 5 1 v (ls.take k).flatten.length (bytes8 (ls.take k).flatten) ∧ Below w.heap.size w wr) (fun _ i _ => ls.length - (intOf i).toNat)
  case atStart => exact ⟨0, Nat.zero_le _, rfl, World.ownsRow_nil _ _ _ _, Below.refl _ _⟩
  case round =>
    obtain ⟨k, hk, rfl, hown, hbel⟩ := hrel
    have hsz := hbel.size
    by_cases hlt : k < ls.length
    · obtain ⟨b, o, rfl, hcell⟩ := hc (by omega)
      obtain ⟨u, hu, hbytes⟩ := hcell k hlt
      have hbB : b < w.heap.size := World.block_lt_of_cell? w _ hu
      have hu' := (hbel.cell (p := ⟨b, o + k, none⟩) hbB).trans hu
      have hb2 := hbytes.keep (KeepsT.of_below hbel (Nat.le_refl _))
      obtain ⟨bo, cp, rfl, hz, hb⟩ := hb2.cells
      have HF : Hid ((ls.take (k + 1)).flatten = (ls.take k).flatten ++ ls[k]) := flatten_snoc ls k hlt
      have hfl : (ls.take k).flatten.length + ls[k].length ≤ 1000000000 := by
        have e : ls.flatten = (ls.take (k + 1)).flatten ++ (ls.drop (k + 1)).flatten := by rw [← List.flatten_append, List.take_append_drop]
        have e2 := congrArg List.length e
        rw [HF.out, List.length_append, List.length_append] at e2
        omega
      clear hcell hc hu hbytes hb2
      generalize hL : ls[k] = l at *
      generalize hM : (ls.take k).flatten = M at *
      clear hL hM
      cases bo with
      | none =>
        have hl0 : l.length = 0 := by
          rcases Nat.eq_zero_or_pos l.length with h | h
          · exact h
          · obtain ⟨_, _, h1, _⟩ := hb h; cases h1
        obtain rfl : l = [] := List.eq_nil_of_length_eq_zero hl0
        obtain rfl := hz rfl
        rw [List.append_nil] at HF
        clear hb hz hl0
        go_wp2_with (at_builtin; refine wpList_append_own_none rfl (.tmp 12) (.tmp 13) 24 rfl w.heap.size 5 i0 1 Try.underlying24 hi _ _ _ rfl hown rfl ?_)
        go_roundw
        case rel => exact ⟨k + 1, by omega, by go_num, by rw [HF.out]; exact hown, hbel⟩
        case measure => simp [intOf]; omega
      | some ad =>
        go_wp2_with (at_builtin; refine wpList_append_own _ rfl (.tmp 12) (.tmp 13) 24 rfl w.heap.size 5 i0 (.int .u8 0) 1 1 Try.underlying24 hi hz0 hz1 hz2 rfl (by decide) _ _ _ rfl hown ad l.length cp (bytes8 l) rfl (by rw [bytes8_length]; omega) ?c1 (bytes8_one l) (by unfold maxLen; omega) (by omega) hsz ?_)
        case c1 =>
          intro j u hj
          have hjl : j < l.length := by have := (List.getElem?_eq_some_iff.1 hj).1; rwa [bytes8_length] at this
          obtain ⟨b', o', h1, h2⟩ := hb (by omega)
          cases h1
          have h3 : (bytes8 l)[j]? = some (.int .u8 l[j].toNat) := by simp [bytes8, hjl]
          rw [h3] at hj
          cases hj
          rw [show (⟨b', o', none⟩ : Addr).add j = ⟨b', o' + j, none⟩ by unfold Addr.add; split <;> simp_all]
          exact h2 j hjl
        · intro v' w1 hown' hgrow _
          have R := hbel.grown hgrow hsz (fun g hg => (hown.lt g hg).1)
          clear hown hbel hgrow hu'
          go_wp2
          go_roundw
          case rel => exact ⟨k + 1, by omega, by go_num, by rw [HF.out, List.length_append, bytes8_append]; exact hown', R⟩
          case measure => simp [intOf]; omega
    · have hkl : k = ls.length := by omega
      subst hkl
      rw [List.take_length] at hown
      go_wp2
      go_ret
      exact ⟨_, rfl, hown, hbel⟩
end Go.Proofs.Ytpdjdaipijjeeaa
