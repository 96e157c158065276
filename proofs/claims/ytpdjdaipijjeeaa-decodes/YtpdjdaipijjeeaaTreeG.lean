/-
  The walk of slices.Concat at nodes.
-/
import Derived.Test.YtpdjdaipijjeeaaTreeF
namespace Go.Proofs.Ytpdjdaipijjeeaa
open Go.RowKit

/-- The slice v holds slices of nodes. -/
def NodeRows (w : World) (v : Value) (nss : List (List PN)) : Prop :=
  ∃ ao cap, v = .slice ao nss.length cap ∧ (0 < nss.length → ∃ b o, ao = some ⟨b, o, none⟩ ∧ b < w.heap.size ∧ ∀ j (h : j < nss.length), ∃ u, w.cell? ⟨b, o + j, none⟩ = some u ∧ NodesAt w u nss[j])

set_option maxRecDepth 100000 in
set_option maxHeartbeats 1000000 in
theorem concat_any (nss : List (List PN)) (v : Value) (w : World) (hv : NodeRows w v nss) (hl : nss.length ≤ 1000) (h1 : 1 ≤ nss.flatten.length) (hn : nss.flatten.length ≤ 1000000) :
    Calls Try.prog 133 #[v] w fun e w' => ∃ v', e = .returned v' ∧ NodesAt w' v' nss.flatten ∧ Below w.heap.size w w' := by
  obtain ⟨ao, cap, rfl, hc⟩ := hv
  obtain ⟨i0, hi, hz0, hz1, hz2⟩ := info_parts Try.infoNode
  have HFT : Hid (∀ k, k ≤ nss.length → (nss.take k).flatten.length ≤ nss.flatten.length) := fun k _ => by
    have e : nss.flatten = (nss.take k).flatten ++ (nss.drop k).flatten := by rw [← List.flatten_append, List.take_append_drop]
    rw [e, List.length_append]; omega
  go_enter Try.func133, Try.ntmps133
  go_wp2
  go_loop [3, 11] (fun s i => ∃ k L : Nat, k ≤ nss.length ∧ i = .int .i64 k ∧ s = .int .i64 L ∧ L = (nss.take k).flatten.length) (fun _ i => nss.length - (intOf i).toNat)
  case atStart => exact ⟨0, 0, Nat.zero_le _, rfl, rfl, rfl⟩
  case round =>
    obtain ⟨k, L, hk, rfl, rfl, hL⟩ := hrel
    have HL : Hid (L = (nss.take k).flatten.length) := hL
    clear hL
    by_cases hlt : k < nss.length
    · obtain ⟨b, o, rfl, hbB, hcell⟩ := hc (by omega)
      obtain ⟨u, hu, hN⟩ := hcell k hlt
      obtain ⟨ao', cap', rfl, hrest⟩ := hN
      clear hrest
      have h2 := HFT.out (k + 1) (by omega)
      have HF : Hid ((nss.take (k + 1)).flatten.length = (nss.take k).flatten.length + nss[k].length) := by show _ = _; rw [flatten_snoc nss k hlt, List.length_append]
      rw [HF.out, ← HL.out] at h2
      clear hcell hc
      generalize nss[k].length = m at *
      go_wp2
      go_round
      case rel => exact ⟨k + 1, L + m, by omega, by go_num, by go_num, by rw [HF.out, ← HL.out]⟩
      case measure => simp [intOf]; omega
    · have hkl : k = nss.length := by omega
      subst hkl
      have hLL : L = nss.flatten.length := by rw [HL.out, List.take_length]
      have HLL : Hid (L = nss.flatten.length) := hLL
      have hL1 : 1 ≤ L := by omega
      have hL2 : L ≤ 1000000 := by omega
      clear hLL HL
      go_wp2_with fail
      refine (grow_any L w hL1 hL2).mono ?_
      rintro e w1 ⟨v1, rfl, hown1, hbel1⟩
      go_wp2
      go_loopw [6, 27] (fun v i wr => ∃ k : Nat, k ≤ nss.length ∧ i = .int .i64 k ∧ wr.ownsRow w.heap.size 100 3 v (nss.take k).flatten.length (cellsN (nss.take k).flatten) ∧ Below w.heap.size w wr) (fun _ i _ => nss.length - (intOf i).toNat)
      case atStart => exact ⟨0, Nat.zero_le _, rfl, hown1, hbel1⟩
      case round =>
        obtain ⟨k, hk, rfl, hown, hbel⟩ := hrel
        have hsz := hbel.size
        by_cases hlt : k < nss.length
        · obtain ⟨b, o, rfl, hbB, hcell⟩ := hc (by omega)
          obtain ⟨u, hu, hN⟩ := hcell k hlt
          have hu' := (hbel.cell (p := ⟨b, o + k, none⟩) hbB).trans hu
          have hN2 := hN.keep (KeepsT.of_below hbel (Nat.le_refl _))
          obtain ⟨ao', cap', rfl, hz, hrest⟩ := id hN2
          clear hrest
          have HF : Hid ((nss.take (k + 1)).flatten = (nss.take k).flatten ++ nss[k]) := flatten_snoc nss k hlt
          have h2 := HFT.out (k + 1) (by omega)
          rw [HF.out, List.length_append] at h2
          have hnil : ao' = none → nss[k] = [] := by
            intro h0
            obtain ⟨_, _, e, _, hh⟩ := hN2
            simp only [Value.slice.injEq] at e
            obtain ⟨rfl, _, _⟩ := e
            rcases Nat.eq_zero_or_pos nss[k].length with h | h
            · exact List.eq_nil_of_length_eq_zero h
            · obtain ⟨_, _, _, _, h3, _⟩ := hh h; rw [h0] at h3; cases h3
          clear hcell hc hu hN
          generalize hLk : nss[k] = l at *
          generalize hM : (nss.take k).flatten = M at *
          clear hLk hM
          cases ao' with
          | none =>
            obtain rfl := hnil rfl
            obtain rfl := hz rfl
            rw [List.append_nil] at HF
            clear hN2 hz hnil
            go_wp2_with (at_builtin; refine wpList_append_own_none rfl (.tmp 31) (.tmp 32) 40 rfl w.heap.size 100 i0 3 Try.underlying40 hi _ _ _ rfl hown rfl ?_)
            go_roundw
            case rel => exact ⟨k + 1, by omega, by go_num, by rw [HF.out]; exact hown, hbel⟩
            case measure => simp [intOf]; omega
          | some ad =>
            have HNW : Hid _ := hN2.news ad rfl
            clear hN2 hz hnil
            go_wp2_with (at_builtin; refine wpList_append_own _ rfl (.tmp 31) (.tmp 32) 40 rfl w.heap.size 100 i0 (.agg #[.int .i64 0, .int .i64 0, .string ByteArray.empty]) 3 32 Try.underlying40 hi hz0 hz1 hz2 rfl (by decide) _ _ _ rfl hown ad l.length cap' (cellsN l) rfl (by rw [cellsN_length]) HNW.out (cellsN_one l) (by unfold maxLen; omega) (by omega) hsz ?_)
            intro v' w2 hown' hgrow _
            have R := hbel.grown hgrow hsz (fun g hg => (hown.lt g hg).1)
            clear hown hbel hgrow hu' HNW
            go_wp2
            go_roundw
            case rel => exact ⟨k + 1, by omega, by go_num, by rw [HF.out, List.length_append, cellsN_append]; exact hown', R⟩
            case measure => simp [intOf]; omega
        · have hkl : k = nss.length := by omega
          subst hkl
          rw [List.take_length] at hown
          go_wp2
          go_ret
          exact ⟨_, rfl, NodesAt.of_owns hown, hbel⟩
end Go.Proofs.Ytpdjdaipijjeeaa
