/-
  The walks of slices.Grow and slices.Concat at rows of bytes.
-/
import Derived.Test.YtlndinigbppafaaGreatWire
import Derived.Lib.AppendZeros
import Derived.Test.YtlndinigbppafaaGreatFam
namespace Go.Proofs.YtlndinigbppafaaGreat
open Go.RowKit

theorem Tryz.infoRow : (Tryz.prog.info? 27).map (fun i => (i.zero, i.size, i.bytes)) = some (some (.slice none 0 0), 1, 24) := by kernel_rfl

/-- Rows of bytes, as cells. -/
def cellsR (ks : List Sl) : List Value := ks.map fun x => Value.slice x.1 x.2.1 x.2.2
theorem cellsR_length (ks : List Sl) : (cellsR ks).length = ks.length := List.length_map _
theorem cellsR_append (a b : List Sl) : cellsR (a ++ b) = cellsR a ++ cellsR b := List.map_append
theorem cellsR_one (ks : List Sl) : ∀ u ∈ cellsR ks, u.oneCell' = true := by
  intro u hu
  obtain ⟨b, _, rfl⟩ := List.mem_map.1 hu
  rfl
/-- The slice v holds the rows ks. -/
def RawsAt (w : World) (v : Value) (ks : List Sl) : Prop :=
  ∃ ao cap, v = .slice ao ks.length cap ∧ (ao = none → cap = 0) ∧ (0 < ks.length → ∃ b o cur fr, ao = some ⟨b, o, none⟩ ∧ w.heap[b]? = some (.cells cur 27 fr) ∧ ∀ j (h : j < ks.length), cur[o + j]? = some (.slice ks[j].1 ks[j].2.1 ks[j].2.2))
theorem RawsAt.keep {w w' : World} {v : Value} {ks : List Sl} (h : RawsAt w v ks) (hb : KeepsT 27 w w') : RawsAt w' v ks := by
  obtain ⟨ao, cap, rfl, hz, h⟩ := h
  refine ⟨ao, cap, rfl, hz, fun hl => ?_⟩
  obtain ⟨b, o, cur, fr, rfl, hlt, hc⟩ := h hl
  exact ⟨b, o, cur, fr, rfl, hb _ _ _ hlt, hc⟩
theorem RawsAt.of_owns {w : World} {base : Nat} {v : Value} {n : Nat} {ks : List Sl} (h : w.ownsRow base 27 1 v n (cellsR ks)) : RawsAt w v ks := by
  have hn : ks.length = n := by have := h.1; rw [cellsR_length] at this; omega
  subst hn
  rcases h.2 with ⟨rfl, h0⟩ | ⟨g, cap, cur, rfl, _, hgg, _, _, _, htake⟩
  · exact ⟨none, 0, by rw [h0], fun _ => rfl, fun hl => by omega⟩
  · refine ⟨_, cap, rfl, fun h => (by cases h), fun _ => ⟨g, 0, cur, _, rfl, hgg, fun j hj => ?_⟩⟩
    have h1 : (cellsR ks)[j]? = some (.slice ks[j].1 ks[j].2.1 ks[j].2.2) := by simp [cellsR, hj]
    rw [← htake, List.getElem?_take] at h1
    split at h1
    · simpa using h1
    · cases h1
theorem RawsAt.news {w : World} {ao : Option Addr} {n cap : Nat} {ks : List Sl} (h : RawsAt w (.slice ao n cap) ks) (a : Addr) (ha : ao = some a) : ∀ j u, (cellsR ks)[j]? = some u → w.cell? (a.add j) = some u := by
  intro j u hu
  obtain ⟨ao', cap', e, _, hh⟩ := h
  simp only [Value.slice.injEq] at e
  obtain ⟨rfl, rfl, rfl⟩ := e
  have hjl : j < ks.length := by have := (List.getElem?_eq_some_iff.1 hu).1; rwa [cellsR_length] at this
  obtain ⟨b, o, cur, fr, e, hg, hc⟩ := hh (by omega)
  rw [e] at ha
  cases ha
  rw [show (⟨b, o, none⟩ : Addr).add j = ⟨b, o + j, none⟩ by unfold Addr.add; split <;> simp_all, cell_of_row _ _ _ _ _ _ hg, hc j hjl]
  simp [cellsR, hjl] at hu
  rw [← hu]
theorem raw_at (w : World) (k : Sl) (b : Nat) (hb : b = w.heap.size) : RawsAt (w.alloc (.cells #[.slice k.1 k.2.1 k.2.2] 27)) (.slice (some ⟨b, 0, none⟩) 1 1) [k] := by
  refine ⟨_, _, rfl, fun h => (by cases h), fun _ => ⟨_, _, _, _, rfl, heap_new w _ b hb, fun j hj => ?_⟩⟩
  match j, hj with
  | 0, _ => rfl

set_option maxRecDepth 100000 in
set_option maxHeartbeats 400000 in
theorem growR_any (n : Nat) (w : World) (h1 : 1 ≤ n) (hn : n ≤ 1000000) :
    Calls Tryz.prog 237 #[.slice none 0 0, .int .i64 n] w fun e w' => ∃ v', e = .returned v' ∧ w'.ownsRow w.heap.size 27 1 v' 0 [] ∧ Below w.heap.size w w' := by
  obtain ⟨i0, hi, hz0, hz1, hz2⟩ := info_parts Tryz.infoRow
  have hr := fun ty => Lib.run_append_nil_zeros (P := Tryz.prog) w 53 3 ty 27 i0 _ .i64 .i64 Tryz.underlying53 Tryz.underlying3 hi hz0 n h1 (by rw [hz1]; decide) (by omega) (by rw [hz2]; omega)
  have HC := grownCap_ge w n 0 27
  have hmax := grownCap_le_maxLen w n 0 27 (by unfold maxLen; omega)
  have hn0 : (0 : Int) < (n : Int) := by omega
  generalize grownCap w n 0 27 = C at *
  go_enter Tryz.func237, Tryz.ntmps237
  go_wp2_with (at_builtin; refine Lib.wpList_append_run _ rfl (.tmp 20) (.tmp 21) 53 3 rfl _ _ rfl rfl _ _ (hr _) ?_)
  go_ret
  refine ⟨_, rfl, (World.ownsRow_made w _ C (Nat.le_refl _) hmax ?_).drew, ((Below.refl _ _).alloc (Nat.le_refl _) _).drew⟩
  simp [Builtin.zeroCells]
  omega

/-- The slice v holds slices of such rows. -/
def RawRows (w : World) (v : Value) (nss : List (List Sl)) : Prop :=
  ∃ ao cap, v = .slice ao nss.length cap ∧ (0 < nss.length → ∃ b o, ao = some ⟨b, o, none⟩ ∧ b < w.heap.size ∧ ∀ j (h : j < nss.length), ∃ u, w.cell? ⟨b, o + j, none⟩ = some u ∧ RawsAt w u nss[j])

set_option maxRecDepth 100000 in
set_option maxHeartbeats 1000000 in
theorem concatR_any (nss : List (List Sl)) (v : Value) (w : World) (hv : RawRows w v nss) (hl : nss.length ≤ 1000) (h1 : 1 ≤ nss.flatten.length) (hn : nss.flatten.length ≤ 1000000) :
    Calls Tryz.prog 235 #[v] w fun e w' => ∃ v', e = .returned v' ∧ RawsAt w' v' nss.flatten ∧ Below w.heap.size w w' := by
  obtain ⟨ao, cap, rfl, hc⟩ := hv
  obtain ⟨i0, hi, hz0, hz1, hz2⟩ := info_parts Tryz.infoRow
  have HFT : Hid (∀ k, k ≤ nss.length → (nss.take k).flatten.length ≤ nss.flatten.length) := fun k _ => by
    have e : nss.flatten = (nss.take k).flatten ++ (nss.drop k).flatten := by rw [← List.flatten_append, List.take_append_drop]
    rw [e, List.length_append]; omega
  go_enter Tryz.func235, Tryz.ntmps235
  go_wp2
  go_loop [3, 11] (fun s i => ∃ k L : Nat, k ≤ nss.length ∧ i = .int .i64 k ∧ s = .int .i64 L ∧ L = (nss.take k).flatten.length) (fun _ i => nss.length - (intOf i).toNat)
  case atStart => exact ⟨0, 0, Nat.zero_le _, rfl, rfl, rfl⟩
  case round =>
    obtain ⟨k, L, hk, rfl, rfl, hL⟩ := hrel
    have HL : Hid (L = (nss.take k).flatten.length) := hL
    clear hL
    by_cases hlt : k < nss.length
    · obtain ⟨b, o, rfl, hbB, hcell⟩ := hc (by omega)
      obtain ⟨u, hu, hN⟩ := hcell k hlt
      obtain ⟨ao', cap', rfl, hrest⟩ := hN
      clear hrest
      have h2 := HFT.out (k + 1) (by omega)
      have HF : Hid ((nss.take (k + 1)).flatten.length = (nss.take k).flatten.length + nss[k].length) := by show _ = _; rw [flatten_snoc nss k hlt, List.length_append]
      rw [HF.out, ← HL.out] at h2
      clear hcell hc
      generalize nss[k].length = m at *
      go_wp2
      go_round
      case rel => exact ⟨k + 1, L + m, by omega, by go_num, by go_num, by rw [HF.out, ← HL.out]⟩
      case measure => simp [intOf]; omega
    · have hkl : k = nss.length := by omega
      subst hkl
      have hLL : L = nss.flatten.length := by rw [HL.out, List.take_length]
      have HLL : Hid (L = nss.flatten.length) := hLL
      have hL1 : 1 ≤ L := by omega
      have hL2 : L ≤ 1000000 := by omega
      clear hLL HL
      go_wp2_with fail
      refine (growR_any L w hL1 hL2).mono ?_
      rintro e w1 ⟨v1, rfl, hown1, hbel1⟩
      go_wp2
      go_loopw [6, 27] (fun v i wr => ∃ k : Nat, k ≤ nss.length ∧ i = .int .i64 k ∧ wr.ownsRow w.heap.size 27 1 v (nss.take k).flatten.length (cellsR (nss.take k).flatten) ∧ Below w.heap.size w wr) (fun _ i _ => nss.length - (intOf i).toNat)
      case atStart => exact ⟨0, Nat.zero_le _, rfl, hown1, hbel1⟩
      case round =>
        obtain ⟨k, hk, rfl, hown, hbel⟩ := hrel
        have hsz := hbel.size
        by_cases hlt : k < nss.length
        · obtain ⟨b, o, rfl, hbB, hcell⟩ := hc (by omega)
          obtain ⟨u, hu, hN⟩ := hcell k hlt
          have hu' := (hbel.cell (p := ⟨b, o + k, none⟩) hbB).trans hu
          have hN2 := hN.keep (KeepsT.of_below hbel (Nat.le_refl _))
          obtain ⟨ao', cap', rfl, hz, hrest⟩ := id hN2
          clear hrest
          have HF : Hid ((nss.take (k + 1)).flatten = (nss.take k).flatten ++ nss[k]) := flatten_snoc nss k hlt
          have h2 := HFT.out (k + 1) (by omega)
          rw [HF.out, List.length_append] at h2
          have hnil : ao' = none → nss[k] = [] := by
            intro h0
            obtain ⟨_, _, e, _, hh⟩ := hN2
            simp only [Value.slice.injEq] at e
            obtain ⟨rfl, _, _⟩ := e
            rcases Nat.eq_zero_or_pos nss[k].length with h | h
            · exact List.eq_nil_of_length_eq_zero h
            · obtain ⟨_, _, _, _, h3, _⟩ := hh h; rw [h0] at h3; cases h3
          clear hcell hc hu hN
          generalize hLk : nss[k] = l at *
          generalize hM : (nss.take k).flatten = M at *
          clear hLk hM
          cases ao' with
          | none =>
            obtain rfl := hnil rfl
            obtain rfl := hz rfl
            rw [List.append_nil] at HF
            clear hN2 hz hnil
            go_wp2_with (at_builtin; refine wpList_append_own_none rfl (.tmp 31) (.tmp 32) 53 rfl w.heap.size 27 i0 1 Tryz.underlying53 hi _ _ _ rfl hown rfl ?_)
            go_roundw
            case rel => exact ⟨k + 1, by omega, by go_num, by rw [HF.out]; exact hown, hbel⟩
            case measure => simp [intOf]; omega
          | some ad =>
            have HNW : Hid _ := hN2.news ad rfl
            clear hN2 hz hnil
            go_wp2_with (at_builtin; refine wpList_append_own _ rfl (.tmp 31) (.tmp 32) 53 rfl w.heap.size 27 i0 (.slice none 0 0) 1 24 Tryz.underlying53 hi hz0 hz1 hz2 rfl (by decide) _ _ _ rfl hown ad l.length cap' (cellsR l) rfl (by rw [cellsR_length, Nat.mul_one]) HNW.out (cellsR_one l) (by unfold maxLen; omega) (by omega) hsz ?_)
            intro v' w2 hown' hgrow _
            have R := hbel.grown hgrow hsz (fun g hg => (hown.lt g hg).1)
            clear hown hbel hgrow hu' HNW
            go_wp2
            go_roundw
            case rel => exact ⟨k + 1, by omega, by go_num, by rw [HF.out, List.length_append, cellsR_append]; exact hown', R⟩
            case measure => simp [intOf]; omega
        · have hkl : k = nss.length := by omega
          subst hkl
          rw [List.take_length] at hown
          go_wp2
          go_ret
          exact ⟨_, rfl, RawsAt.of_owns hown, hbel⟩

end Go.Proofs.YtlndinigbppafaaGreat
