/-
  The walk of the program's learnTexts.
-/
import Derived.Test.YtlndinigbppafaaGreatAud
namespace Go.Proofs.YtlndinigbppafaaGreat
open Go.RowKit Go.Deep

/-- The slice v holds trees with these preimages. -/
structure TreesAt (w : World) (X : Nat) (Vs : List Value) (lss : List (List (List UInt8))) : Prop where
  blk : w.heap[X]? = some (.cells Vs.toArray 120 (0, 0))
  len : Vs.length = lss.length
  each : ∀ i (h : i < Vs.length) (h' : i < lss.length), Pres Vs[i] lss[i]

set_option maxRecDepth 100000 in
set_option maxHeartbeats 1000000 in
theorem learnTexts_any (w : World) (b0 A : Nat) (n : Int) (Vv Ve Vf : Value) (vs : List (Int × Int)) (es : List Ent) (fs : List Fam) (TL : List (List UInt8)) (X : Nat) (Vs : List Value) (lss : List (List (List UInt8))) (h : AudB w b0 A n Vv Ve Vf vs es fs TL) (hb0 : b0 ≤ w.heap.size)
    (hX : TreesAt w X Vs lss) (hn : Vs.length ≤ 10) (hs : ∀ l ∈ lss, l.length ≤ 400000 ∧ ∀ x ∈ l, 1 ≤ x.length ∧ x.length ≤ 1000) :
    Calls Tryz.prog 124 #[.pointer (some ⟨A, 0, none⟩), .slice (some ⟨X, 0, none⟩) Vs.length Vs.length] w fun e w' => e = .returned (.tuple #[]) ∧ ∃ (Vf' : Value) (fs' : List Fam), AudB w' b0 A n Vv Ve Vf' vs es fs' (TL ++ lss.flatten) ∧ KeepsA b0 w w' := by
  have HH : Hid (AudB w b0 A n Vv Ve Vf vs es fs TL) := h
  have HX : Hid (TreesAt w X Vs lss) := hX
  have HSS : Hid (∀ l ∈ lss, l.length ≤ 400000 ∧ ∀ x ∈ l, 1 ≤ x.length ∧ x.length ≤ 1000) := hs
  clear h hX hs
  go_enter Tryz.func124, Tryz.ntmps124
  go_wp2
  go_loopw [10] (fun i wr => ∃ (k : Nat) (Vf1 : Value) (fs1 : List Fam), k ≤ Vs.length ∧ i = .int .i64 k ∧ Hid (AudB wr b0 A n Vv Ve Vf1 vs es fs1 (TL ++ (lss.take k).flatten)) ∧ Hid (KeepsA b0 w wr)) (fun i _ => Vs.length - (intOf i).toNat)
  case atStart => exact ⟨0, Vf, fs, Nat.zero_le _, rfl, by show AudB _ _ _ _ _ _ _ _ _ _ _; simpa using HH.out, KeepsA.refl _ _⟩
  case round =>
    obtain ⟨k, Vf1, fs1, hk, rfl, HA, HKA⟩ := hrel
    by_cases hlt : k < Vs.length
    · have hltl : k < lss.length := by have := HX.out.len; omega
      have hblk := (KeepsA.keepsT (t := 120) HKA.out (by decide) (by decide) (by decide) (by decide) (by decide)) _ _ _ HX.out.blk
      have hcell : wr.cell? ⟨X, k, none⟩ = some Vs[k] := by rw [cell_of_row _ _ _ _ _ _ hblk]; simp [hlt]
      obtain ⟨ty, av, F, hV, hm, hE, hN, hC⟩ := HX.out.each k hlt hltl
      rw [hV] at hcell
      have HF : Hid ((lss.take (k + 1)).flatten = (lss.take k).flatten ++ lss[k]) := flatten_snoc lss k hltl
      have hll := (HSS.out lss[k] (List.getElem_mem hltl)).1
      have HLL : Hid (∀ x ∈ lss[k], 1 ≤ x.length ∧ x.length ≤ 1000) := (HSS.out lss[k] (List.getElem_mem hltl)).2
      have hbw : b0 ≤ wr.heap.size := Nat.le_trans hb0 HKA.out.size
      clear hblk hV
      generalize lss[k] = l at *
      generalize (lss.take k).flatten = L0 at *
      go_wp2_with fail
      refine (hC.out _).mono ?_
      rintro e w1 ⟨v1, ks, rfl, hR, hAll, hb1⟩
      have HA1 : Hid (AudB w1 b0 A n Vv Ve Vf1 vs es fs1 (TL ++ L0)) := HA.out.below hb1
      have HKA1 : Hid (KeepsA b0 w w1) := HKA.out.trans (KeepsA.of_below hb1)
      have hbw1 : b0 ≤ w1.heap.size := Nat.le_trans hbw hb1.size
      have hkl : ks.length ≤ 400000 := by rw [hAll.len]; exact hll
      have HKL : Hid (ks.length = l.length) := hAll.len
      obtain ⟨x1, y1, rfl, hz1, hrest⟩ := id hR
      have HR : Hid (RawsAt w1 (.slice x1 ks.length y1) ks) := hR
      have HAL : Hid (AllB w1 ks l) := hAll
      clear hrest hz1 hR hAll hC hm hE hN hcell HA HKA hb1 hll hbw
      go_wp2
      go_loopw [17] (fun i wr => ∃ (j : Nat) (Vf2 : Value) (fs2 : List Fam), j ≤ ks.length ∧ i = .int .i64 j ∧ Hid (AudB wr b0 A n Vv Ve Vf2 vs es fs2 (TL ++ L0 ++ l.take j)) ∧ Hid (KeepsA b0 w1 wr)) (fun i _ => ks.length - (intOf i).toNat)
      case atStart => exact ⟨0, Vf1, fs1, Nat.zero_le _, rfl, by show AudB _ _ _ _ _ _ _ _ _ _ _; simpa using HA1.out, KeepsA.refl _ _⟩
      case round =>
        obtain ⟨j, Vf2, fs2, hj, rfl, HA2, HKA2⟩ := hrel
        by_cases hjl : j < ks.length
        · have hjl2 : j < l.length := by have := HKL.out; omega
          have hR2 := HR.out.keep (KeepsA.keepsT HKA2.out (by decide) (by decide) (by decide) (by decide) (by decide))
          have hB2 := (HAL.out.get j hjl hjl2).keep (KeepsA.keepsT HKA2.out (by decide) (by decide) (by decide) (by decide) (by decide))
          have hxl := HLL.out l[j] (List.getElem_mem hjl2)
          have HT : Hid (l.take (j + 1) = l.take j ++ [l[j]]) := take_snoc l j hjl2
          obtain ⟨ao', cap', e', -, hrr⟩ := hR2
          simp only [Value.slice.injEq] at e'
          obtain ⟨rfl, -, rfl⟩ := e'
          obtain ⟨rb, ro, rcur, rfr, rfl, hrh, hrc⟩ := hrr (by omega)
          have hcell : wr.cell? ⟨rb, ro + j, none⟩ = some (.slice ks[j].1 ks[j].2.1 ks[j].2.2) := by rw [cell_of_row _ _ _ _ _ _ hrh]; exact hrc j hjl
          clear hrc hrr
          generalize ks[j] = kk at *
          generalize l[j] = x at *
          obtain ⟨ka, kn, kc⟩ := kk
          simp only at hB2 hcell
          obtain ⟨ao', cap', e', -, hbb⟩ := hB2.cells
          simp only [Value.slice.injEq] at e'
          obtain ⟨rfl, rfl, rfl⟩ := e'
          obtain ⟨bb, bo, rfl, -⟩ := hbb (by omega)
          have hcv := conv_slice wr x _ _ hB2
          have hbw2 : b0 ≤ wr.heap.size := Nat.le_trans hbw1 HKA2.out.size
          have hxs : (⟨x.toArray⟩ : ByteArray).size ≤ 1000000 := by rw [mk_size]; omega
          have hcv2 := conv_slice wr.drew x _ _ (hB2.keep (keepD _))
          clear hbb hB2
          go_wp2
          go_still_tail 5, (by kernel_rfl)
          have hbd : Below wr.heap.size wr wr.drew := (Below.refl _ _).drew
          have HAd : Hid (AudB wr.drew b0 A n Vv Ve Vf2 vs es fs2 (TL ++ L0 ++ l.take j)) := HA2.out.below hbd
          have HKd : Hid (KeepsA b0 w1 wr.drew) := HKA2.out.trans (KeepsA.of_below hbd)
          clear hcv hcv2 hcell hbd
          go_wp2_with fail
          refine (audAdd_any wr.drew b0 A n Vv Ve Vf2 vs es fs2 _ _ HAd.out hxs hbw2).mono ?_
          rintro e w2 ⟨rfl, Vf3, fs3, hA3, hK3⟩
          have HA3 : Hid (AudB w2 b0 A n Vv Ve Vf3 vs es fs3 (TL ++ L0 ++ l.take j ++ [x])) := hA3
          have HK3 : Hid (KeepsA b0 w1 w2) := HKd.out.trans hK3
          clear HAd HKd
          clear hA3 hK3 HA2 HKA2
          go_wp2
          go_roundw
          case rel => exact ⟨j + 1, Vf3, fs3, by omega, by go_num, by rw [HT.out, ← List.append_assoc]; exact HA3.out, HK3⟩
          case measure => simp [intOf]; omega
        · have hjk : j = ks.length := by omega
          have HT : Hid (l.take j = l) := by show l.take j = l; rw [List.take_of_length_le (by have := HKL.out; omega)]
          have HA3 : Hid (AudB wr b0 A n Vv Ve Vf2 vs es fs2 (TL ++ (L0 ++ l))) := by
            have := HA2.out
            rw [HT.out, List.append_assoc] at this
            exact this
          have HK3 : Hid (KeepsA b0 w wr) := HKA1.out.trans HKA2.out
          subst hjk
          clear HA2 HKA2 HT
          go_wp2
          go_roundw
          case rel => exact ⟨k + 1, Vf2, fs2, by omega, by go_num, by rw [HF.out]; exact HA3.out, HK3⟩
          case measure => simp [intOf]; omega
    · have hkl : k = Vs.length := by omega
      subst hkl
      have HA3 : Hid (AudB wr b0 A n Vv Ve Vf1 vs es fs1 (TL ++ lss.flatten)) := by
        have := HA.out
        rw [HX.out.len, List.take_length] at this
        exact this
      clear HA
      go_wp2
      go_returns
      exact ⟨rfl, _, _, HA3.out, HKA.out⟩
end Go.Proofs.YtlndinigbppafaaGreat
