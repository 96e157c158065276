/-
  The walks of slices.Grow and slices.Concat at numbers.
-/
import Derived.Test.YtlndinigbppafaaGreatTreeE
import Derived.Test.YtlndinigbppafaaGreatRd
import Derived.Test.YtlndinigbppafaaGreatTreeH
namespace Go.Proofs.YtlndinigbppafaaGreat
open Go.RowKit

theorem Tryz.infoInt : (Tryz.prog.info? 3).map (fun i => (i.zero, i.size, i.bytes)) = some (some (.int .i64 0), 1, 8) := by kernel_rfl

/-- Numbers as cells. -/
def cellsI (ks : List Int) : List Value := ks.map (Value.int .i64)
theorem cellsI_length (ks : List Int) : (cellsI ks).length = ks.length := List.length_map _
theorem cellsI_append (a b : List Int) : cellsI (a ++ b) = cellsI a ++ cellsI b := List.map_append
theorem cellsI_one (ks : List Int) : ∀ u ∈ cellsI ks, u.oneCell' = true := by
  intro u hu
  obtain ⟨b, _, rfl⟩ := List.mem_map.1 hu
  rfl
/-- The slice v holds the numbers ks. -/
def IntsAt (w : World) (v : Value) (ks : List Int) : Prop :=
  ∃ ao cap, v = .slice ao ks.length cap ∧ (ao = none → cap = 0) ∧ (0 < ks.length → ∃ b o cur fr, ao = some ⟨b, o, none⟩ ∧ w.heap[b]? = some (.cells cur 3 fr) ∧ ∀ j (h : j < ks.length), cur[o + j]? = some (.int .i64 ks[j]))
theorem IntsAt.keep {w w' : World} {v : Value} {ks : List Int} (h : IntsAt w v ks) (hb : KeepsT 3 w w') : IntsAt w' v ks := by
  obtain ⟨ao, cap, rfl, hz, h⟩ := h
  refine ⟨ao, cap, rfl, hz, fun hl => ?_⟩
  obtain ⟨b, o, cur, fr, rfl, hlt, hc⟩ := h hl
  exact ⟨b, o, cur, fr, rfl, hb _ _ _ hlt, hc⟩
theorem IntsAt.of_owns {w : World} {base : Nat} {v : Value} {n : Nat} {ks : List Int} (h : w.ownsRow base 3 1 v n (cellsI ks)) : IntsAt w v ks := by
  have hn : ks.length = n := by have := h.1; rw [cellsI_length] at this; omega
  subst hn
  rcases h.2 with ⟨rfl, h0⟩ | ⟨g, cap, cur, rfl, _, hgg, _, _, _, htake⟩
  · exact ⟨none, 0, by rw [h0], fun _ => rfl, fun hl => by omega⟩
  · refine ⟨_, cap, rfl, fun h => (by cases h), fun _ => ⟨g, 0, cur, _, rfl, hgg, fun j hj => ?_⟩⟩
    have h1 : (cellsI ks)[j]? = some (.int .i64 ks[j]) := by simp [cellsI, hj]
    rw [← htake, List.getElem?_take] at h1
    split at h1
    · simpa using h1
    · cases h1
theorem IntsAt.news {w : World} {ao : Option Addr} {n cap : Nat} {ks : List Int} (h : IntsAt w (.slice ao n cap) ks) (a : Addr) (ha : ao = some a) : ∀ j u, (cellsI ks)[j]? = some u → w.cell? (a.add j) = some u := by
  intro j u hu
  obtain ⟨ao', cap', e, _, hh⟩ := h
  simp only [Value.slice.injEq] at e
  obtain ⟨rfl, rfl, rfl⟩ := e
  have hjl : j < ks.length := by have := (List.getElem?_eq_some_iff.1 hu).1; rwa [cellsI_length] at this
  obtain ⟨b, o, cur, fr, e, hg, hc⟩ := hh (by omega)
  rw [e] at ha
  cases ha
  rw [show (⟨b, o, none⟩ : Addr).add j = ⟨b, o + j, none⟩ by unfold Addr.add; split <;> simp_all, cell_of_row _ _ _ _ _ _ hg, hc j hjl]
  simp [cellsI, hjl] at hu
  rw [← hu]
theorem int_at (w : World) (k : Int) (b : Nat) (hb : b = w.heap.size) : IntsAt (w.alloc (.cells #[.int .i64 k] 3)) (.slice (some ⟨b, 0, none⟩) 1 1) [k] := by
  refine ⟨_, _, rfl, fun h => (by cases h), fun _ => ⟨_, _, _, _, rfl, heap_new w _ b hb, fun j hj => ?_⟩⟩
  match j, hj with
  | 0, _ => rfl

set_option maxRecDepth 100000 in
set_option maxHeartbeats 400000 in
theorem growI_any (n : Nat) (w : World) (h1 : 1 ≤ n) (hn : n ≤ 1000000) :
    Calls Tryz.prog 199 #[.slice none 0 0, .int .i64 n] w fun e w' => ∃ v', e = .returned v' ∧ w'.ownsRow w.heap.size 3 1 v' 0 [] ∧ Below w.heap.size w w' := by
  obtain ⟨i0, hi, hz0, hz1, hz2⟩ := info_parts Tryz.infoInt
  have hr := fun ty => Lib.run_append_nil_zeros (P := Tryz.prog) w 67 3 ty 3 i0 _ .i64 .i64 Tryz.underlying67 Tryz.underlying3 hi hz0 n h1 (by rw [hz1]; decide) (by omega) (by rw [hz2]; omega)
  have HC := grownCap_ge w n 0 3
  have hmax := grownCap_le_maxLen w n 0 3 (by unfold maxLen; omega)
  have hn0 : (0 : Int) < (n : Int) := by omega
  generalize grownCap w n 0 3 = C at *
  go_enter Tryz.func199, Tryz.ntmps199
  go_wp2_with (at_builtin; refine Lib.wpList_append_run _ rfl (.tmp 20) (.tmp 21) 67 3 rfl _ _ rfl rfl _ _ (hr _) ?_)
  go_ret
  refine ⟨_, rfl, (World.ownsRow_made w _ C (Nat.le_refl _) hmax ?_).drew, ((Below.refl _ _).alloc (Nat.le_refl _) _).drew⟩
  simp [Builtin.zeroCells]
  omega

/-- The slice v holds slices of numbers. -/
def IntRows (w : World) (v : Value) (nss : List (List Int)) : Prop :=
  ∃ ao cap, v = .slice ao nss.length cap ∧ (0 < nss.length → ∃ b o, ao = some ⟨b, o, none⟩ ∧ b < w.heap.size ∧ ∀ j (h : j < nss.length), ∃ u, w.cell? ⟨b, o + j, none⟩ = some u ∧ IntsAt w u nss[j])

set_option maxRecDepth 100000 in
set_option maxHeartbeats 1000000 in
theorem concatI_any (nss : List (List Int)) (v : Value) (w : World) (hv : IntRows w v nss) (hl : nss.length ≤ 1000) (h1 : 1 ≤ nss.flatten.length) (hn : nss.flatten.length ≤ 1000000) :
    Calls Tryz.prog 189 #[v] w fun e w' => ∃ v', e = .returned v' ∧ IntsAt w' v' nss.flatten ∧ Below w.heap.size w w' := by
  obtain ⟨ao, cap, rfl, hc⟩ := hv
  obtain ⟨i0, hi, hz0, hz1, hz2⟩ := info_parts Tryz.infoInt
  have HFT : Hid (∀ k, k ≤ nss.length → (nss.take k).flatten.length ≤ nss.flatten.length) := fun k _ => by
    have e : nss.flatten = (nss.take k).flatten ++ (nss.drop k).flatten := by rw [← List.flatten_append, List.take_append_drop]
    rw [e, List.length_append]; omega
  go_enter Tryz.func189, Tryz.ntmps189
  go_wp2
  go_loop [3, 11] (fun s i => ∃ k L : Nat, k ≤ nss.length ∧ i = .int .i64 k ∧ s = .int .i64 L ∧ L = (nss.take k).flatten.length) (fun _ i => nss.length - (intOf i).toNat)
  case atStart => exact ⟨0, 0, Nat.zero_le _, rfl, rfl, rfl⟩
  case round =>
    obtain ⟨k, L, hk, rfl, rfl, hL⟩ := hrel
    have HL : Hid (L = (nss.take k).flatten.length) := hL
    clear hL
    by_cases hlt : k < nss.length
    · obtain ⟨b, o, rfl, hbB, hcell⟩ := hc (by omega)
      obtain ⟨u, hu, hN⟩ := hcell k hlt
      obtain ⟨ao', cap', rfl, hrest⟩ := hN
      clear hrest
      have h2 := HFT.out (k + 1) (by omega)
      have HF : Hid ((nss.take (k + 1)).flatten.length = (nss.take k).flatten.length + nss[k].length) := by show _ = _; rw [flatten_snoc nss k hlt, List.length_append]
      rw [HF.out, ← HL.out] at h2
      clear hcell hc
      generalize nss[k].length = m at *
      go_wp2
      go_round
      case rel => exact ⟨k + 1, L + m, by omega, by go_num, by go_num, by rw [HF.out, ← HL.out]⟩
      case measure => simp [intOf]; omega
    · have hkl : k = nss.length := by omega
      subst hkl
      have hLL : L = nss.flatten.length := by rw [HL.out, List.take_length]
      have HLL : Hid (L = nss.flatten.length) := hLL
      have hL1 : 1 ≤ L := by omega
      have hL2 : L ≤ 1000000 := by omega
      clear hLL HL
      go_wp2_with fail
      refine (growI_any L w hL1 hL2).mono ?_
      rintro e w1 ⟨v1, rfl, hown1, hbel1⟩
      go_wp2
      go_loopw [6, 27] (fun v i wr => ∃ k : Nat, k ≤ nss.length ∧ i = .int .i64 k ∧ wr.ownsRow w.heap.size 3 1 v (nss.take k).flatten.length (cellsI (nss.take k).flatten) ∧ Below w.heap.size w wr) (fun _ i _ => nss.length - (intOf i).toNat)
      case atStart => exact ⟨0, Nat.zero_le _, rfl, hown1, hbel1⟩
      case round =>
        obtain ⟨k, hk, rfl, hown, hbel⟩ := hrel
        have hsz := hbel.size
        by_cases hlt : k < nss.length
        · obtain ⟨b, o, rfl, hbB, hcell⟩ := hc (by omega)
          obtain ⟨u, hu, hN⟩ := hcell k hlt
          have hu' := (hbel.cell (p := ⟨b, o + k, none⟩) hbB).trans hu
          have hN2 := hN.keep (KeepsT.of_below hbel (Nat.le_refl _))
          obtain ⟨ao', cap', rfl, hz, hrest⟩ := id hN2
          clear hrest
          have HF : Hid ((nss.take (k + 1)).flatten = (nss.take k).flatten ++ nss[k]) := flatten_snoc nss k hlt
          have h2 := HFT.out (k + 1) (by omega)
          rw [HF.out, List.length_append] at h2
          have hnil : ao' = none → nss[k] = [] := by
            intro h0
            obtain ⟨_, _, e, _, hh⟩ := hN2
            simp only [Value.slice.injEq] at e
            obtain ⟨rfl, _, _⟩ := e
            rcases Nat.eq_zero_or_pos nss[k].length with h | h
            · exact List.eq_nil_of_length_eq_zero h
            · obtain ⟨_, _, _, _, h3, _⟩ := hh h; rw [h0] at h3; cases h3
          clear hcell hc hu hN
          generalize hLk : nss[k] = l at *
          generalize hM : (nss.take k).flatten = M at *
          clear hLk hM
          cases ao' with
          | none =>
            obtain rfl := hnil rfl
            obtain rfl := hz rfl
            rw [List.append_nil] at HF
            clear hN2 hz hnil
            go_wp2_with (at_builtin; refine wpList_append_own_none rfl (.tmp 31) (.tmp 32) 67 rfl w.heap.size 3 i0 1 Tryz.underlying67 hi _ _ _ rfl hown rfl ?_)
            go_roundw
            case rel => exact ⟨k + 1, by omega, by go_num, by rw [HF.out]; exact hown, hbel⟩
            case measure => simp [intOf]; omega
          | some ad =>
            have HNW : Hid _ := hN2.news ad rfl
            clear hN2 hz hnil
            go_wp2_with (at_builtin; refine wpList_append_own _ rfl (.tmp 31) (.tmp 32) 67 rfl w.heap.size 3 i0 (.int .i64 0) 1 8 Tryz.underlying67 hi hz0 hz1 hz2 rfl (by decide) _ _ _ rfl hown ad l.length cap' (cellsI l) rfl (by rw [cellsI_length, Nat.mul_one]) HNW.out (cellsI_one l) (by unfold maxLen; omega) (by omega) hsz ?_)
            intro v' w2 hown' hgrow _
            have R := hbel.grown hgrow hsz (fun g hg => (hown.lt g hg).1)
            clear hown hbel hgrow hu' HNW
            go_wp2
            go_roundw
            case rel => exact ⟨k + 1, by omega, by go_num, by rw [HF.out, List.length_append, cellsI_append]; exact hown', R⟩
            case measure => simp [intOf]; omega
        · have hkl : k = nss.length := by omega
          subst hkl
          rw [List.take_length] at hown
          go_wp2
          go_ret
          exact ⟨_, rfl, IntsAt.of_owns hown, hbel⟩

theorem irows2 (w : World) (b : Nat) (u0 u1 : Value) (n0 n1 : List Int) (hb : b = w.heap.size) (h0 : IntsAt w u0 n0) (h1 : IntsAt w u1 n1) : IntRows (w.alloc (.cells #[u0, u1] 67)) (.slice (some ⟨b, 0, none⟩) 2 2) [n0, n1] := by
  subst hb
  refine ⟨_, _, rfl, fun _ => ⟨_, _, rfl, by simp, fun j hj => ?_⟩⟩
  rw [Nat.zero_add, World.cell?_alloc_mark]
  match j, hj with
  | 0, _ => exact ⟨u0, rfl, h0.keep (keepA _ _)⟩
  | 1, _ => exact ⟨u1, rfl, h1.keep (keepA _ _)⟩
theorem irows3 (w : World) (b : Nat) (u0 u1 u2 : Value) (n0 n1 n2 : List Int) (hb : b = w.heap.size) (h0 : IntsAt w u0 n0) (h1 : IntsAt w u1 n1) (h2 : IntsAt w u2 n2) : IntRows (w.alloc (.cells #[u0, u1, u2] 67)) (.slice (some ⟨b, 0, none⟩) 3 3) [n0, n1, n2] := by
  subst hb
  refine ⟨_, _, rfl, fun _ => ⟨_, _, rfl, by simp, fun j hj => ?_⟩⟩
  rw [Nat.zero_add, World.cell?_alloc_mark]
  match j, hj with
  | 0, _ => exact ⟨u0, rfl, h0.keep (keepA _ _)⟩
  | 1, _ => exact ⟨u1, rfl, h1.keep (keepA _ _)⟩
  | 2, _ => exact ⟨u2, rfl, h2.keep (keepA _ _)⟩
theorem IntRows.drew {w : World} {v : Value} {nss : List (List Int)} (h : IntRows w v nss) : IntRows w.drew v nss := by
  obtain ⟨ao, cap, rfl, h⟩ := h
  refine ⟨ao, cap, rfl, fun hl => ?_⟩
  obtain ⟨b, o, rfl, hlt, hc⟩ := h hl
  refine ⟨b, o, rfl, hlt, fun j hj => ?_⟩
  obtain ⟨u, hu, hN⟩ := hc j hj
  exact ⟨u, hu, hN.keep (keepD _)⟩

end Go.Proofs.YtlndinigbppafaaGreat

/-
  The walk of the kinds of a proof's nodes.
-/
namespace Go.Proofs.YtlndinigbppafaaGreat
open Go.RowKit

/-- The kinds of a proof's nodes, by its rule. -/
def kindsR (f : Nat → Nat → Bool) (n : Int) : Nat → Nat → List Int
  | 0, p => if f p 0 = true then [0] else [1]
  | d + 1, p => if f p (d + 1) = true then [0] else if n ≤ ((p + pw d : Nat) : Int) then 3 :: kindsR f n d p else 2 :: (kindsR f n d p ++ kindsR f n d (p + pw d))
theorem kindsR_len (f : Nat → Nat → Bool) (n : Int) (d p : Nat) : 1 ≤ (kindsR f n d p).length ∧ (kindsR f n d p).length + 1 ≤ 2 * pw d := by
  induction d generalizing p with
  | zero => unfold kindsR; split <;> simp [pw]
  | succ d ih =>
    have h1 := ih p
    have h2 := ih (p + pw d)
    have h3 := pw_succ d
    have h4 := pw_pos d
    unfold kindsR
    split
    · simp; omega
    · split
      · simp; omega
      · simp; omega
theorem kindsR_M (i N : Int) (d p : Nat) : kindsR (ruleM i) N d p = kindsL 3 i N d p := by
  induction d generalizing p with
  | zero =>
    unfold kindsR kindsL kindOf ruleM
    by_cases h1 : i < (p : Int)
    · simp [h1]
    · by_cases h2 : (p : Int) + pw 0 ≤ i
      · simp [h2]
      · simp [h1, h2]
  | succ d ih =>
    have hk : kindOf 3 i N p (d + 1) = if (i < (p : Int) ∨ (p : Int) + pw (d + 1) ≤ i) then 0 else if (p : Int) + pw d < N then 2 else 3 := by
      unfold kindOf; simp
    have hr : (ruleM i p (d + 1) = true) ↔ (i < (p : Int) ∨ (p : Int) + pw (d + 1) ≤ i) := by
      unfold ruleM; simp
    unfold kindsR kindsL
    rw [hk, ih, ih]
    by_cases h : i < (p : Int) ∨ (p : Int) + pw (d + 1) ≤ i
    · rw [if_pos (hr.2 h), if_pos h, if_pos rfl]
    · rw [if_neg (fun x => h (hr.1 x)), if_neg h]
      by_cases h2 : (p : Int) + pw d < N
      · rw [if_neg (by omega), if_pos h2, if_neg (by omega), if_pos rfl]
      · rw [if_pos (by omega), if_neg h2, if_neg (by omega), if_neg (by omega)]
theorem kindsR_G (m N : Int) (d p : Nat) : kindsR (ruleG m) N d p = kindsL 2 m N d p := by
  induction d generalizing p with
  | zero =>
    unfold kindsR kindsL kindOf ruleG
    by_cases h1 : (p : Int) + pw 0 ≤ m
    · simp [h1]
    · by_cases h2 : m ≤ (p : Int)
      · simp [h2]
      · simp [h1, h2]
  | succ d ih =>
    have hk : kindOf 2 m N p (d + 1) = if ((p : Int) + pw (d + 1) ≤ m ∨ m ≤ (p : Int)) then 0 else if (p : Int) + pw d < N then 2 else 3 := by
      unfold kindOf; simp
    have hr : (ruleG m p (d + 1) = true) ↔ ((p : Int) + pw (d + 1) ≤ m ∨ m ≤ (p : Int)) := by
      unfold ruleG; simp
    unfold kindsR kindsL
    rw [hk, ih, ih]
    by_cases h : (p : Int) + pw (d + 1) ≤ m ∨ m ≤ (p : Int)
    · rw [if_pos (hr.2 h), if_pos h, if_pos rfl]
    · rw [if_neg (fun x => h (hr.1 x)), if_neg h]
      by_cases h2 : (p : Int) + pw d < N
      · rw [if_neg (by omega), if_pos h2, if_neg (by omega), if_pos rfl]
      · rw [if_pos (by omega), if_neg h2, if_neg (by omega), if_neg (by omega)]

set_option maxRecDepth 100000 in
set_option maxHeartbeats 1000000 in
theorem kinds_zero (p : Nat) (P n : Int) (f : Nat → Nat → Bool) (R : Value) (w : World) (eP : P = p) (hp : p ≤ 1000000) (hR : RuleAt w R f) :
    Calls Tryz.prog 175 #[.agg #[.int .i64 P, .int .i64 0], .int .i64 n, R] w fun e w' => ∃ v', e = .returned v' ∧ IntsAt w' v' (kindsR f n 0 p) ∧ Below w.heap.size w w' := by
  subst eP
  have hRW : RuleAt (w.alloc (.cells #[.int .i64 p, .int .i64 0] 188)) R f := hR.below ((Below.refl _ _).alloc (Nat.le_refl _) _)
  unfold kindsR
  go_enter Tryz.func175, Tryz.ntmps175
  go_wp2_with fail
  refine (leftOut_any p 0 _ _ R f _ rfl rfl hp (by omega) hRW).mono ?_
  rintro e w1 ⟨rfl, hb1⟩
  have c1 := cell_keep (a := ⟨w.heap.size, 1, none⟩) (show (w.alloc (.cells #[.int .i64 p, .int .i64 0] 188)).cell? ⟨w.heap.size, 1, none⟩ = some (.int .i64 0) by simp) hb1
  have hbw : Below w.heap.size w w1 := ((Below.refl _ _).alloc (Nat.le_refl _) _).trans (hb1.mono (by simp))
  have hz : w.heap.size < w1.heap.size := World.block_lt_of_cell? w1 _ c1
  cases hf : f p 0 with
  | true =>
    go_wp2
    all_goals go_ret
    all_goals exact ⟨_, rfl, int_at _ _ _ rfl, hbw.alloc hbw.size _⟩
  | false =>
    go_wp2
    all_goals go_ret
    all_goals exact ⟨_, rfl, int_at _ _ _ rfl, hbw.alloc hbw.size _⟩

theorem int_new (w : World) : IntsAt (w.alloc (.cells #[.int .i64 2] 3)) (.slice (some ⟨w.heap.size, 0, none⟩) 1 1) [2] := int_at w 2 _ rfl
theorem IntsAt.drewI {w : World} {v : Value} {ks : List Int} (h : IntsAt w v ks) : IntsAt w.drew v ks := h
theorem IntsAt.keepB {w w' : World} {G : Nat} (h : IntsAt w (.slice (some ⟨G, 0, none⟩) 1 1) [2]) (hb : Below w.heap.size w w') : IntsAt w' (.slice (some ⟨G, 0, none⟩) 1 1) [2] := h.keep (KeepsT.of_below hb (Nat.le_refl _))

set_option maxRecDepth 100000 in
set_option maxHeartbeats 4000000 in
theorem kinds_step (d p : Nat) (P D n : Int) (f : Nat → Nat → Bool) (R : Value) (w : World) (eP : P = p) (eD : D = (d : Int) + 1) (hp : p + pw (d + 1) ≤ 60000) (hd : d + 1 ≤ 15) (hR : RuleAt w R f)
    (ih : Hid (∀ (p : Nat) (P D : Int) (w : World), P = p → D = d → p + pw d ≤ 60000 → RuleAt w R f → Calls Tryz.prog 175 #[.agg #[.int .i64 P, .int .i64 D], .int .i64 n, R] w fun e w' => ∃ v', e = .returned v' ∧ IntsAt w' v' (kindsR f n d p) ∧ Below w.heap.size w w')) :
    Calls Tryz.prog 175 #[.agg #[.int .i64 P, .int .i64 D], .int .i64 n, R] w fun e w' => ∃ v', e = .returned v' ∧ IntsAt w' v' (kindsR f n (d + 1) p) ∧ Below w.heap.size w w' := by
  subst eP eD
  have h15 : pw d ≤ 32768 := pw_le (e := 15) (by omega)
  have hps := pw_succ d
  have hdz : (((d : Int) + 1) == 0) = false := beq_eq_false_iff_ne.2 (by omega)
  have hkl := kindsR_len f n d p
  have hkr := kindsR_len f n d (p + pw d)
  have hRW : RuleAt (w.alloc (.cells #[.int .i64 p, .int .i64 ((d : Int) + 1)] 188)) R f := hR.below ((Below.refl _ _).alloc (Nat.le_refl _) _)
  unfold kindsR
  go_enter Tryz.func175, Tryz.ntmps175
  go_wp2_with fail
  refine (leftOut_any p (d + 1) _ _ R f _ rfl (by omega) (by omega) (by omega) hRW).mono ?_
  rintro e w1 ⟨rfl, hb1⟩
  have c0 := cell_keep (a := ⟨w.heap.size, 0, none⟩) (show (w.alloc (.cells #[.int .i64 p, .int .i64 ((d : Int) + 1)] 188)).cell? ⟨w.heap.size, 0, none⟩ = some (.int .i64 p) by simp) hb1
  have c1 := cell_keep (a := ⟨w.heap.size, 1, none⟩) (show (w.alloc (.cells #[.int .i64 p, .int .i64 ((d : Int) + 1)] 188)).cell? ⟨w.heap.size, 1, none⟩ = some (.int .i64 ((d : Int) + 1)) by simp) hb1
  have hbw : Below w.heap.size w w1 := ((Below.refl _ _).alloc (Nat.le_refl _) _).trans (hb1.mono (by simp))
  have hz : w.heap.size < w1.heap.size := World.block_lt_of_cell? w1 _ c1
  have hR1 := hRW.below hb1
  clear hRW hR hb1
  cases hf : f p (d + 1) with
  | true =>
    go_wp2
    all_goals go_ret
    all_goals exact ⟨_, rfl, int_at _ _ _ rfl, hbw.alloc hbw.size _⟩
  | false =>
    go_wp2_with fail
    refine (strSingle_any p d _ _ _ rfl rfl _ (by omega) (by omega)).mono ?_
    rintro e w2 ⟨rfl, hb2⟩
    have c0' := cell_keep c0 hb2
    have c1' := cell_keep c1 hb2
    have hR2 := hR1.below hb2
    have hbw2 := hbw.trans (hb2.mono hbw.size)
    have hz2 : w.heap.size < w2.heap.size := World.block_lt_of_cell? w2 _ c1'
    clear c0 c1 hb2 hbw hz hR1
    by_cases hn : n ≤ ((p + pw d : Nat) : Int)
    · rw [decide_eq_true hn]
      have Hn : Hid _ := hn
      clear hn
      go_wp2_with fail
      have hK := int_at w2 3 w2.heap.size rfl
      have hbK : Below w2.heap.size w2 (w2.alloc (.cells #[.int .i64 3] 3)) := (Below.refl _ _).alloc (Nat.le_refl _) _
      have hR3 := hR2.below hbK
      generalize w2.alloc (.cells #[.int .i64 3] 3) = w3 at hK hbK hR3 ⊢
      refine (strLeft_any p d _ _ rfl rfl _ (by omega)).mono ?_
      rintro e w4 ⟨rfl, hb4⟩
      have hR4 := hR3.below hb4
      go_wp2_with fail
      refine (ih.out p _ _ _ rfl rfl (by omega) hR4).mono ?_
      rintro e w5 ⟨v5, rfl, hN5, hb5⟩
      have hK5 := (hK.keep (KeepsT.of_below hb4 (Nat.le_refl _))).keep (KeepsT.of_below hb5 (Nat.le_refl _))
      have hb25 : Below w2.heap.size w2 w5 := below_step (below_step hbK hb4) hb5
      have hbw5 := hbw2.trans (hb25.mono hbw2.size)
      obtain ⟨a5, p5, rfl, hrest⟩ := id hN5
      clear hrest hK hbK hb4 hb5 hR3 hR4 ih
      go_wp2_with fail
      refine (concatI_any [[3], kindsR f n d p] _ _ (irows2 _ _ _ _ _ _ (by simp) hK5 hN5) (by simp) (by simp) (by simp; omega)).mono ?_
      rintro e w6 ⟨v6, rfl, hN6, hb6⟩
      go_wp2
      all_goals go_ret
      all_goals refine ⟨_, rfl, ?_, (hbw5.alloc hbw5.size _).trans (hb6.mono (by have := hbw5.size; simp; omega))⟩
      all_goals first
        | exact (by simpa using hN6 : IntsAt w6 v6 (3 :: kindsR f n d p))
        | (rw [if_neg (by decide), if_pos Hn.out]; exact (by simpa using hN6 : IntsAt w6 v6 (3 :: kindsR f n d p)))
        | (exact absurd Hn.out (by omega))
    · rw [decide_eq_false hn]
      have Hn : Hid _ := hn
      clear hn
      have hpR : ((p + pw d : Nat) : Int) = (p : Int) + (pw d : Int) := by omega
      have HPR : Hid _ := hpR
      clear hpR
      go_wp2
      have h0 := And.intro c0' (And.intro c1' hR2)
      go_region_held3 (fun w' => w'.cell? ⟨w.heap.size, 0, none⟩ = some (.int .i64 p) ∧ w'.cell? ⟨w.heap.size, 1, none⟩ = some (.int .i64 ((d : Int) + 1)) ∧ RuleAt w' R f)
        (first | (with_reducible assumption) | (with_reducible exact keepR (by assumption) ((Below.refl _ _).alloc (Nat.le_refl _) _)) | (with_reducible exact keepR (by assumption) ((Below.refl _ _).drew)) | fail)
        (first
          | (go_at_call 146; refine (strLeft_any p d _ _ rfl rfl _ (by omega)).mono ?_; rintro e w3 ⟨rfl, hb3⟩; have hk3 := keepR (by with_reducible assumption) hb3; have hq3 : Below w2.heap.size w2 w3 := below_step (by repeat (first | exact Below.refl _ _ | refine Below.drew ?_ | refine Below.alloc ?_ (by first | omega | (simp; omega) | simp) _)) hb3; have hs3 := hq3.size; (first | (with_reducible have hz := IntsAt.keepB hz hb3) | (with_reducible have hz := IntsAt.keepB (int_new _) hb3) | (with_reducible have hz := IntsAt.keepB (IntsAt.drewI (int_new _)) hb3) | skip))
          | (go_at_call 150; refine (strRight_any p d _ _ rfl rfl _ (by omega) (by omega)).mono ?_; rintro e w5 ⟨rfl, hb5⟩; have hk5 := keepR (by with_reducible assumption) hb5; have hq5 : Below w2.heap.size w2 w5 := below_step (by repeat (first | exact hq4 | refine Below.alloc ?_ (by first | omega | (simp; omega) | simp) _)) hb5; have hs5 := hq5.size; (first | (with_reducible have hz := IntsAt.keepB hz hb5) | (with_reducible have hz := IntsAt.keepB (int_new _) hb5) | (with_reducible have hz := IntsAt.keepB (IntsAt.drewI (int_new _)) hb5) | skip))
          | (go_at_call 175; have hs5' := hs5; refine (ih.out (p + pw d) _ _ _ (by first | rfl | omega) rfl (by omega) (And.right (And.right (by with_reducible assumption)))).mono ?_; rintro e w6 ⟨v6, rfl, hN6, hb6⟩; obtain ⟨x6, y6, rfl, hrest⟩ := id hN6; clear hrest; have hk6 := keepR (by with_reducible assumption) hb6; have hq6 : Below w2.heap.size w2 w6 := below_step (by repeat (first | exact hq5 | refine Below.alloc ?_ (by first | omega | (simp; omega) | simp) _)) hb6; have hs6 := hq6.size; (first | (with_reducible have hz := IntsAt.keepB hz hb6) | (with_reducible have hz := IntsAt.keepB (int_new _) hb6) | (with_reducible have hz := IntsAt.keepB (IntsAt.drewI (int_new _)) hb6) | skip); have hM6 : IntsAt w6 (.slice x4 (kindsR f n d p).length y4) (kindsR f n d p) := (by first | exact (hN4.keep (KeepsT.of_below hb5 (Nat.le_refl _))).keep (KeepsT.of_below hb6 (Nat.le_refl _)) | exact ((hN4.keep (keepA _ _)).keep (KeepsT.of_below hb5 (Nat.le_refl _))).keep (KeepsT.of_below hb6 (Nat.le_refl _)) | exact ((hN4.keep (KeepsT.of_below hb5 (Nat.le_refl _))).keep (keepA _ _)).keep (KeepsT.of_below hb6 (Nat.le_refl _))))
          | (go_at_call 175; refine (ih.out p _ _ _ rfl rfl (by omega) (And.right (And.right (by with_reducible assumption)))).mono ?_; rintro e w4 ⟨v4, rfl, hN4, hb4⟩; obtain ⟨x4, y4, rfl, hrest⟩ := id hN4; clear hrest; have hk4 := keepR (by with_reducible assumption) hb4; have hq4 : Below w2.heap.size w2 w4 := below_step (by repeat (first | exact hq3 | refine Below.alloc ?_ (by first | omega | (simp; omega) | simp) _)) hb4; have hs4 := hq4.size; (first | (with_reducible have hz := IntsAt.keepB hz hb4) | (with_reducible have hz := IntsAt.keepB (int_new _) hb4) | (with_reducible have hz := IntsAt.keepB (IntsAt.drewI (int_new _)) hb4) | skip))
          | (go_at_call 189; refine (concatI_any [[2], kindsR f n d p, kindsR f n d (p + pw d)] _ _ (irows3 _ _ _ _ _ _ _ _ rfl hz hM6 hN6) (by simp) (by simp) (by simp; omega)).mono ?_; rintro e w7 ⟨v7, rfl, hN7, hb7⟩; have hk7 := keepR (keepR hk6 ((Below.refl _ _).alloc (Nat.le_refl _) _)) hb7; have hq7 : Below w2.heap.size w2 w7 := below_step (by repeat (first | exact hq6 | refine Below.alloc ?_ (by first | omega | (simp; omega) | simp) _)) hb7)
          | (go_at_call 189; refine (concatI_any [[2], kindsR f n d p, kindsR f n d (p + pw d)] _ _ (irows3 _ _ _ _ _ _ _ _ (by simp) (int_new w6) (hM6.keep (keepA _ _)) (hN6.keep (keepA _ _))) (by simp) (by simp) (by simp; omega)).mono ?_; rintro e w7 ⟨v7, rfl, hN7, hb7⟩; have hk7 := keepR (keepR hk6 (((Below.refl _ _).alloc (Nat.le_refl _) _).alloc (by simp) _)) hb7; have hq7 : Below w2.heap.size w2 w7 := below_step (by repeat (first | exact hq6 | refine Below.alloc ?_ (by first | omega | (simp; omega) | simp) _)) hb7)
          | fail)
      all_goals go_wp2
      all_goals go_ret
      all_goals refine ⟨_, rfl, ?_, hbw2.trans (hq7.mono hbw2.size)⟩
      all_goals first
        | exact (by simpa using hN7 : IntsAt w7 v7 (2 :: (kindsR f n d p ++ kindsR f n d (p + pw d))))
        | (rw [if_neg (by decide), if_neg Hn.out]; exact (by simpa using hN7 : IntsAt w7 v7 (2 :: (kindsR f n d p ++ kindsR f n d (p + pw d)))))
        | (exact absurd (by omega) Hn.out)

theorem kinds_any (n : Int) (f : Nat → Nat → Bool) (R : Value) (d : Nat) (hd : d ≤ 15) : ∀ (p : Nat) (P D : Int) (w : World), P = p → D = d → p + pw d ≤ 60000 → RuleAt w R f →
    Calls Tryz.prog 175 #[.agg #[.int .i64 P, .int .i64 D], .int .i64 n, R] w fun e w' => ∃ v', e = .returned v' ∧ IntsAt w' v' (kindsR f n d p) ∧ Below w.heap.size w w' := by
  induction d with
  | zero =>
    intro p P D w eP eD hp hR
    have : D = 0 := by omega
    subst this
    exact kinds_zero p P n f R w eP (by omega) hR
  | succ d ih =>
    intro p P D w eP eD hp hR
    have h := pw_succ d
    have h0 := pw_pos d
    exact kinds_step d p P D n f R w eP (by omega) (by omega) hd hR (fun p' P' D' w' e1 e2 h3 h4 => ih (by omega) p' P' D' w' e1 e2 h3 h4)

set_option maxRecDepth 100000 in
set_option maxHeartbeats 1000000 in
theorem Kinds_any (n : Nat) (f : Nat → Nat → Bool) (R : Value) (w : World) (h1 : 1 ≤ n) (hn : n ≤ 500) (hR : RuleAt w R f) :
    Calls Tryz.prog 156 #[.int .i64 n, R] w fun e w' => ∃ v', e = .returned v' ∧ IntsAt w' v' (kindsR f n (dep n) 0) ∧ Below w.heap.size w w' := by
  have hdp := dep_500 n (by omega)
  rw [Int.toNat_natCast] at hdp
  have hpw : pw (dep n) ≤ 512 := pw_le (e := 9) hdp
  go_enter Tryz.func156, Tryz.ntmps156
  go_wp2_with fail
  refine (whole_any n _ h1 (by omega)).mono ?_
  rintro e w1 ⟨rfl, hb1⟩
  go_wp2_with fail
  refine (kinds_any n f R (dep n) (by omega) 0 _ _ _ rfl rfl (by omega) (hR.below hb1)).mono ?_
  rintro e w2 ⟨v2, rfl, hN2, hb2⟩
  go_wp2
  go_ret
  exact ⟨_, rfl, hN2, below_step hb1 hb2⟩
end Go.Proofs.YtlndinigbppafaaGreat
