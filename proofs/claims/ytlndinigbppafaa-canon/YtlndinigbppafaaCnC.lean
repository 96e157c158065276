/-
  The walk of the statement's whole: a message that may be, cut short, with a byte more.
-/
import Derived.Test.YtlndinigbppafaaCnB
import Derived.Test.YtlndinigbppafaaEnM
import Derived.Test.YtlndinigbppafaaLogD
namespace Go.Proofs.Ytlndinigbppafaa
open Go.RowKit

theorem BytesC.take {w : World} {ad : Addr} {cp : Nat} {l : List UInt8} (h : BytesC w (.slice (some ad) l.length cp) l) (c : Nat) (hc : c ≤ l.length) : BytesC w (.slice (some ad) c cp) (l.take c) := by
  have hl : (l.take c).length = c := by rw [List.length_take]; omega
  obtain ⟨h1, ao, cap, e, hlc, hcm⟩ := h
  simp only [Value.slice.injEq] at e
  obtain ⟨rfl, -, rfl⟩ := e
  obtain ⟨ao', cap', e, hz, hcell⟩ := h1
  simp only [Value.slice.injEq] at e
  obtain ⟨rfl, -, rfl⟩ := e
  refine ⟨⟨some ad, cp, by rw [hl], fun h => (by cases h), fun hp => ?_⟩, some ad, cp, by rw [hl], by omega, hcm⟩
  rw [hl] at hp
  obtain ⟨b, o, cur, fr, e, hb, hx⟩ := hcell (by omega)
  refine ⟨b, o, cur, fr, e, hb, fun j hj => ?_⟩
  rw [List.getElem_take]
  exact hx j (by omega)

set_option maxRecDepth 100000 in
set_option maxHeartbeats 4000000 in
theorem wholeMsg_any (x : Msg) (hx : ValidM x) (ad : Addr) (cp : Nat) (cut : Int) (w : World) (hv : BytesC w (.slice (some ad) (encV x).length cp) (encV x)) (h0 : -9223372036854775808 ≤ cut) (h1 : cut ≤ 9223372036854775807) :
    Calls Try.prog 28 #[.slice (some ad) (encV x).length cp, .int .i64 cut] w fun e w' => e = .returned (.bool true) ∧ Below w.heap.size w w' := by
  have hsh := hx.short
  have HX : Hid _ := hx
  obtain ⟨i0, hi, hz0, hz1, hz2⟩ := info_parts Try.infoByte
  go_enter Try.func28, Try.ntmps28
  go_wp2_with fail
  refine (steleDecode_any _ _ _ hv).mono ?_
  rintro e w1 ⟨hb1, hout⟩
  rw [decS_enc HX.out] at hout
  obtain ⟨ao, c4, rfl, hN1⟩ := hout
  go_wp2_with fail
  have hA : Below w1.heap.size w1 (w1.alloc (.cells #[.int .i64 x.kind, .int .i64 x.m, .int .i64 x.n, .int .i64 x.root, .slice ao x.tree.length c4] 42)) := (Below.refl _ _).alloc (Nat.le_refl _) _
  have hb2 := hb1.trans (hA.mono hb1.size)
  have hN2 := hN1.keep (KeepsT.of_below hA (Nat.le_refl _))
  clear hb1 hA hN1
  generalize w1.alloc (.cells #[.int .i64 x.kind, .int .i64 x.m, .int .i64 x.n, .int .i64 x.root, .slice ao x.tree.length c4] 42) = u2 at hb2 hN2 ⊢
  refine (steleEncode_any _ _ _ _ _ _ _ hN2.any).mono ?_
  rintro e u3 ⟨hb3, hout⟩
  rcases hout with ⟨_, v3, rfl, hO3⟩ | ⟨hn, _⟩
  rotate_left
  · exact absurd HX.out hn
  have hO3' : u3.ownsRow u2.heap.size 5 1 v3 (encV x).length (bytes8 (encV x)) := hO3
  have hb03 := hb2.trans (hb3.mono hb2.size)
  clear hO3 hN2 hb2 hb3
  go_wp2_with fail
  refine (pick_any cut _ _ h0 h1 (by omega) (by omega)).mono ?_
  rintro e u4 ⟨rfl, rfl⟩
  have hpk := pickZ_bd cut (encV x).length (by omega)
  obtain ⟨c, hc⟩ : ∃ c : Nat, pickZ cut (encV x).length = c := ⟨(pickZ cut (encV x).length).toNat, by omega⟩
  rw [hc] at hpk ⊢
  have hcl : c < (encV x).length := by omega
  clear hc hpk
  have hv3 := hv.below hb03
  obtain ⟨_, ao0, cap0, e0, hlc, hcm⟩ := id hv
  simp only [Value.slice.injEq] at e0
  obtain ⟨rfl, -, rfl⟩ := e0
  go_wp2_with fail
  refine (steleDecode_any _ _ _ (hv3.take c (by omega))).mono ?_
  rintro e u5 ⟨hb5, hout⟩
  rw [decS_cut HX.out c hcl] at hout
  obtain ⟨_, rfl⟩ := hout
  have hb05 := hb03.trans (hb5.mono hb03.size)
  have hO5 := owns_below hO3' hb5
  have hv5 := hv3.below hb5
  clear hO3' hb03 hb5 hv3 hv
  have hA : Below u5.heap.size u5 (u5.alloc (.cells #[.int .i64 0, .int .i64 0, .int .i64 0, .int .i64 0, .slice none 0 0] 42)) := (Below.refl _ _).alloc (Nat.le_refl _) _
  have hv6 := hv5.below hA
  have hO6 := owns_below hO5 hA
  have hb06 := hb05.trans (hA.mono hb05.size)
  have hz6 := hb06.size
  have HN : Hid (∀ j u, (bytes8 (encV x))[j]? = some u → (u5.alloc (.cells #[.int .i64 0, .int .i64 0, .int .i64 0, .int .i64 0, .slice none 0 0] 42)).cell? (ad.add j) = some u) := by
    intro j u hj
    have hjl : j < (encV x).length := by have := (List.getElem?_eq_some_iff.1 hj).1; rwa [bytes8_length] at this
    obtain ⟨b', o', cp', e', _, _, _, _, h2⟩ := hv6.cells (by omega)
    simp only [Value.slice.injEq, Option.some.injEq] at e'
    obtain ⟨rfl, -, -⟩ := e'
    have h3 : (bytes8 (encV x))[j]? = some (.int .u8 (encV x)[j].toNat) := by simp [bytes8, hjl]
    rw [h3] at hj
    cases hj
    rw [show (⟨b', o', none⟩ : Addr).add j = ⟨b', o' + j, none⟩ by unfold Addr.add; split <;> simp_all]
    exact h2 j hjl
  clear hO5 hv5 hb05 hA
  go_wp2_with (at_builtin; refine wpList_append_lies _ rfl (.tmp 41) (.tmp 42) 24 rfl w.heap.size 5 i0 (.int .u8 0) 1 1 Try.underlying24 hi hz0 hz1 hz2 rfl (by decide) _ _ _ rfl (World.ownsRow_nil _ _ _ _) ad (encV x).length cp (bytes8 (encV x)) rfl (by rw [bytes8_length]; omega) HN.out (bytes8_one _) (by omega) (by unfold maxLen; omega) (by omega) hz6 _ rfl ?_)
  intro g7 cp7 w7 hO7 hg7 hat7 _
  have hge : g7 = (u5.alloc (.cells #[.int .i64 0, .int .i64 0, .int .i64 0, .int .i64 0, .slice none 0 0] 42)).heap.size := by
    rcases hat7 with h | h
    · simp [Value.ownBlock] at h
    · simpa using h
  have hg := (Below.refl (u5.alloc (.cells #[.int .i64 0, .int .i64 0, .int .i64 0, .int .i64 0, .slice none 0 0] 42)).heap.size _).grown hg7 (Nat.le_refl _) (fun g hg => by simp [Value.ownBlock] at hg)
  clear hg7 hat7 HN
  generalize u5.alloc (.cells #[.int .i64 0, .int .i64 0, .int .i64 0, .int .i64 0, .slice none 0 0] 42) = U at *
  have hgs := hg.size
  go_wp2_with (at_builtin; refine wpList_append_own _ rfl (.tmp 44) (.tmp 45) 24 rfl w.heap.size 5 i0 (.int .u8 0) 1 1 Try.underlying24 hi hz0 hz1 hz2 rfl (by decide) _ _ _ rfl (hO7.alloc _) ⟨w7.heap.size, 0, none⟩ 1 1 (bytes8 [0]) rfl rfl (World.news_of_block (heap_alloc_new w7 _)) (bytes8_one _) (by unfold maxLen; omega) (by omega) (by simp; omega) ?_)
  intro v8 w8 hO8 hg8 _
  have hA : Below U.heap.size U (w7.alloc (.cells #[.int .u8 0] 5)) := hg.alloc hgs _
  have hB8 : Below U.heap.size U w8 := hA.grown hg8 (by simp; omega) (fun g h => by simp [Value.ownBlock] at h; omega)
  have hv8 := hv6.below hB8
  have hO38 := owns_below hO6 hB8
  have hb08 := hb06.trans (hB8.mono hb06.size)
  have hl8 : (encV x ++ [0]).length = (encV x).length + 1 := by simp
  rw [← bytes8_append] at hO8
  have hC8 : BytesC w8 v8 (encV x ++ [0]) := BytesC.of_owns hO8
  obtain ⟨a8, c8, rfl⟩ : ∃ a8 c8, v8 = .slice a8 ((encV x).length + 1) c8 := by
    obtain ⟨_, a8, c8, e, _⟩ := hC8
    exact ⟨a8, c8, by rw [e, hl8]⟩
  clear hO7 hg hgs hg8 hA hB8 hv6 hO6 hb06 hO8 hge hz6
  go_wp2_with fail
  refine (steleDecode_any _ _ _ hC8).mono ?_
  rintro e u9 ⟨hb9, hout⟩
  rw [decS_more HX.out 0 (by omega)] at hout
  obtain ⟨_, rfl⟩ := hout
  have hv9 := hv8.below hb9
  have hO39 := owns_below hO38 hb9
  have hb09 := hb08.trans (hb9.mono hb08.size)
  obtain ⟨ad3, cp3, rfl⟩ : ∃ ad3 cp3, v3 = .slice (some ad3) (encV x).length cp3 := by
    rcases hO39.2 with ⟨rfl, h0⟩ | ⟨g', cap', cur', rfl, _⟩
    · omega
    · exact ⟨_, _, rfl⟩
  have hA : Below u9.heap.size u9 (u9.alloc (.cells #[.int .i64 0, .int .i64 0, .int .i64 0, .int .i64 0, .slice none 0 0] 42)) := (Below.refl _ _).alloc (Nat.le_refl _) _
  have hcv := conv_slice _ _ ad cp (hv9.below hA).1
  have hcv3 := conv_slice _ _ ad3 cp3 (BytesAt.of_owns (owns_below hO39 hA))
  have hb10 := hb09.trans (hA.mono hb09.size)
  clear hv9 hO39 hb9 hb08 hv8 hO38 hC8 hA hb09
  go_wp2
  all_goals go_returns
  all_goals exact ⟨rfl, hb10⟩
end Go.Proofs.Ytlndinigbppafaa

/-
  The walk of the statement Canon, whole: every text, every list of events, every number.
-/
namespace Go.Proofs.Ytlndinigbppafaa
open Go.RowKit

set_option maxRecDepth 100000 in
set_option maxHeartbeats 4000000 in
theorem canon_any (s : ByteArray) (ps : List ByteArray) (v : Value) (i n cut : Int) (w : World) (hs : s.size ≤ maxLen) (hv : StringsAt w v ps) (hn : ps.length ≤ 9223372036854775807) (hp : ∀ p ∈ ps, p.size ≤ 9223372036854775807)
    (i0 : -9223372036854775808 ≤ i) (i1 : i ≤ 9223372036854775807) (n0 : -9223372036854775808 ≤ n) (n1 : n ≤ 9223372036854775807) (c0 : -9223372036854775808 ≤ cut) (c1 : cut ≤ 9223372036854775807) :
    Calls Try.prog 9 #[.string s, v, .int .i64 i, .int .i64 n, .int .i64 cut] w fun e w' => e = .returned (.bool true) ∧ Below w.heap.size w w' := by
  have HP : Hid _ := hp
  have HV : Hid _ := hv
  obtain ⟨ao, cap, rfl, _⟩ := id hv
  clear hp hv
  go_enter Try.func9, Try.ntmps9
  go_wp2_with fail
  refine (rooted_any _).mono ?_
  rintro e w1 ⟨rfl, hb1⟩
  go_wp2_with fail
  have hv1 : StringsAt w1 (.slice ao ps.length cap) ps := by
    obtain ⟨ao', cap', e, h⟩ := HV.out
    refine ⟨ao', cap', e, fun hl => ?_⟩
    obtain ⟨b, o, e2, hb, hc⟩ := h hl
    exact ⟨b, o, e2, Nat.lt_of_lt_of_le hb hb1.size, fun j hj => (hb1.cell (p := ⟨b, o + j, none⟩) hb).trans (hc j hj)⟩
  refine (kept_any ps _ _ hv1 hn HP.out).mono ?_
  rintro e w2 ⟨B, S, o, rfl, hL, hO, _, hb2⟩
  have hK1 := (keptL_len ps).1
  have hK2 := (keptL_len ps).2
  have hle := keptL_le ps
  have HLE : Hid _ := hle
  have hb02 := hb1.trans (hb2.mono hb1.size)
  obtain ⟨oo, oc, rfl⟩ : ∃ oo oc, o = .slice oo (keptL ps).length oc := by
    rcases hO.2 with ⟨rfl, h0⟩ | ⟨g', cap', cur', rfl, _⟩
    · omega
    · exact ⟨_, _, rfl⟩
  clear hv1 HV HP hle hb1 hb2 hO
  generalize keptL ps = evs at *
  have hcv := run_bytes_of_string (P := Try.prog) w2 9 24 5 s Try.underlying9 Try.underlying24 Try.underlying5
  have hge := grownCap_ge w2 s.size 0 5
  have hmax := grownCap_le_maxLen w2 s.size 0 5 hs
  generalize grownCap w2 s.size 0 5 = cp at hcv hge hmax
  generalize ((bytesRow s cp).size, (bytesRow s cp).size + 1) = fr at hcv
  have hll : s.data.toList.length = s.size := by rw [Array.length_toList]; rfl
  have hB : BytesAt (w2.drew.alloc (.cells (bytesRow s cp) 5 fr)) (.slice (some ⟨w2.heap.size, 0, none⟩) s.data.toList.length cp) s.data.toList := by
    rw [hll]; exact BytesAt.made w2.drew s cp fr
  have hC : BytesC (w2.drew.alloc (.cells (bytesRow s cp) 5 fr)) (.slice (some ⟨w2.heap.size, 0, none⟩) s.size cp) s.data.toList := ⟨by rw [← hll]; exact hB, _, _, by rw [hll], by omega, hmax⟩
  have hA : Below w2.heap.size w2 (w2.drew.alloc (.cells (bytesRow s cp) 5 fr)) := ((Below.refl _ _).drew).alloc (Nat.le_refl _) _
  have hL3 := hL.below hA
  have hb03 := hb02.trans (hA.mono hb02.size)
  have HC : Hid _ := hC
  clear hB hll hge hmax hA hL hb02 hC
  go_wp2_with fail
  refine (steleDecode_any _ _ _ HC.out).mono ?_
  generalize w2.drew.alloc (.cells (bytesRow s cp) 5 fr) = u3 at hL3 hb03 ⊢
  clear HC hcv
  rintro e u4 ⟨hb4, hout⟩
  have hL4 := hL3.below hb4
  have hb04 := hb03.trans (hb4.mono hb03.size)
  clear hL3 hb4 hb03
  cases hd : decS s.data.toList with
  | error y =>
    obtain ⟨f, q⟩ := y
    rw [hd] at hout
    obtain ⟨hf, rfl⟩ := hout
    have hfe : (f == 0) = false := by simpa using hf
    clear hd
    have hA : Below u4.heap.size u4 (u4.alloc (.cells #[.int .i64 0, .int .i64 0, .int .i64 0, .int .i64 0, .slice none 0 0] 42)) := (Below.refl _ _).alloc (Nat.le_refl _) _
    have hL5 := hL4.below hA
    have hb05 := hb04.trans (hA.mono hb04.size)
    clear hA hL4 hb04
    go_wp2_with fail
    generalize u4.alloc (.cells #[.int .i64 0, .int .i64 0, .int .i64 0, .int .i64 0, .slice none 0 0] 42) = U at hL5 hb05 ⊢
    refine (pick_any n _ _ n0 n1 (by omega) (by omega)).mono ?_
    rintro e _ ⟨rfl, rfl⟩
    have hpn := pickZ_bd n evs.length (by omega)
    obtain ⟨N, hN⟩ : ∃ N : Nat, pickZ n evs.length = N := ⟨(pickZ n evs.length).toNat, by omega⟩
    rw [hN] at hpn ⊢
    clear hN
    obtain ⟨K, hK⟩ : ∃ K : Nat, K = N + 1 := ⟨_, rfl⟩
    have hlen : (evs.take K).length = K := by rw [List.length_take]; omega
    go_wp2_with fail
    have e1 : (1 : Int) + (N : Int) = (K : Int) := by omega
    rw [e1]
    have hK1 : 1 ≤ K := by omega
    have hKe : K ≤ evs.length := by omega
    clear e1 hK hpn
    refine (pick_any i _ _ i0 i1 (by omega) (by omega)).mono ?_
    rintro e _ ⟨rfl, rfl⟩
    have hpi := pickZ_bd i (K : Int) (by omega)
    obtain ⟨I, hI⟩ : ∃ I : Nat, pickZ i (K : Int) = I := ⟨(pickZ i (K : Int)).toNat, by omega⟩
    rw [hI] at hpi ⊢
    have hM : Hid (ValidM (memberM (evs.take K) I)) := member_valid _ _ (take_small HLE.out) (by rw [hlen]; omega) (by omega)
    have hG : Hid (ValidM (growthM (evs.take K) (1 + I))) := growth_valid _ _ (take_small HLE.out) (by rw [hlen]; omega) (by omega)
    go_wp2_with fail
    refine (member_ok _ _ B S evs I K hL5 (by omega) (by omega) (by omega) (by omega) (by omega) (fun s hs => Nat.le_trans (HLE.out s hs) (by omega))).mono ?_
    rintro e u6 ⟨v6, rfl, hO6, hb6⟩
    have hL6 := hL5.below hb6
    have hb06 := hb05.trans (hb6.mono hb05.size)
    clear hL5 hb6 hb05
    go_wp2_with fail
    refine (pick_any i _ _ i0 i1 (by omega) (by omega)).mono ?_
    rintro e _ ⟨rfl, rfl⟩
    rw [hI]
    clear hI
    go_wp2_with fail
    refine (growth_ok _ _ B S evs (1 + I) K hL6 (by omega) (by omega) (by omega) (by omega) (by omega) (fun s hs => Nat.le_trans (HLE.out s hs) (by omega))).mono ?_
    rintro e u7 ⟨v7, rfl, hO7, hb7⟩
    rw [memberB_eq] at hO6
    rw [growthB_eq] at hO7
    have hO67 := owns_below hO6 hb7
    have hb07 := hb06.trans (hb7.mono hb06.size)
    obtain ⟨ad6, cp6, rfl⟩ : ∃ ad6 cp6, v6 = .slice (some ad6) (encV (memberM (evs.take K) I)).length cp6 := by
      have := hM.out.short.1
      rcases hO6.2 with ⟨rfl, h0⟩ | ⟨g', cap', cur', rfl, _⟩
      · omega
      · exact ⟨_, _, rfl⟩
    obtain ⟨ad7, cp7, rfl⟩ : ∃ ad7 cp7, v7 = .slice (some ad7) (encV (growthM (evs.take K) (1 + I))).length cp7 := by
      have := hG.out.short.1
      rcases hO7.2 with ⟨rfl, h0⟩ | ⟨g', cap', cur', rfl, _⟩
      · omega
      · exact ⟨_, _, rfl⟩
    clear hL6 hb7 hb06 hO6
    go_wp2_with fail
    refine (wholeMsg_any _ hM.out ad6 cp6 cut u7 (BytesC.of_owns hO67) c0 c1).mono ?_
    rintro e u8 ⟨rfl, hb8⟩
    have hO78 := owns_below hO7 hb8
    have hb08 := hb07.trans (hb8.mono hb07.size)
    clear hO7 hO67 hb07 hb8
    go_wp2_with fail
    refine (wholeMsg_any _ hG.out ad7 cp7 cut u8 (BytesC.of_owns hO78) c0 c1).mono ?_
    rintro e u9 ⟨rfl, hb9⟩
    have hb09 := hb08.trans (hb9.mono hb08.size)
    go_wp2
    all_goals go_returns
    all_goals exact ⟨rfl, hb09⟩
  | ok x =>
    rw [hd] at hout
    obtain ⟨at4, cp4, rfl, hN4⟩ := hout
    have hx := (decS_ok hd).1
    have hse : s = ⟨(encV x).toArray⟩ := by
      have := (decS_ok hd).2
      obtain ⟨⟨l⟩⟩ := s
      simp only at this
      rw [this]
    have HX : Hid _ := hx
    have HS : Hid _ := hse
    have hsh := hx.short
    clear hd hx hse
    have hA : Below u4.heap.size u4 (u4.alloc (.cells #[.int .i64 x.kind, .int .i64 x.m, .int .i64 x.n, .int .i64 x.root, .slice at4 x.tree.length cp4] 42)) := (Below.refl _ _).alloc (Nat.le_refl _) _
    have hLA := hL4.below hA
    have hb0A := hb04.trans (hA.mono hb04.size)
    have hNA := hN4.keep (KeepsT.of_below hA (Nat.le_refl _))
    clear hA hL4 hb04 hN4
    go_wp2_with fail
    generalize u4.alloc (.cells #[.int .i64 x.kind, .int .i64 x.m, .int .i64 x.n, .int .i64 x.root, .slice at4 x.tree.length cp4] 42) = uA at hLA hb0A hNA ⊢
    refine (steleEncode_any _ _ _ _ _ _ _ hNA.any).mono ?_
    rintro e U ⟨hbU, hout⟩
    rcases hout with ⟨_, v5, rfl, hO5⟩ | ⟨hn, _⟩
    rotate_left
    · exact absurd HX.out hn
    have hO5' : U.ownsRow uA.heap.size 5 1 v5 (encV x).length (bytes8 (encV x)) := hO5
    have hL5 := hLA.below hbU
    have hb05 := hb0A.trans (hbU.mono hb0A.size)
    clear hLA hb0A hNA hbU hO5
    obtain ⟨ad5, cp5, rfl⟩ : ∃ ad5 cp5, v5 = .slice (some ad5) (encV x).length cp5 := by
      rcases hO5'.2 with ⟨rfl, h0⟩ | ⟨g', cap', cur', rfl, _⟩
      · omega
      · exact ⟨_, _, rfl⟩
    have hcv := conv_slice _ _ ad5 cp5 (BytesAt.of_owns hO5')
    have hcv2 := conv_slice _ _ ad5 cp5 ((BytesAt.of_owns hO5').keep (keepD _))
    rw [← HS.out] at hcv hcv2
    clear hO5'
    go_wp2_with fail
    refine (pick_any n _ _ n0 n1 (by omega) (by omega)).mono ?_
    rintro e _ ⟨rfl, rfl⟩
    have hpn := pickZ_bd n evs.length (by omega)
    obtain ⟨N, hN⟩ : ∃ N : Nat, pickZ n evs.length = N := ⟨(pickZ n evs.length).toNat, by omega⟩
    rw [hN] at hpn ⊢
    clear hN
    obtain ⟨K, hK⟩ : ∃ K : Nat, K = N + 1 := ⟨_, rfl⟩
    have hlen : (evs.take K).length = K := by rw [List.length_take]; omega
    go_wp2_with fail
    have e1 : (1 : Int) + (N : Int) = (K : Int) := by omega
    rw [e1]
    have hK1 : 1 ≤ K := by omega
    have hKe : K ≤ evs.length := by omega
    clear e1 hK hpn
    refine (pick_any i _ _ i0 i1 (by omega) (by omega)).mono ?_
    rintro e _ ⟨rfl, rfl⟩
    have hpi := pickZ_bd i (K : Int) (by omega)
    obtain ⟨I, hI⟩ : ∃ I : Nat, pickZ i (K : Int) = I := ⟨(pickZ i (K : Int)).toNat, by omega⟩
    rw [hI] at hpi ⊢
    have hM : Hid (ValidM (memberM (evs.take K) I)) := member_valid _ _ (take_small HLE.out) (by rw [hlen]; omega) (by omega)
    have hG : Hid (ValidM (growthM (evs.take K) (1 + I))) := growth_valid _ _ (take_small HLE.out) (by rw [hlen]; omega) (by omega)
    go_wp2_with fail
    refine (member_ok _ _ B S evs I K hL5 (by omega) (by omega) (by omega) (by omega) (by omega) (fun s hs => Nat.le_trans (HLE.out s hs) (by omega))).mono ?_
    rintro e u6 ⟨v6, rfl, hO6, hb6⟩
    have hL6 := hL5.below hb6
    have hb06 := hb05.trans (hb6.mono hb05.size)
    clear hL5 hb6 hb05
    go_wp2_with fail
    refine (pick_any i _ _ i0 i1 (by omega) (by omega)).mono ?_
    rintro e _ ⟨rfl, rfl⟩
    rw [hI]
    clear hI
    go_wp2_with fail
    refine (growth_ok _ _ B S evs (1 + I) K hL6 (by omega) (by omega) (by omega) (by omega) (by omega) (fun s hs => Nat.le_trans (HLE.out s hs) (by omega))).mono ?_
    rintro e u7 ⟨v7, rfl, hO7, hb7⟩
    rw [memberB_eq] at hO6
    rw [growthB_eq] at hO7
    have hO67 := owns_below hO6 hb7
    have hb07 := hb06.trans (hb7.mono hb06.size)
    obtain ⟨ad6, cp6, rfl⟩ : ∃ ad6 cp6, v6 = .slice (some ad6) (encV (memberM (evs.take K) I)).length cp6 := by
      have := hM.out.short.1
      rcases hO6.2 with ⟨rfl, h0⟩ | ⟨g', cap', cur', rfl, _⟩
      · omega
      · exact ⟨_, _, rfl⟩
    obtain ⟨ad7, cp7, rfl⟩ : ∃ ad7 cp7, v7 = .slice (some ad7) (encV (growthM (evs.take K) (1 + I))).length cp7 := by
      have := hG.out.short.1
      rcases hO7.2 with ⟨rfl, h0⟩ | ⟨g', cap', cur', rfl, _⟩
      · omega
      · exact ⟨_, _, rfl⟩
    clear hL6 hb7 hb06 hO6
    go_wp2_with fail
    refine (wholeMsg_any _ hM.out ad6 cp6 cut u7 (BytesC.of_owns hO67) c0 c1).mono ?_
    rintro e u8 ⟨rfl, hb8⟩
    have hO78 := owns_below hO7 hb8
    have hb08 := hb07.trans (hb8.mono hb07.size)
    clear hO7 hO67 hb07 hb8
    go_wp2_with fail
    refine (wholeMsg_any _ hG.out ad7 cp7 cut u8 (BytesC.of_owns hO78) c0 c1).mono ?_
    rintro e u9 ⟨rfl, hb9⟩
    have hb09 := hb08.trans (hb9.mono hb08.size)
    go_wp2
    all_goals go_returns
    all_goals exact ⟨rfl, hb09⟩
end Go.Proofs.Ytlndinigbppafaa
