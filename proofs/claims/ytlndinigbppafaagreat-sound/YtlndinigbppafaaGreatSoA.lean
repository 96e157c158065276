/-
  The walk of Sound.
-/
import Derived.Test.YtlndinigbppafaaGreatJ52
import Derived.Test.YtlndinigbppafaaGreatArgIn
import Derived.Test.YtlndinigbppafaaGreatLv
import Derived.Test.YtlndinigbppafaaGreatRows
import Derived.ChangeMaps5
namespace Go.Proofs.YtlndinigbppafaaGreat
open Go.RowKit Go.Deep

/-- A string made bytes. -/
theorem conv_C (w : World) (s : ByteArray) (c : Nat) (fr : Nat × Nat) (h : s.size ≤ c ∧ c ≤ maxLen) :
    BytesC (w.alloc (.cells (bytesRow s c) 5 fr)).drew (.slice (some ⟨w.heap.size, 0, none⟩) s.size c) s.data.toList ∧ Below w.heap.size w (w.alloc (.cells (bytesRow s c) 5 fr)).drew := by
  have e : s.data.toList.length = s.size := by simp
  exact ⟨⟨(made_at w s _ _ _ _ rfl rfl).keep (keepD _), _, _, by rw [e], by omega, h.2⟩, ((Below.refl _ _).alloc (Nat.le_refl _) _).drew⟩

set_option maxRecDepth 100000 in
set_option maxHeartbeats 1000000 in
theorem sound_any (ps : List ByteArray) (v : Value) (w : World) (hv : StringsAt w v ps) (hn : ps.length ≤ 9223372036854775807) (hp : ∀ p ∈ ps, p.size ≤ maxLen) :
    Calls Tryz.prog 7 #[v] w fun e w' => e = .returned (.bool true) ∧ Below w.heap.size w w' := by
  obtain ⟨ao, cap, rfl, hcell⟩ := hv
  go_enter Tryz.func7, Tryz.ntmps7
  go_wp2_with fail
  refine (known_any w).mono ?_
  rintro e w1 ⟨rfl, hB1⟩
  go_wp2_with fail
  refine (unseen_any w1).mono ?_
  rintro e w2 ⟨rfl, hb2⟩
  have hB2 := below_step hB1 hb2
  clear hB1 hb2
  go_wp2_with fail
  refine (newAud_any w2).mono ?_
  rintro e w3 ⟨rfl, hA3, hb3⟩
  have hB3 := below_step hB2 hb3
  have hs2 := hB2.size
  clear hB2 hb3
  go_wp2
  go_loopw [6] (fun i wr => ∃ (k : Nat) (ts : List Msg), k ≤ ps.length ∧ i = .int .i64 k ∧ AudAt wr w2.heap.size w2.heap.size ts ∧ Below w.heap.size w wr) (fun i _ => ps.length - (intOf i).toNat)
  case atStart => exact ⟨0, [], Nat.zero_le _, rfl, hA3, hB3⟩
  case round =>
    obtain ⟨k, ts, hk, rfl, hA, hB⟩ := hrel
    have hBs := hB.size
    have hAs := hA.lt
    by_cases hlt : k < ps.length
    · obtain ⟨b, o, rfl, hbB, hcl⟩ := hcell (by omega)
      have hck := (hB.cell (p := ⟨b, o + k, none⟩) hbB).trans (hcl k hlt)
      have hsz := hp _ (List.getElem_mem hlt)
      have hcv := @run_bytes_of_string Tryz.prog wr 9 27 5 ps[k] Tryz.underlying9 Tryz.underlying27 Tryz.underlying5
      have hG : ps[k].size ≤ grownCap wr ps[k].size 0 5 ∧ grownCap wr ps[k].size 0 5 ≤ maxLen := ⟨grownCap_ge _ _ 0 5, grownCap_le_maxLen wr _ 0 5 hsz⟩
      clear hcl hcell
      go_wp2_with fail
      obtain ⟨hC, hbC⟩ := conv_C wr ps[k] (grownCap wr ps[k].size 0 5) ((bytesRow ps[k] (grownCap wr ps[k].size 0 5)).size, (bytesRow ps[k] (grownCap wr ps[k].size 0 5)).size + 1) hG
      refine (take_any _ _ _ ts _ _ (hA.below hbC) hC).mono ?_
      rintro e w4 ⟨rfl, hA4, hK4⟩
      have hB4 := below_step hB hbC
      have hB5 : Below w.heap.size w w4 := hB4.trans ((KeepsA.below hK4 (Nat.le_trans (by omega) hbC.size)).mono hs2)
      clear hck hcv hA hB hK4 hC hbC hB4
      go_wp2
      go_roundw
      case rel => exact ⟨k + 1, _, by omega, by go_num, hA4, hB5⟩
      case measure => simp [intOf]; omega
    · have hkk : k = ps.length := by omega
      clear hcell hlt
      subst hkk
      go_wp2_with fail
      refine (events_any _ _ _ _ hA).mono ?_
      rintro e w4 ⟨V, rfl, hV, hb4⟩
      have hB4 := hB.trans (hb4.mono hBs)
      have hA4 := hA.below hb4
      have hel := (evL_inv ts).2
      have hfew := hA.1.few
      obtain ⟨vo, vc, rfl, hce⟩ := hV
      clear hA hB hb4
      go_wp2
      go_loopw [8, 9] (fun t i wr => ∃ (j : Nat) (b : Bool), (j < (evL ts).length ∨ j = 0) ∧ i = .int .i64 ((j : Int) + 1) ∧ t = .bool b ∧ Below w4.heap.size w4 wr ∧ (b = true → ∃ e ∈ evL ts, ∃ e' ∈ evL ts, e.1 = e'.1 ∧ e.2 ≠ e'.2)) (fun _ i _ => (evL ts).length - (intOf i).toNat)
      case atStart => exact ⟨0, false, .inr rfl, rfl, rfl, Below.refl _ _, by simp⟩
      case round =>
        obtain ⟨j, b, hk, rfl, rfl, hbr, hb⟩ := hrel
        have HA4 : Hid (AudAt wr w2.heap.size w2.heap.size ts) := hA4.below hbr
        have hB4r := hB4.trans (hbr.mono hB4.size)
        clear hA4 hB4
        by_cases hlt : j + 1 < (evL ts).length
        · obtain ⟨b1, o, rfl, hbB, hcl⟩ := hce (by omega)
          obtain ⟨c0, c1⟩ := hcl (j + 1) hlt
          obtain ⟨d0, d1⟩ := hcl j (by omega)
          have c0 := cell_keep c0 hbr
          have c1 := cell_keep c1 hbr
          have d0 := cell_keep d0 hbr
          have d1 := cell_keep d1 hbr
          have HQ : Hid (∀ nq, Below w4.heap.size w4 (wr.drewN nq)) := fun nq => below_drewN hbr nq
          have m1 : (evL ts)[j + 1] ∈ evL ts := List.getElem_mem hlt
          have m2 : (evL ts)[j]'(by omega) ∈ evL ts := List.getElem_mem _
          have HT : Hid ((evL ts)[j + 1].1 = ((evL ts)[j]'(by omega)).1 → (evL ts)[j + 1].2 ≠ ((evL ts)[j]'(by omega)).2 → ∃ e ∈ evL ts, ∃ e' ∈ evL ts, e.1 = e'.1 ∧ e.2 ≠ e'.2) := fun h1 h2 => ⟨_, m1, _, m2, h1, h2⟩
          generalize (evL ts)[j + 1].1 = x1 at *
          generalize (evL ts)[j + 1].2 = s1 at *
          generalize ((evL ts)[j]'(by omega)).1 = x2 at *
          generalize ((evL ts)[j]'(by omega)).2 = s2 at *
          have hl2 : (j : Int) + 1 < ((evL ts).length : Int) := by omega
          clear hcl m1 m2 hce
          cases b with
          | true =>
            go_wp2
            go_quiet (fail)
            go_wp2
            go_roundw
            case rel => exact ⟨j + 1, true, .inl hlt, by go_num, rfl, HQ.out nq, fun _ => hb trivial⟩
            case measure => simp [intOf]; omega
          | false =>
            by_cases hx : x1 = x2
            · subst hx
              by_cases hs : s1 = s2
              · subst hs
                go_wp2
                go_quiet (fail)
                go_wp2
                go_roundw
                case rel => exact ⟨j + 1, false, .inl hlt, by go_num, rfl, HQ.out nq, by simp⟩
                case measure => simp [intOf]; omega
              · have hsb : (s1.toList == s2.toList) = false := by
                  rw [Lib.toList_data, Lib.toList_data]
                  simpa using fun h => hs (ba_ext h)
                have hT := HT.out rfl hs
                go_wp2
                go_quiet (fail)
                go_wp2
                go_roundw
                case rel => exact ⟨j + 1, true, .inl hlt, by go_num, rfl, HQ.out nq, fun _ => hT⟩
                case measure => simp [intOf]; omega
            · have hxb : (x1 == x2) = false := by simp [hx]
              go_wp2
              go_quiet (fail)
              go_wp2
              go_roundw
              case rel => exact ⟨j + 1, false, .inl hlt, by go_num, rfl, HQ.out nq, by simp⟩
              case measure => simp [intOf]; omega
        · have hl2 : ((evL ts).length : Int) ≤ (j : Int) + 1 := by omega
          go_wp2_with fail
          refine (collision_any _ _ _ _ HA4.out).mono ?_
          rintro e w5 ⟨x, y, kk, rfl, hS, hb5⟩
          have hB5 := hB4r.trans (hb5.mono hB4r.size)
          have hA5 := HA4.out.below hb5
          cases hS with
          | no hi =>
            have hbf : b = false := by
              cases b with
              | false => rfl
              | true =>
                obtain ⟨e, he, e', he', h1, h2⟩ := hb rfl
                exact absurd (sound_ev hA5.1 hi he he' h1) h2
            subst hbf
            clear hb5 hA5 hce hi HA4
            go_wp2
            go_ret
            exact ⟨rfl, hB5⟩
          | yes a b' ax ay cx cy hl hs s1 s2 ha hb' hxa hyb =>
            have hnot : ¬ ∀ a ∈ txL ts, ∀ b ∈ txL ts, sm a = sm b → a = b := fun hi => absurd (ba_ext (hi _ ha _ hb' hs)) (fun e => by subst e; exact ltB_irrefl _ hl)
            clear hb5 hce hb ha hb' hxa hyb
            go_wp2_with fail
            refine (shown_any _ _ _ _ hA5 hnot).mono ?_
            rintro e w6 ⟨rfl, hb6⟩
            have hB6 := hB5.trans (hb6.mono hB5.size)
            go_wp2
            go_ret
            exact ⟨rfl, hB6⟩
end Go.Proofs.YtlndinigbppafaaGreat
