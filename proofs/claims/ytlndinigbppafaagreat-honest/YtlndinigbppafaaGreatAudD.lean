/-
  The walks of the program's auditor: eventIn, and IndexFunc over versions.
-/
import Derived.Test.YtlndinigbppafaaGreatAudC
namespace Go.Proofs.YtlndinigbppafaaGreat
open Go.RowKit Go.Deep

/-- The last leaf's event. -/
def lastL (ns : List PN) : ByteArray := (lvs ns).getLast?.getD ByteArray.empty
theorem lastL_snoc (ns : List PN) (x : PN) : lastL (ns ++ [x]) = if x.kind = 1 then x.ev else lastL ns := by
  unfold lastL
  rw [lvs_append]
  by_cases h : x.kind = 1
  · simp [lvs, h]
  · simp [lvs, h]

set_option maxRecDepth 100000 in
set_option maxHeartbeats 400000 in
theorem eventIn_any (ns : List PN) (v : Value) (w : World) (hv : NodesAt w v ns) (hl : ns.length ≤ 100000) :
    Calls Tryz.prog 128 #[v] w fun e w' => e = .returned (.string (lastL ns)) ∧ Below w.heap.size w w' := by
  obtain ⟨ao, cap, rfl, _, hc⟩ := hv.cells
  go_enter Tryz.func128, Tryz.ntmps128
  go_wp2
  go_loopw [3, 8] (fun s i wr => ∃ k : Nat, k ≤ ns.length ∧ i = .int .i64 k ∧ s = .string (lastL (ns.take k)) ∧ Below w.heap.size w wr) (fun _ i _ => ns.length - (intOf i).toNat)
  case atStart => exact ⟨0, Nat.zero_le _, rfl, rfl, Below.refl _ _⟩
  case round =>
    obtain ⟨k, hk, rfl, rfl, hb⟩ := hrel
    have hsz := hb.size
    by_cases hlt : k < ns.length
    · obtain ⟨b, o, rfl, hbl, hcl⟩ := hc (by omega)
      obtain ⟨e0, e1, e2⟩ := hcl k hlt
      replace e0 := (hb.cell (p := ⟨b, o + k * 3, none⟩) hbl).trans e0
      replace e1 := (hb.cell (p := ⟨b, o + k * 3 + 1, none⟩) hbl).trans e1
      replace e2 := (hb.cell (p := ⟨b, o + k * 3 + 2, none⟩) hbl).trans e2
      have HS : Hid (lastL (ns.take (k + 1)) = if ns[k].kind = 1 then ns[k].ev else lastL (ns.take k)) := by
        show lastL (ns.take (k + 1)) = _
        rw [take_snoc ns k hlt]
        exact lastL_snoc _ _
      generalize ns[k] = x at *
      generalize lastL (ns.take k) = s0 at *
      clear hcl hc hv
      by_cases hx : x.kind = 1
      · have HX : Hid (lastL (ns.take (k + 1)) = x.ev) := HS.out.trans (if_pos hx)
        have hxb : (x.kind == 1) = true := by simp [hx]
        clear hx HS
        go_wp2
        go_roundw
        case rel => exact ⟨k + 1, by omega, by go_num, by rw [HX.out], hb.alloc hsz _⟩
        case measure => simp [intOf]; omega
      · have HX : Hid (lastL (ns.take (k + 1)) = s0) := HS.out.trans (if_neg hx)
        have hxb : (x.kind == 1) = false := by simp [hx]
        clear hx HS
        go_wp2
        go_roundw
        case rel => exact ⟨k + 1, by omega, by go_num, by rw [HX.out], hb.alloc hsz _⟩
        case measure => simp [intOf]; omega
    · have hkl : k = ns.length := by omega
      subst hkl
      rw [List.take_length]
      go_wp2
      go_ret
      exact ⟨rfl, hb⟩

/-- What IndexFunc finds. -/
def Found (vs : List (Int × Int)) (n r : Int) : Prop := (r = -1 ∧ rootOf vs n = none) ∨ ∃ (j : Nat) (h : j < vs.length), r = j ∧ vs[j].1 = n ∧ rootOf vs n = some vs[j].2

set_option maxRecDepth 100000 in
set_option maxHeartbeats 400000 in
theorem lit_any (a b n : Int) (M : Nat) (w : World) (hM : w.cell? ⟨M, 2, none⟩ = some (.int .i64 n)) :
    Calls Tryz.prog 126 #[.agg #[.int .i64 a, .int .i64 b], .pointer (some ⟨M, 0, none⟩)] w fun e w' => e = .returned (.bool (a == n)) ∧ Below w.heap.size w w' := by
  have hb0 := World.block_lt_of_cell? w _ hM
  simp at hb0
  go_enter Tryz.func126, Tryz.ntmps126
  go_wp2
  go_ret
  exact ⟨rfl, (Below.refl _ _).alloc (Nat.le_refl _) _⟩

set_option maxRecDepth 100000 in
set_option maxHeartbeats 1000000 in
theorem indexV_any (vs : List (Int × Int)) (v : Value) (n : Int) (M : Nat) (w : World) (hv : VersAt w v vs) (hl : vs.length ≤ 100000) (hM : w.cell? ⟨M, 2, none⟩ = some (.int .i64 n)) :
    Calls Tryz.prog 125 #[v, .func (.func 126) #[] #[.pointer (some ⟨M, 0, none⟩)]] w fun e w' => ∃ r : Int, e = .returned (.int .i64 r) ∧ Found vs n r ∧ Below w.heap.size w w' := by
  obtain ⟨ao, cap, rfl, hc⟩ := hv
  have hb0 := World.block_lt_of_cell? w _ hM
  simp at hb0
  go_enter Tryz.func125, Tryz.ntmps125
  go_wp2
  go_loopw [8] (fun i wr => ∃ j : Nat, j ≤ vs.length ∧ i = .int .i64 j ∧ Hid (∀ k (hk : k < vs.length), k < j → vs[k].1 ≠ n) ∧ Below w.heap.size w wr) (fun i _ => vs.length - (intOf i).toNat)
  case atStart => exact ⟨0, Nat.zero_le _, rfl, fun k hk h => by omega, Below.refl _ _⟩
  case round =>
    obtain ⟨j, hj, rfl, HB, hb⟩ := hrel
    have hMr := (hb.cell (p := ⟨M, 2, none⟩) hb0).trans hM
    by_cases hlt : j < vs.length
    · obtain ⟨b, o, rfl, hbl, hcl⟩ := hc (by omega)
      obtain ⟨e0, e1⟩ := hcl j hlt
      replace e0 := (hb.cell (p := ⟨b, o + j * 2, none⟩) hbl).trans e0
      replace e1 := (hb.cell (p := ⟨b, o + j * 2 + 1, none⟩) hbl).trans e1
      have HF : Hid (vs[j].1 = n → Found vs n j) := fun h => .inr ⟨j, hlt, rfl, h, by
        have hf : vs.find? (fun v => v.1 == n) = some vs[j] := by
          rw [List.find?_eq_some_iff_getElem]
          refine ⟨by simp [h], j, hlt, rfl, fun k hk => ?_⟩
          have := HB.out k (by omega) hk
          simpa using this
        unfold rootOf
        rw [hf]
        rfl⟩
      have HN : Hid (vs[j].1 ≠ n → ∀ k (hk : k < vs.length), k < j + 1 → vs[k].1 ≠ n) := fun h k hk h2 => by
        rcases Nat.lt_or_ge k j with q | q
        · exact HB.out k hk q
        · have : k = j := by omega
          subst this
          exact h
      generalize vs[j] = x at *
      clear hcl hc
      go_wp2_with fail
      refine (lit_any _ _ n M _ hMr).mono ?_
      rintro e w2 ⟨rfl, hb2⟩
      have hb02 := below_step hb hb2
      clear hMr
      by_cases hx : x.1 = n
      · have hxb : (x.1 == n) = true := by simp [hx]
        rw [hxb]
        have HX : Hid _ := HF.out hx
        clear hx hxb
        go_wp2
        go_ret
        exact ⟨j, rfl, HX.out, hb02⟩
      · have hxb : (x.1 == n) = false := by simp [hx]
        rw [hxb]
        have HX : Hid (∀ k (hk : k < vs.length), k < j + 1 → vs[k].1 ≠ n) := HN.out hx
        clear hx hxb
        go_wp2
        go_roundw
        case rel => exact ⟨j + 1, by omega, by go_num, HX, hb02⟩
        case measure => simp [intOf]; omega
    · have hjl : j = vs.length := by omega
      subst hjl
      have HR : Hid (rootOf vs n = none) := by
        show rootOf vs n = none
        have hf : vs.find? (fun v => v.1 == n) = none := by
          rw [List.find?_eq_none]
          intro x hx
          obtain ⟨k, hk, rfl⟩ := List.getElem_of_mem hx
          have := HB.out k hk hk
          simpa using this
        unfold rootOf
        rw [hf]
        rfl
      go_wp2
      go_ret
      exact ⟨-1, rfl, .inl ⟨rfl, HR.out⟩, hb⟩

/-- A message's box. -/
theorem msg_box {w : World} {B : Nat} {k M N R : Int} {T : Value} (h : w.heap[B]? = some (.cells #[.int .i64 k, .int .i64 M, .int .i64 N, .int .i64 R, T] 63 (0, 0))) :
    w.cell? ⟨B, 0, none⟩ = some (.int .i64 k) ∧ w.cell? ⟨B, 1, none⟩ = some (.int .i64 M) ∧ w.cell? ⟨B, 2, none⟩ = some (.int .i64 N) ∧ w.cell? ⟨B, 3, none⟩ = some (.int .i64 R) ∧ w.cell? ⟨B, 4, none⟩ = some T := by
  refine ⟨?_, ?_, ?_, ?_, ?_⟩ <;> (rw [cell_of_row _ _ _ _ _ _ h]; rfl)

set_option maxRecDepth 100000 in
set_option maxHeartbeats 1000000 in
theorem weighC_any (w : World) (b0 A : Nat) (n : Int) (Vv Ve Vf : Value) (vs : List (Int × Int)) (es : List Ent) (fs : List Fam) (TL : List (List UInt8)) (k M N R : Int) (T : Value) (h : AudB w b0 A n Vv Ve Vf vs es fs TL) (hb0 : b0 ≤ w.heap.size) (hl : vs.length ≤ 1000) :
    Calls Tryz.prog 95 #[.pointer (some ⟨A, 0, none⟩), .agg #[.int .i64 k, .int .i64 M, .int .i64 N, .int .i64 R, T]] w fun e w' => e = .returned (.int .i64 (if vs = [] then 0 else 8)) ∧ ∃ Vv', AudB w' b0 A n Vv' Ve Vf (if vs = [] then [(N, R)] else vs) es fs TL ∧ KeepsA b0 w w' := by
  obtain ⟨ao, cap, rfl, hrest⟩ := VersAt.of_owns h.vers
  clear hrest
  have hc : w.cell? ⟨A, 2, none⟩ = some (.slice ao vs.length cap) := by rw [cell_of_row _ _ _ _ _ _ h.blk]; rfl
  have hA : Below w.heap.size w (w.alloc (.cells #[.int .i64 k, .int .i64 M, .int .i64 N, .int .i64 R, T] 63)) := (Below.refl _ _).alloc (Nat.le_refl _) _
  have hAl := lt_of_heap h.blk
  by_cases hv : vs = []
  · subst hv
    rw [if_pos rfl, if_pos rfl]
    go_enter Tryz.func95, Tryz.ntmps95
    go_wp2_with fail
    refine (learnVersion_any _ b0 A n _ Ve Vf [] es fs TL (N, R) (h.below hA) (Nat.le_trans hb0 hA.size) (by simp)).mono ?_
    rintro e w1 ⟨rfl, Vv', hR, hK⟩
    have HR : Hid (AudB w1 b0 A n Vv' Ve Vf [(N, R)] es fs TL) := hR
    have hK2 := KeepsA.trans (KeepsA.of_below (b0 := b0) hA) hK
    clear hR hK hc
    go_wp2
    go_ret
    exact ⟨rfl, _, HR.out, hK2⟩
  · rw [if_neg hv, if_neg hv]
    have hl0 : (0 : Int) < (vs.length : Int) := by
      have : vs.length ≠ 0 := fun e => hv (List.eq_nil_of_length_eq_zero e)
      omega
    have HR : Hid (AudB (w.alloc (.cells #[.int .i64 k, .int .i64 M, .int .i64 N, .int .i64 R, T] 63)) b0 A n (.slice ao vs.length cap) Ve Vf vs es fs TL) := h.below hA
    go_enter Tryz.func95, Tryz.ntmps95
    go_wp2
    go_ret
    exact ⟨rfl, _, HR.out, KeepsA.of_below hA⟩
end Go.Proofs.YtlndinigbppafaaGreat
