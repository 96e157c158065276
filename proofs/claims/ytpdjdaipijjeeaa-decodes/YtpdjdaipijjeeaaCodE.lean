/-
  The walk of the program's reader of a node.
-/
import Derived.Test.YtpdjdaipijjeeaaCodD
namespace Go.Proofs.Ytpdjdaipijjeeaa
open Go.RowKit

set_option maxRecDepth 100000 in
set_option maxHeartbeats 1000000 in
theorem nd_end (w : World) (B : Nat) (v : Value) (l : List UInt8) (a : Nat) (k : Int) (hr : RdAt w B v l a) (ha : a ≤ l.length) (hc : l.length < a + 1) :
    Calls Try.prog 99 #[.pointer (some ⟨B, 0, none⟩), .int .i64 k] w fun e w' => NodeR w w' B v l e (.error (5, l.length)) := by
  have hBw := lt_of_heap hr.1
  obtain ⟨r0, r1, rz, rB⟩ := hr.cell
  go_enter Try.func99, Try.ntmps99
  go_wp2_with fail
  have hA : Below w.heap.size w ((w.alloc (.cells #[.int .i64 0, .int .i64 0, .string ⟨#[]⟩] 100)).alloc (.cells #[.int .i64 0, .int .i64 0] 110)) := ((Below.refl _ _).alloc (Nat.le_refl _) _).alloc (by simp) _
  have hX := BoxNF.new w
  generalize (w.alloc (.cells #[.int .i64 0, .int .i64 0, .string ⟨#[]⟩] 100)).alloc (.cells #[.int .i64 0, .int .i64 0] 110) = W at hA hX ⊢
  refine (take_no _ _ _ _ _ 1 (hr.below hA) ha hc (by omega)).mono ?_
  rintro e w1 ⟨rfl, hb1⟩
  have hr1 := (hr.below hA).below hb1
  have hX1 := hX.below hb1
  go_wp2_with fail
  refine (short_any _ _ _ _ _ hr1).mono ?_
  rintro e w2 ⟨rfl, hb2⟩
  have hr2 := hr1.below hb2
  have hF2 : Frame2 w w2 B none := ((Frame2.of_below B none hA).then hb1).then hb2
  have hX2 := hX1.below hb2
  obtain ⟨⟨x0, x1, x2, f0, f1, f2⟩, ⟨y0, y1, g0, g1⟩, hs1⟩ := hX2.cells
  go_wp2
  refine bodyPost_ret (v := .tuple #[.agg #[.int .i64 0, .int .i64 0, .string ⟨#[]⟩], .agg #[.int .i64 5, .int .i64 l.length]]) (by simp [results, Try.results99, go_sem, x0, x1, x2, y0, y1]) rfl ?_
  obtain ⟨k1, k2⟩ := nr_put hr hF2 hr2 (.int .i64 0) (.int .i64 0) (.string ⟨#[]⟩) (.int .i64 5) (.int .i64 l.length)
  exact ⟨k1, by decide, rfl, _, k2⟩

set_option maxRecDepth 100000 in
set_option maxHeartbeats 1000000 in
theorem nd_shape (w : World) (B : Nat) (v : Value) (l : List UInt8) (a : Nat) (k : Int) (hr : RdAt w B v l a) (hc : a + 1 ≤ l.length) (hl : l.length ≤ 4000) (hk : (l[a].toNat : Int) ≠ k) :
    Calls Try.prog 99 #[.pointer (some ⟨B, 0, none⟩), .int .i64 k] w fun e w' => NodeR w w' B v l e (.error (7, a)) := by
  have hBw := lt_of_heap hr.1
  obtain ⟨r0, r1, rz, rB⟩ := hr.cell
  go_enter Try.func99, Try.ntmps99
  go_wp2_with fail
  have hA : Below w.heap.size w ((w.alloc (.cells #[.int .i64 0, .int .i64 0, .string ⟨#[]⟩] 100)).alloc (.cells #[.int .i64 0, .int .i64 0] 110)) := ((Below.refl _ _).alloc (Nat.le_refl _) _).alloc (by simp) _
  have hX := BoxNF.new w
  generalize (w.alloc (.cells #[.int .i64 0, .int .i64 0, .string ⟨#[]⟩] 100)).alloc (.cells #[.int .i64 0, .int .i64 0] 110) = W at hA hX ⊢
  refine (take_ok _ _ _ _ _ 1 (hr.below hA) hc hl (by omega)).mono ?_
  rintro e w1 ⟨v', rfl, hr1, hB1, hF1, ad, cp, rfl⟩
  have hX1 := hX.frame hF1 hBw
  have hF2 : Frame2 w w1 B none := (Frame2.of_below B none hA).trans hF1
  obtain ⟨ao, cap', e, _, hcc⟩ := hB1.cells
  simp only [Value.slice.injEq] at e
  obtain ⟨rfl, -, -⟩ := e
  obtain ⟨b, o, e, hcell⟩ := hcc (by simp; omega)
  cases e
  have c0 := hcell 0 (by simp; omega)
  rw [take1_get l a hc, Nat.add_zero] at c0
  clear hcell hcc
  obtain ⟨⟨x0, x1, x2, f0, f1, f2⟩, ⟨y0, y1, g0, g1⟩, hs1⟩ := hX1.cells
  have hzb := l[a].toNat_lt
  have hz0 : (0 : Int) ≤ (l[a].toNat : Int) := by omega
  have hz1 : (l[a].toNat : Int) ≤ 255 := by omega
  clear hzb
  generalize (l[a].toNat : Int) = z at hk c0 hz0 hz1
  have hkb : (z == k) = false := beq_eq_false_iff_ne.2 hk
  have hkn : (z != k) = true := by rw [bne, hkb]; rfl
  go_wp2
  refine bodyPost_ret (v := .tuple #[.agg #[.int .i64 0, .int .i64 0, .string ⟨#[]⟩], .agg #[.int .i64 7, .int .i64 a]]) (by simp [results, Try.results99, go_sem, x0, x1, x2, y0, y1]) rfl ?_
  obtain ⟨k1, k2⟩ := nr_put hr hF2 hr1 (.int .i64 0) (.int .i64 0) (.string ⟨#[]⟩) (.int .i64 7) (.int .i64 a)
  exact ⟨k1, by decide, rfl, _, k2⟩

set_option maxRecDepth 100000 in
set_option maxHeartbeats 1000000 in
theorem nd_plain (w : World) (B : Nat) (v : Value) (l : List UInt8) (a : Nat) (k : Int) (hr : RdAt w B v l a) (hc : a + 1 ≤ l.length) (hl : l.length ≤ 4000) (hk : (l[a].toNat : Int) = k) (h2 : 2 ≤ k) :
    Calls Try.prog 99 #[.pointer (some ⟨B, 0, none⟩), .int .i64 k] w fun e w' => NodeR w w' B v l e (.ok (⟨k, 0, ByteArray.empty⟩, a + 1)) := by
  have hk0 : (k == 0) = false := beq_eq_false_iff_ne.2 (by omega)
  have hk1 : (k == 1) = false := beq_eq_false_iff_ne.2 (by omega)
  have hkw : wrap64 k = k := by have := l[a].toNat_lt; go_arith
  have hBw := lt_of_heap hr.1
  obtain ⟨r0, r1, rz, rB⟩ := hr.cell
  go_enter Try.func99, Try.ntmps99
  go_wp2_with fail
  have hA : Below w.heap.size w ((w.alloc (.cells #[.int .i64 0, .int .i64 0, .string ⟨#[]⟩] 100)).alloc (.cells #[.int .i64 0, .int .i64 0] 110)) := ((Below.refl _ _).alloc (Nat.le_refl _) _).alloc (by simp) _
  have hX := BoxNF.new w
  generalize (w.alloc (.cells #[.int .i64 0, .int .i64 0, .string ⟨#[]⟩] 100)).alloc (.cells #[.int .i64 0, .int .i64 0] 110) = W at hA hX ⊢
  refine (take_ok _ _ _ _ _ 1 (hr.below hA) hc hl (by omega)).mono ?_
  rintro e w1 ⟨v', rfl, hr1, hB1, hF1, ad, cp, rfl⟩
  have hX1 := hX.frame hF1 hBw
  have hF2 : Frame2 w w1 B none := (Frame2.of_below B none hA).trans hF1
  obtain ⟨ao, cap', e, _, hcc⟩ := hB1.cells
  simp only [Value.slice.injEq] at e
  obtain ⟨rfl, -, -⟩ := e
  obtain ⟨b, o, e, hcell⟩ := hcc (by simp; omega)
  cases e
  have c0 := hcell 0 (by simp; omega)
  rw [take1_get l a hc, Nat.add_zero] at c0
  clear hcell hcc
  rw [hk] at c0
  obtain ⟨⟨x0, x1, x2, f0, f1, f2⟩, ⟨y0, y1, g0, g1⟩, hs1⟩ := hX1.cells
  go_wp2
  refine bodyPost_ret (v := .tuple #[.agg #[.int .i64 k, .int .i64 0, .string ⟨#[]⟩], .agg #[.int .i64 0, .int .i64 0]]) (by simp [results, Try.results99, go_sem, x0, x1, x2, y0, y1]) rfl ?_
  obtain ⟨k1, k2⟩ := nr_put hr hF2 hr1 (.int .i64 k) (.int .i64 0) (.string ⟨#[]⟩) (.int .i64 0) (.int .i64 0)
  exact ⟨k1, rfl, k2⟩

set_option maxRecDepth 100000 in
set_option maxHeartbeats 1000000 in
theorem nd_stub (w : World) (B : Nat) (v : Value) (l : List UInt8) (a : Nat) (hr : RdAt w B v l a) (hc : a + 1 ≤ l.length) (hl : l.length ≤ 4000) (hk : (l[a].toNat : Int) = 0) (rd : Except (Int × Nat) (PN × Nat))
    (hst : ∀ w : World, RdAt w B v l (a + 1) → Calls Try.prog 107 #[.pointer (some ⟨B, 0, none⟩)] w fun e w' => NodeR w w' B v l e rd) :
    Calls Try.prog 99 #[.pointer (some ⟨B, 0, none⟩), .int .i64 0] w fun e w' => NodeR w w' B v l e rd := by
  have HST : Hid _ := hst
  clear hst
  have hBw := lt_of_heap hr.1
  obtain ⟨r0, r1, rz, rB⟩ := hr.cell
  go_enter Try.func99, Try.ntmps99
  go_wp2_with fail
  have hA : Below w.heap.size w ((w.alloc (.cells #[.int .i64 0, .int .i64 0, .string ⟨#[]⟩] 100)).alloc (.cells #[.int .i64 0, .int .i64 0] 110)) := ((Below.refl _ _).alloc (Nat.le_refl _) _).alloc (by simp) _
  have hX := BoxNF.new w
  generalize (w.alloc (.cells #[.int .i64 0, .int .i64 0, .string ⟨#[]⟩] 100)).alloc (.cells #[.int .i64 0, .int .i64 0] 110) = W at hA hX ⊢
  refine (take_ok _ _ _ _ _ 1 (hr.below hA) hc hl (by omega)).mono ?_
  rintro e w1 ⟨v', rfl, hr1, hB1, hF1, ad, cp, rfl⟩
  have hX1 := hX.frame hF1 hBw
  have hF2 : Frame2 w w1 B none := (Frame2.of_below B none hA).trans hF1
  obtain ⟨ao, cap', e, _, hcc⟩ := hB1.cells
  simp only [Value.slice.injEq] at e
  obtain ⟨rfl, -, -⟩ := e
  obtain ⟨b, o, e, hcell⟩ := hcc (by simp; omega)
  cases e
  have c0 := hcell 0 (by simp; omega)
  rw [take1_get l a hc, Nat.add_zero] at c0
  clear hcell hcc
  rw [hk] at c0
  go_wp2_with fail
  refine (HST.out _ hr1).mono ?_
  rintro e w2 ⟨hF3, hout⟩
  have hX2 := hX1.frame hF3 hBw
  have hF4 := hF2.trans hF3
  obtain ⟨⟨x0, x1, x2, f0, f1, f2⟩, ⟨y0, y1, g0, g1⟩, hs1⟩ := hX2.cells
  cases rd with
  | error y =>
    obtain ⟨f, q⟩ := y
    obtain ⟨hne, rfl, a', hr2⟩ := hout
    go_wp2
    refine bodyPost_ret (v := .tuple #[.agg #[.int .i64 0, .int .i64 0, .string ⟨#[]⟩], .agg #[.int .i64 f, .int .i64 q]]) (by simp [results, Try.results99, go_sem, x0, x1, x2, y0, y1]) rfl ?_
    obtain ⟨k1, k2⟩ := nr_put hr hF4 hr2 (.int .i64 0) (.int .i64 0) (.string ⟨#[]⟩) (.int .i64 f) (.int .i64 q)
    exact ⟨k1, hne, rfl, _, k2⟩
  | ok y =>
    obtain ⟨n, a'⟩ := y
    obtain ⟨rfl, hr2⟩ := hout
    go_wp2
    refine bodyPost_ret (v := .tuple #[.agg #[.int .i64 n.kind, .int .i64 n.dig, .string n.ev], .agg #[.int .i64 0, .int .i64 0]]) (by simp [results, Try.results99, go_sem, x0, x1, x2, y0, y1]) rfl ?_
    obtain ⟨k1, k2⟩ := nr_put hr hF4 hr2 (.int .i64 n.kind) (.int .i64 n.dig) (.string n.ev) (.int .i64 0) (.int .i64 0)
    exact ⟨k1, rfl, k2⟩

set_option maxRecDepth 100000 in
set_option maxHeartbeats 1000000 in
theorem nd_leaf (w : World) (B : Nat) (v : Value) (l : List UInt8) (a : Nat) (hr : RdAt w B v l a) (hc : a + 1 ≤ l.length) (hl : l.length ≤ 4000) (hk : (l[a].toNat : Int) = 1) (rd : Except (Int × Nat) (PN × Nat))
    (hst : ∀ w : World, RdAt w B v l (a + 1) → Calls Try.prog 108 #[.pointer (some ⟨B, 0, none⟩), .int .i64 a] w fun e w' => NodeR w w' B v l e rd) :
    Calls Try.prog 99 #[.pointer (some ⟨B, 0, none⟩), .int .i64 1] w fun e w' => NodeR w w' B v l e rd := by
  have HST : Hid _ := hst
  clear hst
  have hBw := lt_of_heap hr.1
  obtain ⟨r0, r1, rz, rB⟩ := hr.cell
  go_enter Try.func99, Try.ntmps99
  go_wp2_with fail
  have hA : Below w.heap.size w ((w.alloc (.cells #[.int .i64 0, .int .i64 0, .string ⟨#[]⟩] 100)).alloc (.cells #[.int .i64 0, .int .i64 0] 110)) := ((Below.refl _ _).alloc (Nat.le_refl _) _).alloc (by simp) _
  have hX := BoxNF.new w
  generalize (w.alloc (.cells #[.int .i64 0, .int .i64 0, .string ⟨#[]⟩] 100)).alloc (.cells #[.int .i64 0, .int .i64 0] 110) = W at hA hX ⊢
  refine (take_ok _ _ _ _ _ 1 (hr.below hA) hc hl (by omega)).mono ?_
  rintro e w1 ⟨v', rfl, hr1, hB1, hF1, ad, cp, rfl⟩
  have hX1 := hX.frame hF1 hBw
  have hF2 : Frame2 w w1 B none := (Frame2.of_below B none hA).trans hF1
  obtain ⟨ao, cap', e, _, hcc⟩ := hB1.cells
  simp only [Value.slice.injEq] at e
  obtain ⟨rfl, -, -⟩ := e
  obtain ⟨b, o, e, hcell⟩ := hcc (by simp; omega)
  cases e
  have c0 := hcell 0 (by simp; omega)
  rw [take1_get l a hc, Nat.add_zero] at c0
  clear hcell hcc
  rw [hk] at c0
  go_wp2_with fail
  refine (HST.out _ hr1).mono ?_
  rintro e w2 ⟨hF3, hout⟩
  have hX2 := hX1.frame hF3 hBw
  have hF4 := hF2.trans hF3
  obtain ⟨⟨x0, x1, x2, f0, f1, f2⟩, ⟨y0, y1, g0, g1⟩, hs1⟩ := hX2.cells
  cases rd with
  | error y =>
    obtain ⟨f, q⟩ := y
    obtain ⟨hne, rfl, a', hr2⟩ := hout
    go_wp2
    refine bodyPost_ret (v := .tuple #[.agg #[.int .i64 0, .int .i64 0, .string ⟨#[]⟩], .agg #[.int .i64 f, .int .i64 q]]) (by simp [results, Try.results99, go_sem, x0, x1, x2, y0, y1]) rfl ?_
    obtain ⟨k1, k2⟩ := nr_put hr hF4 hr2 (.int .i64 0) (.int .i64 0) (.string ⟨#[]⟩) (.int .i64 f) (.int .i64 q)
    exact ⟨k1, hne, rfl, _, k2⟩
  | ok y =>
    obtain ⟨n, a'⟩ := y
    obtain ⟨rfl, hr2⟩ := hout
    go_wp2
    refine bodyPost_ret (v := .tuple #[.agg #[.int .i64 n.kind, .int .i64 n.dig, .string n.ev], .agg #[.int .i64 0, .int .i64 0]]) (by simp [results, Try.results99, go_sem, x0, x1, x2, y0, y1]) rfl ?_
    obtain ⟨k1, k2⟩ := nr_put hr hF4 hr2 (.int .i64 n.kind) (.int .i64 n.dig) (.string n.ev) (.int .i64 0) (.int .i64 0)
    exact ⟨k1, rfl, k2⟩

theorem nd_any (w : World) (B : Nat) (v : Value) (l : List UInt8) (a : Nat) (k : Int) (hr : RdAt w B v l a) (ha : a ≤ l.length) (hl : l.length ≤ 4000) (h0 : 0 ≤ k) (h3 : k ≤ 3) :
    Calls Try.prog 99 #[.pointer (some ⟨B, 0, none⟩), .int .i64 k] w fun e w' => NodeR w w' B v l e (rd1 l k a) := by
  unfold rd1
  by_cases hc : a + 1 ≤ l.length
  · rw [List.getElem?_eq_getElem (show a < l.length by omega)]
    simp only
    by_cases hk : (l[a].toNat : Int) ≠ k
    · rw [if_pos hk]
      exact nd_shape w B v l a k hr hc hl hk
    · rw [if_neg hk]
      have hk' : (l[a].toNat : Int) = k := by omega
      by_cases k0 : k = 0
      · subst k0
        rw [if_pos rfl]
        refine nd_stub w B v l a hr hc hl hk' _ fun w' hr' => ?_
        by_cases h2 : a + 1 + 2 ≤ l.length
        · rw [List.getElem?_eq_getElem (show a + 1 < l.length by omega), List.getElem?_eq_getElem (show a + 2 < l.length by omega)]
          exact stub_ok w' B v l (a + 1) hr' h2 hl
        · rw [List.getElem?_eq_none (show l.length ≤ a + 2 by omega)]
          have := stub_no w' B v l (a + 1) hr' hc (by omega)
          cases l[a + 1]? <;> exact this
      · rw [if_neg k0]
        by_cases k1 : k = 1
        · subst k1
          rw [if_pos rfl]
          refine nd_leaf w B v l a hr hc hl hk' _ fun w' hr' => ?_
          by_cases h2 : a + 1 + 1 ≤ l.length
          · rw [List.getElem?_eq_getElem (show a + 1 < l.length by omega)]
            simp only
            by_cases hz : 50 < l[a + 1].toNat
            · rw [if_pos hz]
              exact cleaf_long w' B v l (a + 1) a hr' h2 hl hz
            · rw [if_neg hz]
              by_cases hs : l.length < a + 2 + l[a + 1].toNat
              · rw [if_pos hs]
                exact leaf_no2 w' B v l (a + 1) a hr' h2 hl (by omega) (by omega)
              · rw [if_neg hs]
                exact cleaf_ok w' B v l (a + 1) a hr' h2 hl (by omega) (by omega)
          · rw [List.getElem?_eq_none (show l.length ≤ a + 1 by omega)]
            exact leaf_no1 w' B v l (a + 1) a hr' hc (by omega)
        · rw [if_neg k1]
          exact nd_plain w B v l a k hr hc hl hk' (by omega)
  · rw [List.getElem?_eq_none (show l.length ≤ a by omega)]
    exact nd_end w B v l a k hr ha (by omega)
end Go.Proofs.Ytpdjdaipijjeeaa
