/-
  The walks of the program's reader of nodes: a leaf, a node.
-/
import Derived.Test.YtpdjdaipijjeeaaCodC
namespace Go.Proofs.Ytpdjdaipijjeeaa
open Go.RowKit

theorem conv_slice (u : World) (l : List UInt8) (ad : Addr) (cp : Nat) (h : BytesAt u (.slice (some ad) l.length cp) l) : (convert 24 9 (.slice (some ad) l.length cp)).run Try.prog u = .ok (.string ⟨l.toArray⟩) u := by
  refine run_convert_bytes_back _ _ _ 5 _ _ l Try.underlying24 Try.underlying5 Try.underlying9 fun j hj => ?_
  obtain ⟨ao, cap, e, _, hc⟩ := h.cells
  simp only [Value.slice.injEq] at e
  obtain ⟨rfl, -, -⟩ := e
  obtain ⟨b, o, e, hcell⟩ := hc (by omega)
  cases e
  rw [show (⟨b, o, none⟩ : Addr).add j = ⟨b, o + j, none⟩ by unfold Addr.add; split <;> simp_all]
  exact hcell j hj

set_option maxRecDepth 100000 in
set_option maxHeartbeats 1000000 in
theorem leaf_no1 (w : World) (B : Nat) (v : Value) (l : List UInt8) (a : Nat) (st : Int) (hr : RdAt w B v l a) (ha : a ≤ l.length) (hc : l.length < a + 1) :
    Calls Try.prog 108 #[.pointer (some ⟨B, 0, none⟩), .int .i64 st] w fun e w' => NodeR w w' B v l e (.error (5, l.length)) := by
  have hBw := lt_of_heap hr.1
  go_enter Try.func108, Try.ntmps108
  go_wp2_with fail
  have hA : Below w.heap.size w ((w.alloc (.cells #[.int .i64 0, .int .i64 0, .string ⟨#[]⟩] 100)).alloc (.cells #[.int .i64 0, .int .i64 0] 110)) := ((Below.refl _ _).alloc (Nat.le_refl _) _).alloc (by simp) _
  have hX := BoxNF.new w
  generalize (w.alloc (.cells #[.int .i64 0, .int .i64 0, .string ⟨#[]⟩] 100)).alloc (.cells #[.int .i64 0, .int .i64 0] 110) = W at hA hX ⊢
  refine (take_no _ _ _ _ _ 1 (hr.below hA) ha hc (by omega)).mono ?_
  rintro e w1 ⟨rfl, hb1⟩
  have hr1 := (hr.below hA).below hb1
  have hX1 := hX.below hb1
  go_wp2_with fail
  refine (short_any _ _ _ _ _ hr1).mono ?_
  rintro e w2 ⟨rfl, hb2⟩
  have hr2 := hr1.below hb2
  have hF2 : Frame2 w w2 B none := ((Frame2.of_below B none hA).then hb1).then hb2
  have hX2 := hX1.below hb2
  obtain ⟨⟨x0, x1, x2, f0, f1, f2⟩, ⟨y0, y1, g0, g1⟩, hs1⟩ := hX2.cells
  go_wp2
  refine bodyPost_ret (v := .tuple #[.agg #[.int .i64 0, .int .i64 0, .string ⟨#[]⟩], .agg #[.int .i64 5, .int .i64 l.length]]) (by simp [results, Try.results108, go_sem, x0, x1, x2, y0, y1]) rfl ?_
  obtain ⟨k1, k2⟩ := nr_put hr hF2 hr2 (.int .i64 0) (.int .i64 0) (.string ⟨#[]⟩) (.int .i64 5) (.int .i64 l.length)
  exact ⟨k1, by decide, rfl, _, k2⟩

theorem take1_get (l : List UInt8) (a : Nat) (hc : a + 1 ≤ l.length) : ((l.drop a).take 1)[0]'(by simp; omega) = l[a] := by simp

set_option maxRecDepth 100000 in
set_option maxHeartbeats 1000000 in
theorem cleaf_long (w : World) (B : Nat) (v : Value) (l : List UInt8) (a st : Nat) (hr : RdAt w B v l a) (hc : a + 1 ≤ l.length) (hl : l.length ≤ 4000) (hz : 50 < l[a].toNat) :
    Calls Try.prog 108 #[.pointer (some ⟨B, 0, none⟩), .int .i64 st] w fun e w' => NodeR w w' B v l e (.error (2, st)) := by
  have hBw := lt_of_heap hr.1
  go_enter Try.func108, Try.ntmps108
  go_wp2_with fail
  have hA : Below w.heap.size w ((w.alloc (.cells #[.int .i64 0, .int .i64 0, .string ⟨#[]⟩] 100)).alloc (.cells #[.int .i64 0, .int .i64 0] 110)) := ((Below.refl _ _).alloc (Nat.le_refl _) _).alloc (by simp) _
  have hX := BoxNF.new w
  generalize (w.alloc (.cells #[.int .i64 0, .int .i64 0, .string ⟨#[]⟩] 100)).alloc (.cells #[.int .i64 0, .int .i64 0] 110) = W at hA hX ⊢
  refine (take_ok _ _ _ _ _ 1 (hr.below hA) hc hl (by omega)).mono ?_
  rintro e w1 ⟨v', rfl, hr1, hB1, hF1, ad, cp, rfl⟩
  have hX1 := hX.frame hF1 hBw
  have hF2 : Frame2 w w1 B none := (Frame2.of_below B none hA).trans hF1
  obtain ⟨⟨x0, x1, x2, f0, f1, f2⟩, ⟨y0, y1, g0, g1⟩, hs1⟩ := hX1.cells
  obtain ⟨ao, cap', e, _, hcc⟩ := hB1.cells
  simp only [Value.slice.injEq] at e
  obtain ⟨rfl, -, -⟩ := e
  obtain ⟨b, o, e, hcell⟩ := hcc (by simp; omega)
  cases e
  have c0 := hcell 0 (by simp; omega)
  rw [take1_get l a hc, Nat.add_zero] at c0
  clear hcell hcc
  go_wp2
  refine bodyPost_ret (v := .tuple #[.agg #[.int .i64 0, .int .i64 0, .string ⟨#[]⟩], .agg #[.int .i64 2, .int .i64 st]]) (by simp [results, Try.results108, go_sem, x0, x1, x2, y0, y1]) rfl ?_
  obtain ⟨k1, k2⟩ := nr_put hr hF2 hr1 (.int .i64 0) (.int .i64 0) (.string ⟨#[]⟩) (.int .i64 2) (.int .i64 st)
  exact ⟨k1, by decide, rfl, _, k2⟩

set_option maxRecDepth 100000 in
set_option maxHeartbeats 1000000 in
theorem leaf_no2 (w : World) (B : Nat) (v : Value) (l : List UInt8) (a : Nat) (st : Int) (hr : RdAt w B v l a) (hc : a + 1 ≤ l.length) (hl : l.length ≤ 4000) (hz : l[a].toNat ≤ 50) (hs : l.length < a + 1 + l[a].toNat) :
    Calls Try.prog 108 #[.pointer (some ⟨B, 0, none⟩), .int .i64 st] w fun e w' => NodeR w w' B v l e (.error (5, l.length)) := by
  have hBw := lt_of_heap hr.1
  go_enter Try.func108, Try.ntmps108
  go_wp2_with fail
  have hA : Below w.heap.size w ((w.alloc (.cells #[.int .i64 0, .int .i64 0, .string ⟨#[]⟩] 100)).alloc (.cells #[.int .i64 0, .int .i64 0] 110)) := ((Below.refl _ _).alloc (Nat.le_refl _) _).alloc (by simp) _
  have hX := BoxNF.new w
  generalize (w.alloc (.cells #[.int .i64 0, .int .i64 0, .string ⟨#[]⟩] 100)).alloc (.cells #[.int .i64 0, .int .i64 0] 110) = W at hA hX ⊢
  refine (take_ok _ _ _ _ _ 1 (hr.below hA) hc hl (by omega)).mono ?_
  rintro e w1 ⟨v', rfl, hr1, hB1, hF1, ad, cp, rfl⟩
  have hX1 := hX.frame hF1 hBw
  have hF2 : Frame2 w w1 B none := (Frame2.of_below B none hA).trans hF1
  obtain ⟨ao, cap', e, _, hcc⟩ := hB1.cells
  simp only [Value.slice.injEq] at e
  obtain ⟨rfl, -, -⟩ := e
  obtain ⟨b, o, e, hcell⟩ := hcc (by simp; omega)
  cases e
  have c0 := hcell 0 (by simp; omega)
  rw [take1_get l a hc, Nat.add_zero] at c0
  clear hcell hcc
  generalize hzz : l[a].toNat = z at *
  have TK := take_no w1 B v l (a + 1) z hr1 hc hs (by omega)
  go_wp2_with fail
  refine TK.mono ?_
  rintro e w2 ⟨rfl, hb2⟩
  have hr2 := hr1.below hb2
  have hX2 := hX1.below hb2
  go_wp2_with fail
  refine (short_any _ _ _ _ _ hr2).mono ?_
  rintro e w3 ⟨rfl, hb3⟩
  have hr3 := hr2.below hb3
  have hX3 := hX2.below hb3
  have hF3 := (hF2.then hb2).then hb3
  obtain ⟨⟨x0, x1, x2, f0, f1, f2⟩, ⟨y0, y1, g0, g1⟩, hs1⟩ := hX3.cells
  go_wp2
  refine bodyPost_ret (v := .tuple #[.agg #[.int .i64 0, .int .i64 0, .string ⟨#[]⟩], .agg #[.int .i64 5, .int .i64 l.length]]) (by simp [results, Try.results108, go_sem, x0, x1, x2, y0, y1]) rfl ?_
  obtain ⟨k1, k2⟩ := nr_put hr hF3 hr3 (.int .i64 0) (.int .i64 0) (.string ⟨#[]⟩) (.int .i64 5) (.int .i64 l.length)
  exact ⟨k1, by decide, rfl, _, k2⟩

set_option maxRecDepth 100000 in
set_option maxHeartbeats 1000000 in
theorem cleaf_ok (w : World) (B : Nat) (v : Value) (l : List UInt8) (a : Nat) (st : Int) (hr : RdAt w B v l a) (hc : a + 1 ≤ l.length) (hl : l.length ≤ 4000) (hz : l[a].toNat ≤ 50) (hs : a + 1 + l[a].toNat ≤ l.length) :
    Calls Try.prog 108 #[.pointer (some ⟨B, 0, none⟩), .int .i64 st] w fun e w' => NodeR w w' B v l e (.ok (⟨1, 0, ⟨((l.drop (a + 1)).take l[a].toNat).toArray⟩⟩, a + 1 + l[a].toNat)) := by
  have hBw := lt_of_heap hr.1
  go_enter Try.func108, Try.ntmps108
  go_wp2_with fail
  have hA : Below w.heap.size w ((w.alloc (.cells #[.int .i64 0, .int .i64 0, .string ⟨#[]⟩] 100)).alloc (.cells #[.int .i64 0, .int .i64 0] 110)) := ((Below.refl _ _).alloc (Nat.le_refl _) _).alloc (by simp) _
  have hX := BoxNF.new w
  generalize (w.alloc (.cells #[.int .i64 0, .int .i64 0, .string ⟨#[]⟩] 100)).alloc (.cells #[.int .i64 0, .int .i64 0] 110) = W at hA hX ⊢
  refine (take_ok _ _ _ _ _ 1 (hr.below hA) hc hl (by omega)).mono ?_
  rintro e w1 ⟨v', rfl, hr1, hB1, hF1, ad, cp, rfl⟩
  have hX1 := hX.frame hF1 hBw
  have hF2 : Frame2 w w1 B none := (Frame2.of_below B none hA).trans hF1
  obtain ⟨ao, cap', e, _, hcc⟩ := hB1.cells
  simp only [Value.slice.injEq] at e
  obtain ⟨rfl, -, -⟩ := e
  obtain ⟨b, o, e, hcell⟩ := hcc (by simp; omega)
  cases e
  have c0 := hcell 0 (by simp; omega)
  rw [take1_get l a hc, Nat.add_zero] at c0
  clear hcell hcc
  generalize hzz : l[a].toNat = z at *
  have TK := take_ok w1 B v l (a + 1) z hr1 (by omega) hl (by omega)
  go_wp2_with fail
  refine TK.mono ?_
  rintro e w2 ⟨v2, rfl, hr2, hB2, hF2', ad2, cp2, rfl⟩
  have hX2 := hX1.frame hF2' hBw
  have hF3 : Frame2 w w2 B none := hF2.trans hF2'
  obtain ⟨⟨x0, x1, x2, f0, f1, f2⟩, ⟨y0, y1, g0, g1⟩, hs1⟩ := hX2.cells
  have hlen : ((l.drop (a + 1)).take z).length = z := by simp; omega
  have hcv : (convert 24 9 (.slice (some ad2) z cp2)).run Try.prog w2 = .ok (.string ⟨((l.drop (a + 1)).take z).toArray⟩) w2 := by
    have := conv_slice w2 ((l.drop (a + 1)).take z) ad2 cp2 (by rw [hlen]; exact hB2)
    rwa [hlen] at this
  clear TK
  go_wp2
  refine bodyPost_ret (v := .tuple #[.agg #[.int .i64 1, .int .i64 0, .string ⟨((l.drop (a + 1)).take z).toArray⟩], .agg #[.int .i64 0, .int .i64 0]]) (by simp [results, Try.results108, go_sem, x0, x1, x2, y0, y1]) rfl ?_
  obtain ⟨k1, k2⟩ := nr_put hr hF3 hr2 (.int .i64 1) (.int .i64 0) (.string ⟨((l.drop (a + 1)).take z).toArray⟩) (.int .i64 0) (.int .i64 0)
  subst hzz
  exact ⟨k1, rfl, k2⟩
end Go.Proofs.Ytpdjdaipijjeeaa
