/-
  The walk of the law Decodes.
-/
import Derived.Test.YtlndinigbppafaaDcA
import Derived.Test.YtlndinigbppafaaCodJ
namespace Go.Proofs.Ytlndinigbppafaa
open Go.RowKit

/-- A read message has few nodes. -/
theorem decS_few {l : List UInt8} {x : Msg} (h : decS l = .ok x) : x.tree.length ≤ 4000 := by
  obtain ⟨hv, _⟩ := decS_ok h
  have h1 := hv.len
  have h2 := encNs_pos x.tree
  unfold encV encM at h1
  rw [List.length_append] at h1
  omega

/-- Both Decodes tell the same. -/
theorem dec_both (l : List UInt8) (w : World) (e : Ending) (w1 : World) (h : DecP l w e w1) :
    ∃ (k M N R : Int) (ao : Option Addr) (c : Nat) (ns : List PN) (f q : Int), e = .returned (.tuple #[.agg #[.int .i64 k, .int .i64 M, .int .i64 N, .int .i64 R, .slice ao ns.length c], .int .i64 f, .int .i64 q]) ∧ NodesAt w1 (.slice ao ns.length c) ns ∧ ns.length ≤ 4000 ∧
      ∀ (u : World) (r : Ending) (u' : World), DecOut ⟨l.toArray⟩ u r u' → ∃ (ao' : Option Addr) (c' : Nat), r = .returned (.tuple #[.agg #[.int .i64 k, .int .i64 M, .int .i64 N, .int .i64 R, .slice ao' ns.length c'], .int .i64 f, .int .i64 q]) ∧ NodesAt u' (.slice ao' ns.length c') ns ∧ Below u.heap.size u u' := by
  obtain ⟨_, h⟩ := h
  cases hd : decS l with
  | error y =>
    obtain ⟨f, q⟩ := y
    rw [hd] at h
    refine ⟨0, 0, 0, 0, none, 0, [], f, q, h.2, ⟨none, 0, rfl, fun _ => rfl, fun h => (by simp at h)⟩, by simp, fun u r u' hu => ?_⟩
    obtain ⟨hb, hu⟩ := hu
    simp only [hd] at hu
    exact ⟨none, 0, hu.2, ⟨none, 0, rfl, fun _ => rfl, fun h => (by simp at h)⟩, hb⟩
  | ok x =>
    rw [hd] at h
    obtain ⟨ao, c, rfl, hN⟩ := h
    refine ⟨x.kind, x.m, x.n, x.root, ao, c, x.tree, 0, 0, rfl, hN, decS_few hd, fun u r u' hu => ?_⟩
    obtain ⟨hb, hu⟩ := hu
    simp only [hd] at hu
    obtain ⟨T, rfl, hT⟩ := hu
    obtain ⟨ao', c', rfl, _⟩ := id hT
    exact ⟨ao', c', rfl, hT, hb⟩

set_option maxRecDepth 100000 in
set_option maxHeartbeats 4000000 in
theorem decoded_any (ad : Addr) (cp : Nat) (l : List UInt8) (w : World) (hv : BytesC w (.slice (some ad) l.length cp) l) :
    Calls Try.prog 17 #[.slice (some ad) l.length cp] w fun e w' => ∃ (k M N R : Int) (ao : Option Addr) (n c : Nat), e = .returned (.tuple #[.agg #[.int .i64 k, .int .i64 M, .int .i64 N, .int .i64 R, .slice ao n c], .bool true]) ∧ Below w.heap.size w w' := by
  go_enter Try.func17, Try.ntmps17
  go_wp2_with fail
  refine (steleDecode_any _ l _ (hv.below ((Below.refl _ _).alloc (Nat.le_refl _) _))).mono ?_
  rintro e w1 hout
  have hb1 := hout.1
  have hZ : MsgZ w1 w.heap.size := MsgZ.below (MsgZ.new w) hb1
  have hb : Below w.heap.size w w1 := ((Below.refl _ _).alloc (Nat.le_refl _) _).trans (hb1.mono (by simp))
  have hx1 := lt_of_heap hZ
  have hv1 : BytesC w1 (.slice (some ad) l.length cp) l := (hv.below ((Below.refl _ _).alloc (Nat.le_refl _) _)).below hb1
  obtain ⟨k, M, N, R, ao, c, ns, f, q, rfl, hN, hns, hboth⟩ := dec_both l _ _ _ hout
  have HB : Hid _ := hboth
  clear hb1 hout hboth hv
  have hcv : (convert 24 9 (.slice (some ad) l.length cp)).run Try.prog (w1.alloc (.cells #[.int .i64 k, .int .i64 M, .int .i64 N, .int .i64 R, .slice ao ns.length c] 42)) = .ok (.string ⟨l.toArray⟩) (w1.alloc (.cells #[.int .i64 k, .int .i64 M, .int .i64 N, .int .i64 R, .slice ao ns.length c] 42)) :=
    conv_slice _ l ad cp (hv1.1.keep (keepA _ _))
  go_wp2_with fail
  have hA : Below w1.heap.size w1 (w1.alloc (.cells #[.int .i64 k, .int .i64 M, .int .i64 N, .int .i64 R, .slice ao ns.length c] 42)) := (Below.refl _ _).alloc (Nat.le_refl _) _
  have hG : (w1.alloc (.cells #[.int .i64 k, .int .i64 M, .int .i64 N, .int .i64 R, .slice ao ns.length c] 42)).heap[w1.heap.size]? = some (.cells #[.int .i64 k, .int .i64 M, .int .i64 N, .int .i64 R, .slice ao ns.length c] 42 (0, 0)) := heap_alloc_new _ _
  have hZ2 := hZ.below hA
  have hb2 := hb.trans (hA.mono hb.size)
  have hN2 := hN.keep (KeepsT.of_below hA (Nat.le_refl _))
  clear hA hZ hb hN hcv hv1
  generalize w1.alloc (.cells #[.int .i64 k, .int .i64 M, .int .i64 N, .int .i64 R, .slice ao ns.length c] 42) = u2 at hG hZ2 hb2 hN2 ⊢
  generalize w1.heap.size = G at hG hx1 ⊢
  refine (dec_any ⟨l.toArray⟩ u2).mono ?_
  rintro e u3 hout
  obtain ⟨ao', c', rfl, hN3, hb3⟩ := HB.out _ _ _ hout
  clear hout HB
  have hG3 := (hb3.block _ (lt_of_heap hG)).trans hG
  have hZ3 := hZ2.below hb3
  have hb03 := hb2.trans (hb3.mono hb2.size)
  have hM3 := hN2.keep (KeepsT.of_below hb3 (Nat.le_refl _))
  clear hb3 hG hZ2 hb2 hN2
  have hGl := lt_of_heap hG3
  have g0 : u3.cell? ⟨G, 0, none⟩ = some (.int .i64 k) := by rw [cell_of_row _ _ _ _ _ _ hG3]; rfl
  have g1 : u3.cell? ⟨G, 1, none⟩ = some (.int .i64 M) := by rw [cell_of_row _ _ _ _ _ _ hG3]; rfl
  have g2 : u3.cell? ⟨G, 2, none⟩ = some (.int .i64 N) := by rw [cell_of_row _ _ _ _ _ _ hG3]; rfl
  have g3 : u3.cell? ⟨G, 3, none⟩ = some (.int .i64 R) := by rw [cell_of_row _ _ _ _ _ _ hG3]; rfl
  have g4 : u3.cell? ⟨G, 4, none⟩ = some (.slice ao ns.length c) := by rw [cell_of_row _ _ _ _ _ _ hG3]; rfl
  go_wp2_with fail
  have hA : Below u3.heap.size u3 (u3.alloc (.cells #[.int .i64 k, .int .i64 M, .int .i64 N, .int .i64 R, .slice ao' ns.length c'] 42)) := (Below.refl _ _).alloc (Nat.le_refl _) _
  have hG4 := (hA.block _ hGl).trans hG3
  have hZ4 := hZ3.below hA
  have hb04 := hb03.trans (hA.mono hb03.size)
  have hM4 := hM3.keep (KeepsT.of_below hA (Nat.le_refl _))
  have hN4 := hN3.keep (KeepsT.of_below hA (Nat.le_refl _))
  clear g0 g1 g2 g3 g4 hA hG3 hZ3 hb03 hM3 hN3 hGl
  generalize u3.alloc (.cells #[.int .i64 k, .int .i64 M, .int .i64 N, .int .i64 R, .slice ao' ns.length c'] 42) = u4 at hG4 hZ4 hb04 hM4 hN4 ⊢
  refine (same_eq k M N R _ _ ns u4 hM4.any hN4.any (by omega)).mono ?_
  rintro e u5 ⟨rfl, hb5⟩
  have hG5 := (hb5.block _ (lt_of_heap hG4)).trans hG4
  have hZ5 := hZ4.below hb5
  have hb05 := hb04.trans (hb5.mono hb04.size)
  clear hb5 hG4 hZ4 hb04 hM4 hN4
  have g0 : u5.cell? ⟨G, 0, none⟩ = some (.int .i64 k) := by rw [cell_of_row _ _ _ _ _ _ hG5]; rfl
  have g1 : u5.cell? ⟨G, 1, none⟩ = some (.int .i64 M) := by rw [cell_of_row _ _ _ _ _ _ hG5]; rfl
  have g2 : u5.cell? ⟨G, 2, none⟩ = some (.int .i64 N) := by rw [cell_of_row _ _ _ _ _ _ hG5]; rfl
  have g3 : u5.cell? ⟨G, 3, none⟩ = some (.int .i64 R) := by rw [cell_of_row _ _ _ _ _ _ hG5]; rfl
  have g4 : u5.cell? ⟨G, 4, none⟩ = some (.slice ao ns.length c) := by rw [cell_of_row _ _ _ _ _ _ hG5]; rfl
  have hn1 : ¬ w.heap.size = G := by omega
  obtain ⟨x0, x1, x2, x3, x4, r0, r1, r2, r3, r4, rB⟩ := MsgZ.cells hZ5
  go_wp2_with fail
  go_region_held3 (fun w' => w'.cell? ⟨G, 0, none⟩ = some (.int .i64 k) ∧ w'.cell? ⟨G, 1, none⟩ = some (.int .i64 M) ∧ w'.cell? ⟨G, 2, none⟩ = some (.int .i64 N) ∧ w'.cell? ⟨G, 3, none⟩ = some (.int .i64 R) ∧ w'.cell? ⟨G, 4, none⟩ = some (.slice ao ns.length c)) (go_keep)
    (first | (go_at_call 32; refine (num_any _ _).mono ?_; rintro e w' ⟨rfl, rfl⟩) | fail)
  all_goals go_wp2
  all_goals refine bodyPost_ret (v := .tuple #[.agg #[.int .i64 k, .int .i64 M, .int .i64 N, .int .i64 R, .slice ao ns.length c], .bool true]) (by simp [results, Try.results17, go_sem, x0, x1, x2, x3, x4]) rfl ?_
  all_goals exact ⟨_, _, _, _, _, _, _, rfl, by go_grown⟩

set_option maxRecDepth 100000 in
set_option maxHeartbeats 4000000 in
theorem decodes_any (s : ByteArray) (w : World) (hs : s.size ≤ maxLen) :
    Calls Try.prog 6 #[.string s] w fun e w' => e = .returned (.bool true) ∧ Below w.heap.size w w' := by
  have hcv := run_bytes_of_string (P := Try.prog) w 9 24 5 s Try.underlying9 Try.underlying24 Try.underlying5
  have hge := grownCap_ge w s.size 0 5
  have hmax := grownCap_le_maxLen w s.size 0 5 hs
  generalize grownCap w s.size 0 5 = cp at hcv hge hmax
  generalize ((bytesRow s cp).size, (bytesRow s cp).size + 1) = fr at hcv
  have hll : s.data.toList.length = s.size := by rw [Array.length_toList]; rfl
  have hB : BytesAt (w.drew.alloc (.cells (bytesRow s cp) 5 fr)) (.slice (some ⟨w.heap.size, 0, none⟩) s.data.toList.length cp) s.data.toList := by
    rw [hll]; exact BytesAt.made w.drew s cp fr
  have hC : BytesC (w.drew.alloc (.cells (bytesRow s cp) 5 fr)) (.slice (some ⟨w.heap.size, 0, none⟩) s.data.toList.length cp) s.data.toList := ⟨hB, _, _, rfl, by omega, hmax⟩
  have HD := decoded_any ⟨w.heap.size, 0, none⟩ cp s.data.toList _ hC
  rw [hll] at HD
  have hA : Below w.heap.size w (w.drew.alloc (.cells (bytesRow s cp) 5 fr)) := ((Below.refl _ _).drew).alloc (Nat.le_refl _) _
  have HD' : Hid _ := HD
  have HA : Hid _ := hA
  clear HD hA hC hB hll hge hmax
  go_enter Try.func6, Try.ntmps6
  go_wp2_with fail
  refine Calls.mono HD'.out ?_
  rintro e w1 ⟨k, M, N, R, ao, n, c, rfl, hb1⟩
  have hbw := HA.out.trans (hb1.mono HA.out.size)
  have hbz := hbw.size
  go_wp2
  go_returns
  exact ⟨rfl, hbw.alloc hbz _⟩
end Go.Proofs.Ytlndinigbppafaa
