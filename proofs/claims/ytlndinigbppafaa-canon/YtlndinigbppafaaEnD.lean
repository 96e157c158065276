/-
  The walk of the document's Encode.
-/
import Derived.Test.YtlndinigbppafaaEnB
import Derived.Test.YtlndinigbppafaaEnC
namespace Go.Proofs.Ytlndinigbppafaa
open Go.RowKit

theorem decS_few' {l : List UInt8} {x : Msg} (h : decS l = .ok x) : x.tree.length ≤ 4000 := by
  obtain ⟨hv, _⟩ := decS_ok h
  have h1 := hv.len
  have h2 := encNs_pos x.tree
  unfold encV encM at h1
  rw [List.length_append] at h1
  omega

set_option maxRecDepth 100000 in
set_option maxHeartbeats 4000000 in
theorem refEnc_big (k M N R : Int) (T : Value) (ns : List PN) (w : World) (hT : NodesG w T ns) (hS : smallB k M N R ns = false) :
    Calls Try.prog 41 #[.agg #[.int .i64 k, .int .i64 M, .int .i64 N, .int .i64 R, T]] w fun e w' => e = .returned (.tuple #[.string ⟨#[]⟩, .int .i64 1]) ∧ Below w.heap.size w w' := by
  obtain ⟨ao, cap, rfl, _⟩ := id hT
  have hA : Below w.heap.size w (w.alloc (.cells #[.int .i64 k, .int .i64 M, .int .i64 N, .int .i64 R, .slice ao ns.length cap] 42)) := (Below.refl _ _).alloc (Nat.le_refl _) _
  go_enter Try.func41, Try.ntmps41
  go_wp2_with fail
  refine (small_any k M N R _ ns _ (hT.keep (keepA _ _))).mono ?_
  rintro e w1 ⟨rfl, hb1⟩
  rw [hS]
  go_wp2
  all_goals go_returns
  all_goals exact ⟨rfl, hA.trans (hb1.mono hA.size)⟩

set_option maxRecDepth 100000 in
set_option maxHeartbeats 4000000 in
theorem refEnc_any (k M N R : Int) (T : Value) (ns : List PN) (w : World) (hT : NodesG w T ns) (hS : smallB k M N R ns = true) :
    Calls Try.prog 41 #[.agg #[.int .i64 k, .int .i64 M, .int .i64 N, .int .i64 R, T]] w fun e w' => Below w.heap.size w w' ∧
      ((ValidM ⟨k, M, N, R, ns⟩ ∧ e = .returned (.tuple #[.string ⟨(encM k M N R ns).toArray⟩, .int .i64 0])) ∨ (¬ ValidM ⟨k, M, N, R, ns⟩ ∧ e = .returned (.tuple #[.string ⟨#[]⟩, .int .i64 1]))) := by
  obtain ⟨ao, cap, rfl, _⟩ := id hT
  have hns := (smallB_iff hS).1
  have hk0 : k ≠ 0 := by have := (smallB_iff hS).2.2.1; omega
  have hM := smallM_of hS
  have HM : Hid _ := hM
  clear hM
  go_enter Try.func41, Try.ntmps41
  go_wp2_with fail
  have hA : Below w.heap.size w (w.alloc (.cells #[.int .i64 k, .int .i64 M, .int .i64 N, .int .i64 R, .slice ao ns.length cap] 42)) := (Below.refl _ _).alloc (Nat.le_refl _) _
  have hX : (w.alloc (.cells #[.int .i64 k, .int .i64 M, .int .i64 N, .int .i64 R, .slice ao ns.length cap] 42)).heap[w.heap.size]? = some (.cells #[.int .i64 k, .int .i64 M, .int .i64 N, .int .i64 R, .slice ao ns.length cap] 42 (0, 0)) := heap_alloc_new _ _
  have hT1 := hT.keep (keepA w (.cells #[.int .i64 k, .int .i64 M, .int .i64 N, .int .i64 R, .slice ao ns.length cap] 42))
  generalize w.alloc (.cells #[.int .i64 k, .int .i64 M, .int .i64 N, .int .i64 R, .slice ao ns.length cap] 42) = u1 at hA hX hT1 ⊢
  refine (small_any k M N R _ ns _ hT1).mono ?_
  rintro e u2 ⟨rfl, hb2⟩
  rw [hS]
  have hX2 := (hb2.block _ (lt_of_heap hX)).trans hX
  have hT2 := hT1.keep (KeepsT.of_below hb2 (Nat.le_refl _))
  have hB2 := hA.trans (hb2.mono hA.size)
  clear hA hX hT1 hb2 hT hS
  have c0 : u2.cell? ⟨w.heap.size, 0, none⟩ = some (.int .i64 k) := by rw [cell_of_row _ _ _ _ _ _ hX2]; rfl
  have c1 : u2.cell? ⟨w.heap.size, 1, none⟩ = some (.int .i64 M) := by rw [cell_of_row _ _ _ _ _ _ hX2]; rfl
  have c2 : u2.cell? ⟨w.heap.size, 2, none⟩ = some (.int .i64 N) := by rw [cell_of_row _ _ _ _ _ _ hX2]; rfl
  have c3 : u2.cell? ⟨w.heap.size, 3, none⟩ = some (.int .i64 R) := by rw [cell_of_row _ _ _ _ _ _ hX2]; rfl
  have c4 : u2.cell? ⟨w.heap.size, 4, none⟩ = some (.slice ao ns.length cap) := by rw [cell_of_row _ _ _ _ _ _ hX2]; rfl
  go_wp2_with fail
  refine (refBytes_any k M N R _ ns _ hT2 HM.out).mono ?_
  rintro e u3 ⟨rfl, hb3⟩
  have hX3 := (hb3.block _ (lt_of_heap hX2)).trans hX2
  have hT3 := hT2.keep (KeepsT.of_below hb3 (Nat.le_refl _))
  have hB3 := hB2.trans (hb3.mono hB2.size)
  clear hX2 hT2 hB2 hb3 c0 c1 c2 c3 c4
  go_wp2_with fail
  refine (dec_any ⟨(encM k M N R ns).toArray⟩ u3).mono ?_
  rintro e u4 ⟨hb4, hout⟩
  have hX4 := (hb4.block _ (lt_of_heap hX3)).trans hX3
  have hT4 := hT3.keep (KeepsT.of_below hb4 (Nat.le_refl _))
  have hB4 := hB3.trans (hb4.mono hB3.size)
  have hxl := lt_of_heap hX4
  clear hX3 hT3 hB3 hb4
  have c0 : u4.cell? ⟨w.heap.size, 0, none⟩ = some (.int .i64 k) := by rw [cell_of_row _ _ _ _ _ _ hX4]; rfl
  have c1 : u4.cell? ⟨w.heap.size, 1, none⟩ = some (.int .i64 M) := by rw [cell_of_row _ _ _ _ _ _ hX4]; rfl
  have c2 : u4.cell? ⟨w.heap.size, 2, none⟩ = some (.int .i64 N) := by rw [cell_of_row _ _ _ _ _ _ hX4]; rfl
  have c3 : u4.cell? ⟨w.heap.size, 3, none⟩ = some (.int .i64 R) := by rw [cell_of_row _ _ _ _ _ _ hX4]; rfl
  have c4 : u4.cell? ⟨w.heap.size, 4, none⟩ = some (.slice ao ns.length cap) := by rw [cell_of_row _ _ _ _ _ _ hX4]; rfl
  have hdl : (⟨(encM k M N R ns).toArray⟩ : ByteArray).data.toList = encM k M N R ns := by simp
  rw [hdl] at hout
  clear hdl hX4
  have HX4 : Hid (w.heap.size < u4.heap.size) := hxl
  cases hd : decS (encM k M N R ns) with
  | error y =>
    obtain ⟨f, q⟩ := y
    rw [hd] at hout
    obtain ⟨hf, rfl⟩ := hout
    have HV : Hid (¬ ValidM ⟨k, M, N, R, ns⟩) := fun hv => by have := decS_enc hv; unfold encV at this; simp only at this; rw [hd] at this; cases this
    have hfn : (f != 0) = true := bne_of hf
    clear hd
    unfold msgV
    go_wp2_with fail
    have hA : Below u4.heap.size u4 (u4.alloc (.cells #[.int .i64 0, .int .i64 0, .int .i64 0, .int .i64 0, .slice none 0 0] 42)) := (Below.refl _ _).alloc (Nat.le_refl _) _
    refine (same_ne 0 0 0 0 k M N R [] ns (.slice none 0 0) _ _ ⟨none, 0, rfl, fun _ => rfl, fun h => (by simp at h)⟩ (hT4.keep (keepA _ _)) (by simp) (fun h => hk0 h.1.symm)).mono ?_
    rintro e u5 ⟨rfl, hb5⟩
    go_wp2
    all_goals go_returns
    all_goals exact ⟨(hB4.trans (hA.mono hB4.size)).trans (hb5.mono (Nat.le_trans hB4.size hA.size)), .inr ⟨HV.out, rfl⟩⟩
  | ok y =>
    rw [hd] at hout
    obtain ⟨T4, rfl, hN4⟩ := hout
    obtain ⟨ao4, cp4, rfl, _⟩ := id hN4
    have hy := decS_few' hd
    have HD : Hid _ := hd
    unfold msgV
    have hA : Below u4.heap.size u4 (u4.alloc (.cells #[.int .i64 y.kind, .int .i64 y.m, .int .i64 y.n, .int .i64 y.root, .slice ao4 y.tree.length cp4] 42)) := (Below.refl _ _).alloc (Nat.le_refl _) _
    have HA : Hid _ := hA
    clear hd hA
    by_cases he : y = ⟨k, M, N, R, ns⟩
    · have HV : Hid (ValidM ⟨k, M, N, R, ns⟩) := by have := (decS_ok HD.out).1; rw [he] at this; exact this
      subst he
      go_wp2_with fail
      refine (same_eq k M N R _ _ ns _ (hN4.keep (keepA _ _)).any (hT4.keep (keepA _ _)) (by omega)).mono ?_
      rintro e u5 ⟨rfl, hb5⟩
      go_wp2
      all_goals go_returns
      all_goals exact ⟨(hB4.trans (HA.out.mono hB4.size)).trans (hb5.mono (Nat.le_trans hB4.size HA.out.size)), .inl ⟨HV.out, rfl⟩⟩
    · have HV : Hid (¬ ValidM ⟨k, M, N, R, ns⟩) := fun hv => by
        have := decS_enc hv
        unfold encV at this
        simp only at this
        rw [HD.out] at this
        exact he (Except.ok.inj this)
      have HE : Hid (¬ (y.kind = k ∧ y.m = M ∧ y.n = N ∧ y.root = R ∧ y.tree = ns)) := fun h => he (by cases y; simp only at h; obtain ⟨rfl, rfl, rfl, rfl, rfl⟩ := h; rfl)
      clear he
      go_wp2_with fail
      refine (same_ne y.kind y.m y.n y.root k M N R y.tree ns _ _ _ (hN4.keep (keepA _ _)).any (hT4.keep (keepA _ _)) (by omega) HE.out).mono ?_
      rintro e u5 ⟨rfl, hb5⟩
      go_wp2
      all_goals go_returns
      all_goals exact ⟨(hB4.trans (HA.out.mono hB4.size)).trans (hb5.mono (Nat.le_trans hB4.size HA.out.size)), .inr ⟨HV.out, rfl⟩⟩
end Go.Proofs.Ytlndinigbppafaa
