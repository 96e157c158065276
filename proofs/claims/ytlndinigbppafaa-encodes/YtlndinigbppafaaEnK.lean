/-
  The walk of the program's Encode.
-/
import Derived.Test.YtlndinigbppafaaEnB
import Derived.Test.YtlndinigbppafaaEnE
import Derived.Test.YtlndinigbppafaaEnC
import Derived.Test.YtlndinigbppafaaCodJ
namespace Go.Proofs.Ytlndinigbppafaa
open Go.RowKit

theorem BytesC.of_owns {w : World} {base : Nat} {v : Value} {n : Nat} {l : List UInt8} (h : w.ownsRow base 5 1 v n (bytes8 l)) : BytesC w v l := by
  refine ⟨BytesAt.of_owns h, ?_⟩
  have hn : l.length = n := by have := h.1; rw [bytes8_length] at this; omega
  subst hn
  rcases h.2 with ⟨rfl, h0⟩ | ⟨g, cap, cur, rfl, _, _, h1, h2, h3, _⟩
  · exact ⟨none, 0, by rw [h0], by omega, by unfold maxLen; omega⟩
  · exact ⟨_, cap, rfl, by omega, by omega⟩
theorem encMg_eq {k M N R : Int} {ns : List PN} (h3 : k = 1 ∨ k = 2 ∨ k = 3) (h : ∀ x ∈ ns, smallN x = true) : encMg k M N R ns = encM k M N R ns := by
  have e1 : encNsg ns = encNs ns := by
    unfold encNsg encNs
    congr 1
    apply List.map_congr_left
    intro x hx
    have := h x hx
    unfold smallN at this
    simp only [Bool.and_eq_true, decide_eq_true_eq] at this
    exact encNg_encN x (by omega) (by omega)
  unfold encMg encM
  rw [e1]
  rcases h3 with rfl | rfl | rfl
  · rfl
  · rfl
  · have : encHg 3 M N R = encH 3 M N R := by
      unfold encHg encH
      simp
      rfl
    rw [this]
theorem big_not {k M N R : Int} {ns : List PN} (h : (decide (4000 < ns.length) || bigB ns) = true) : ¬ ValidM ⟨k, M, N, R, ns⟩ := fun hv => by
  obtain ⟨h1, h2, _⟩ := smallB_iff (valid_small hv)
  simp only at h1 h2
  simp only [Bool.or_eq_true, decide_eq_true_eq] at h
  rcases h with h | h
  · omega
  · unfold bigB at h
    rw [List.any_eq_true] at h
    obtain ⟨x, hx, hb⟩ := h
    have := h2 x hx
    unfold smallN at this
    simp only [Bool.and_eq_true, decide_eq_true_eq] at this hb
    omega

/-- What the program's Encode gives. -/
def EncP (k M N R : Int) (ns : List PN) (w : World) (e : Ending) (w' : World) : Prop :=
  Below w.heap.size w w' ∧ ((ValidM ⟨k, M, N, R, ns⟩ ∧ ∃ v', e = .returned (.tuple #[v', .int .i64 0]) ∧ w'.ownsRow w.heap.size 5 1 v' (encM k M N R ns).length (bytes8 (encM k M N R ns))) ∨ (¬ ValidM ⟨k, M, N, R, ns⟩ ∧ e = .returned (.tuple #[.slice none 0 0, .int .i64 1])))

set_option maxRecDepth 100000 in
set_option maxHeartbeats 2000000 in
theorem encode_big (k M N R : Int) (T : Value) (ns : List PN) (w : World) (hT : NodesG w T ns) (hB : (decide (4000 < ns.length) || bigB ns) = true) :
    Calls Try.prog 48 #[.agg #[.int .i64 k, .int .i64 M, .int .i64 N, .int .i64 R, T]] w fun e w' => EncP k M N R ns w e w' := by
  obtain ⟨ao, cap, rfl, _⟩ := id hT
  have HV : Hid _ := big_not (k := k) (M := M) (N := N) (R := R) hB
  have hA : Below w.heap.size w (w.alloc (.cells #[.int .i64 k, .int .i64 M, .int .i64 N, .int .i64 R, .slice ao ns.length cap] 42)) := (Below.refl _ _).alloc (Nat.le_refl _) _
  go_enter Try.func48, Try.ntmps48
  go_wp2_with fail
  refine (tooGreat_any k M N R ns _ _ (hT.keep (keepA _ _))).mono ?_
  rintro e w1 ⟨rfl, hb1⟩
  rw [hB]
  go_wp2
  all_goals go_returns
  all_goals exact ⟨hA.trans (hb1.mono hA.size), .inr ⟨HV.out, rfl⟩⟩
end Go.Proofs.Ytlndinigbppafaa

/-
  The walk of the program's Encode, whole.
-/
namespace Go.Proofs.Ytlndinigbppafaa
open Go.RowKit

set_option maxRecDepth 100000 in
set_option maxHeartbeats 2000000 in
theorem encode_fit (k M N R : Int) (T : Value) (ns : List PN) (w : World) (hT : NodesG w T ns) (hB : (decide (4000 < ns.length) || bigB ns) = false) :
    Calls Try.prog 48 #[.agg #[.int .i64 k, .int .i64 M, .int .i64 N, .int .i64 R, T]] w fun e w' => EncP k M N R ns w e w' := by
  obtain ⟨ao, cap, rfl, _⟩ := id hT
  have hl : ns.length ≤ 4000 := by
    simp only [Bool.or_eq_false_iff, decide_eq_false_iff_not] at hB
    omega
  have he : ∀ x ∈ ns, x.ev.size ≤ 255 := by
    intro x hx
    simp only [Bool.or_eq_false_iff] at hB
    have h2 := hB.2
    unfold bigB at h2
    rw [List.any_eq_false] at h2
    have := h2 x hx
    simp only [decide_eq_true_eq] at this
    omega
  have HE : Hid _ := he
  clear he
  go_enter Try.func48, Try.ntmps48
  go_wp2_with fail
  have hA : Below w.heap.size w (w.alloc (.cells #[.int .i64 k, .int .i64 M, .int .i64 N, .int .i64 R, .slice ao ns.length cap] 42)) := (Below.refl _ _).alloc (Nat.le_refl _) _
  have hX : (w.alloc (.cells #[.int .i64 k, .int .i64 M, .int .i64 N, .int .i64 R, .slice ao ns.length cap] 42)).heap[w.heap.size]? = some (.cells #[.int .i64 k, .int .i64 M, .int .i64 N, .int .i64 R, .slice ao ns.length cap] 42 (0, 0)) := heap_alloc_new _ _
  have hT1 := hT.keep (keepA w (.cells #[.int .i64 k, .int .i64 M, .int .i64 N, .int .i64 R, .slice ao ns.length cap] 42))
  generalize w.alloc (.cells #[.int .i64 k, .int .i64 M, .int .i64 N, .int .i64 R, .slice ao ns.length cap] 42) = u1 at hA hX hT1 ⊢
  refine (tooGreat_any k M N R ns _ _ hT1).mono ?_
  rintro e u2 ⟨rfl, hb2⟩
  rw [hB]
  have hX2 := (hb2.block _ (lt_of_heap hX)).trans hX
  have hT2 := hT1.keep (KeepsT.of_below hb2 (Nat.le_refl _))
  have hB2 := hA.trans (hb2.mono hA.size)
  clear hA hX hT1 hb2 hT hB
  have c0 : u2.cell? ⟨w.heap.size, 0, none⟩ = some (.int .i64 k) := by rw [cell_of_row _ _ _ _ _ _ hX2]; rfl
  have c1 : u2.cell? ⟨w.heap.size, 1, none⟩ = some (.int .i64 M) := by rw [cell_of_row _ _ _ _ _ _ hX2]; rfl
  have c2 : u2.cell? ⟨w.heap.size, 2, none⟩ = some (.int .i64 N) := by rw [cell_of_row _ _ _ _ _ _ hX2]; rfl
  have c3 : u2.cell? ⟨w.heap.size, 3, none⟩ = some (.int .i64 R) := by rw [cell_of_row _ _ _ _ _ _ hX2]; rfl
  have c4 : u2.cell? ⟨w.heap.size, 4, none⟩ = some (.slice ao ns.length cap) := by rw [cell_of_row _ _ _ _ _ _ hX2]; rfl
  go_wp2_with fail
  refine (writeG k M N R _ ns _ hT2 hl HE.out).mono ?_
  rintro e u3 ⟨v3, rfl, hO3, hb3⟩
  have hX3 := (hb3.block _ (lt_of_heap hX2)).trans hX2
  have hT3 := hT2.keep (KeepsT.of_below hb3 (Nat.le_refl _))
  have hB3 := hB2.trans (hb3.mono hB2.size)
  have hO3' := owns_base hO3 hB2.size
  obtain ⟨ao3, cp3, rfl⟩ : ∃ ao3 cp3, v3 = .slice ao3 (encMg k M N R ns).length cp3 := by
    rcases hO3.2 with ⟨rfl, h0⟩ | ⟨g', cap', cur', rfl, _⟩
    · exact ⟨none, 0, by rw [h0]⟩
    · exact ⟨_, _, rfl⟩
  clear hX2 hT2 hB2 hb3 c0 c1 c2 c3 c4 hO3
  go_wp2_with fail
  refine (decode_any _ (encMg k M N R ns) u3 (BytesC.of_owns hO3')).mono ?_
  rintro e u4 ⟨hb4, hout⟩
  have hX4 := (hb4.block _ (lt_of_heap hX3)).trans hX3
  have hT4 := hT3.keep (KeepsT.of_below hb4 (Nat.le_refl _))
  have hB4 := hB3.trans (hb4.mono hB3.size)
  have hO4 := owns_below hO3' hb4
  have hxl := lt_of_heap hX4
  clear hX3 hT3 hB3 hb4 hO3'
  have c0 : u4.cell? ⟨w.heap.size, 0, none⟩ = some (.int .i64 k) := by rw [cell_of_row _ _ _ _ _ _ hX4]; rfl
  have c1 : u4.cell? ⟨w.heap.size, 1, none⟩ = some (.int .i64 M) := by rw [cell_of_row _ _ _ _ _ _ hX4]; rfl
  have c2 : u4.cell? ⟨w.heap.size, 2, none⟩ = some (.int .i64 N) := by rw [cell_of_row _ _ _ _ _ _ hX4]; rfl
  have c3 : u4.cell? ⟨w.heap.size, 3, none⟩ = some (.int .i64 R) := by rw [cell_of_row _ _ _ _ _ _ hX4]; rfl
  have c4 : u4.cell? ⟨w.heap.size, 4, none⟩ = some (.slice ao ns.length cap) := by rw [cell_of_row _ _ _ _ _ _ hX4]; rfl
  clear hX4
  have HG : Hid (ValidM ⟨k, M, N, R, ns⟩ → decS (encMg k M N R ns) = .ok ⟨k, M, N, R, ns⟩) := fun hv => by
    have h1 := smallB_iff (valid_small hv)
    rw [encMg_eq hv.k h1.2.1]
    exact decS_enc hv
  cases hd : decS (encMg k M N R ns) with
  | error y =>
    obtain ⟨f, q⟩ := y
    rw [hd] at hout
    obtain ⟨hf, rfl⟩ := hout
    have HV : Hid (¬ ValidM ⟨k, M, N, R, ns⟩) := fun hv => by have := HG.out hv; rw [hd] at this; cases this
    have hfn : (f != 0) = true := bne_of hf
    clear hd HG
    go_wp2
    all_goals go_returns
    all_goals exact ⟨hB4.alloc (by omega) _, .inr ⟨HV.out, rfl⟩⟩
  | ok y =>
    rw [hd] at hout
    obtain ⟨at4, cp4, rfl, hN4⟩ := hout
    have HD : Hid _ := hd
    have hA : Below u4.heap.size u4 (u4.alloc (.cells #[.int .i64 y.kind, .int .i64 y.m, .int .i64 y.n, .int .i64 y.root, .slice at4 y.tree.length cp4] 42)) := (Below.refl _ _).alloc (Nat.le_refl _) _
    have HA : Hid _ := hA
    clear hd hA
    have hy : y.tree.length ≤ 4000 := by
      obtain ⟨hv, _⟩ := decS_ok HD.out
      exact (smallB_iff (valid_small hv)).1
    by_cases hq : y = ⟨k, M, N, R, ns⟩
    · have HV : Hid (ValidM ⟨k, M, N, R, ns⟩) := by have := (decS_ok HD.out).1; rw [hq] at this; exact this
      have HM : Hid (encMg k M N R ns = encM k M N R ns) := encMg_eq HV.out.k (smallB_iff (valid_small HV.out)).2.1
      subst hq
      go_wp2_with fail
      refine (psame_tree k M N R ns ns at4 ao cp4 cap true _ (fun u hu => equal_eq ns _ _ u ((hN4.keep (keepA _ _)).keep (KeepsT.of_below hu (Nat.le_refl _))).any ((hT4.keep (keepA _ _)).keep (KeepsT.of_below hu (Nat.le_refl _))) (by omega))).mono ?_
      rintro e u5 ⟨rfl, hb5⟩
      go_wp2
      all_goals go_returns
      all_goals have hO5 : u5.ownsRow w.heap.size 5 1 (.slice ao3 (encMg k M N R ns).length cp3) (encM k M N R ns).length (bytes8 (encM k M N R ns)) := by (rw [← HM.out]; exact owns_below (owns_below hO4 HA.out) hb5)
      all_goals exact ⟨(hB4.trans (HA.out.mono hB4.size)).trans (hb5.mono (Nat.le_trans hB4.size HA.out.size)), .inl ⟨HV.out, _, rfl, hO5⟩⟩
    · have HV : Hid (¬ ValidM ⟨k, M, N, R, ns⟩) := fun hv => by
        have := HG.out hv
        rw [HD.out] at this
        exact hq (Except.ok.inj this)
      have HF : ∀ u : World, NodesG u (.slice at4 y.tree.length cp4) y.tree → NodesG u (.slice ao ns.length cap) ns → Calls Try.prog 67 #[.agg #[.int .i64 y.kind, .int .i64 y.m, .int .i64 y.n, .int .i64 y.root, .slice at4 y.tree.length cp4], .agg #[.int .i64 k, .int .i64 M, .int .i64 N, .int .i64 R, .slice ao ns.length cap]] u fun e w' => e = .returned (.bool false) ∧ Below u.heap.size u w' := by
        intro u h1 h2
        by_cases hh : y.kind = k ∧ y.m = M ∧ y.n = N ∧ y.root = R
        · have ht : y.tree ≠ ns := fun e => hq (by cases y; simp only at hh e; obtain ⟨rfl, rfl, rfl, rfl⟩ := hh; rw [e])
          obtain ⟨e1, e2, e3, e4⟩ := hh
          rw [e1, e2, e3, e4]
          refine psame_tree k M N R y.tree ns at4 ao cp4 cap false u (fun u' hu => ?_)
          have n1 := h1.keep (KeepsT.of_below hu (Nat.le_refl _))
          have n2 := h2.keep (KeepsT.of_below hu (Nat.le_refl _))
          by_cases hlen : y.tree.length = ns.length
          · exact equal_ne y.tree ns _ _ u' n1 n2 (by omega) hlen ht
          · exact equal_len y.tree ns _ _ u' n1 n2 hlen
        · exact psame_head _ _ _ _ _ _ _ _ _ _ u hh
      have HF' : Hid _ := HF
      clear HF hq
      go_wp2_with fail
      refine (HF'.out _ (hN4.keep (keepA _ _)).any (hT4.keep (keepA _ _))).mono ?_
      rintro e u5 ⟨rfl, hb5⟩
      go_wp2
      all_goals go_returns
      all_goals exact ⟨(hB4.trans (HA.out.mono hB4.size)).trans (hb5.mono (Nat.le_trans hB4.size HA.out.size)), .inr ⟨HV.out, rfl⟩⟩

theorem encode_any (k M N R : Int) (T : Value) (ns : List PN) (w : World) (hT : NodesG w T ns) :
    Calls Try.prog 48 #[.agg #[.int .i64 k, .int .i64 M, .int .i64 N, .int .i64 R, T]] w fun e w' => EncP k M N R ns w e w' := by
  cases hB : (decide (4000 < ns.length) || bigB ns) with
  | true => exact encode_big k M N R T ns w hT hB
  | false => exact encode_fit k M N R T ns w hT hB
end Go.Proofs.Ytlndinigbppafaa
