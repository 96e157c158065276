/-
  The walk of the document's Same at values that are not the same.
-/
import Derived.Test.YtlndinigbppafaaDcA
import Derived.MapKept
import Derived.Laws.StructEq
namespace Go.Proofs.Ytlndinigbppafaa
open Go.RowKit

theorem bne_of {a b : Int} (h : a ≠ b) : (a != b) = true := by rw [bne, beq_eq_false_iff_ne.2 h]; rfl

set_option maxRecDepth 100000 in
set_option maxHeartbeats 4000000 in
theorem same_ne (k M N R k' M' N' R' : Int) (xs ys : List PN) (T U : Value) (w : World) (hT : NodesG w T xs) (hU : NodesG w U ys) (hn : xs.length ≤ 1000000) (hne : ¬ (k = k' ∧ M = M' ∧ N = N' ∧ R = R' ∧ xs = ys)) :
    Calls Try.prog 40 #[.agg #[.int .i64 k, .int .i64 M, .int .i64 N, .int .i64 R, T], .agg #[.int .i64 k', .int .i64 M', .int .i64 N', .int .i64 R', U]] w fun e w' => e = .returned (.bool false) ∧ Below w.heap.size w w' := by
  obtain ⟨ao, cap, rfl, _, hc⟩ := hT.cells
  obtain ⟨ao', cap', rfl, _, hc'⟩ := hU.cells
  by_cases h1 : k = k'
  · subst h1
    by_cases h2 : M = M'
    · subst h2
      by_cases h3 : N = N'
      · subst h3
        by_cases h4 : R = R'
        · subst h4
          by_cases h5 : xs.length = ys.length
          · have HNE : Hid (xs ≠ ys) := fun h => hne ⟨rfl, rfl, rfl, rfl, h⟩
            clear hne
            have HL : Hid _ := h5
            rw [← h5] at hU ⊢
            have hc2 : 0 < xs.length → ∃ b o, ao' = some ⟨b, o, none⟩ ∧ b < w.heap.size ∧ ∀ j (h : j < ys.length), w.cell? ⟨b, o + j * 3, none⟩ = some (.int .i64 ys[j].kind) ∧ w.cell? ⟨b, o + j * 3 + 1, none⟩ = some (.int .i64 ys[j].dig) ∧ w.cell? ⟨b, o + j * 3 + 2, none⟩ = some (.string ys[j].ev) := fun h => hc' (by omega)
            clear hc' h5
            go_enter Try.func40, Try.ntmps40
            go_wp2
            go_loopw [5] (fun i wr => ∃ j : Nat, j ≤ xs.length ∧ i = .int .i64 j ∧ Hid (xs.take j = ys.take j) ∧ Below (w.heap.size + 1 + 1) ((w.alloc (.cells #[.int .i64 k, .int .i64 M, .int .i64 N, .int .i64 R, .slice ao xs.length cap] 42)).alloc (.cells #[.int .i64 k, .int .i64 M, .int .i64 N, .int .i64 R, .slice ao' xs.length cap'] 42)) wr) (fun i _ => xs.length - (intOf i).toNat)
            case atStart => exact ⟨0, Nat.zero_le _, rfl, rfl, Below.refl _ _⟩
            case round =>
              obtain ⟨j, hj, rfl, hall, hb⟩ := hrel
              have hbw : Below w.heap.size w wr := (((Below.refl _ _).alloc (Nat.le_refl _) _).alloc (by simp) _).trans (hb.mono (by omega))
              have hbs : w.heap.size + 1 + 1 ≤ wr.heap.size := by have := hb.size; simpa using this
              have hbx : wr.cell? ⟨w.heap.size, 4, none⟩ = some (.slice ao xs.length cap) := (hb.cell (p := ⟨w.heap.size, 4, none⟩) (by simp; omega)).trans (by simp)
              have hby : wr.cell? ⟨w.heap.size + 1, 4, none⟩ = some (.slice ao' xs.length cap') := (hb.cell (p := ⟨w.heap.size + 1, 4, none⟩) (by simp)).trans (by rw [cell_of_row _ _ _ _ _ _ (heap_new _ _ _ (by simp))]; rfl)
              by_cases hlt : j < xs.length
              · have hlt' : j < ys.length := by rw [← HL.out]; exact hlt
                obtain ⟨b, o, rfl, hbl, hcl⟩ := hc (by omega)
                obtain ⟨b', o', rfl, hbl', hcl'⟩ := hc2 (by omega)
                obtain ⟨e0, e1, e2⟩ := hcl j hlt
                obtain ⟨g0, g1, g2⟩ := hcl' j hlt'
                replace e0 := (hbw.cell (p := ⟨b, o + j * 3, none⟩) hbl).trans e0
                replace e1 := (hbw.cell (p := ⟨b, o + j * 3 + 1, none⟩) hbl).trans e1
                replace e2 := (hbw.cell (p := ⟨b, o + j * 3 + 2, none⟩) hbl).trans e2
                replace g0 := (hbw.cell (p := ⟨b', o' + j * 3, none⟩) hbl').trans g0
                replace g1 := (hbw.cell (p := ⟨b', o' + j * 3 + 1, none⟩) hbl').trans g1
                replace g2 := (hbw.cell (p := ⟨b', o' + j * 3 + 2, none⟩) hbl').trans g2
                have HX : Hid (xs[j] = ys[j] → xs.take (j + 1) = ys.take (j + 1)) := fun h => by rw [take_snoc xs j hlt, take_snoc ys j hlt', hall.out, h]
                generalize xs[j] = x at *
                generalize ys[j] = y at *
                clear hcl hcl' hc hc2 hT hU hlt' hall
                by_cases q1 : x.kind = y.kind
                · by_cases q2 : x.dig = y.dig
                  · by_cases q3 : x.ev = y.ev
                    · rw [← q1] at g0
                      rw [← q2] at g1
                      rw [← q3] at g2
                      have HE : Hid (xs.take (j + 1) = ys.take (j + 1)) := HX.out (by cases x; cases y; simp only at q1 q2 q3; subst q1 q2 q3; rfl)
                      clear q1 q2 q3 HX
                      go_wp2
                      go_quiet (fail)
                      go_wp2
                      go_roundw
                      case rel => exact ⟨j + 1, by omega, by go_num, HE, below_drewN hb _⟩
                      case measure => simp [intOf]; omega
                    · rw [← q1] at g0
                      rw [← q2] at g1
                      have q4 : (x.ev == y.ev) = false := Bool.eq_false_iff.2 (fun h => q3 ((MapKept.bytes_beq _ _).1 h))
                      have q5 : (x.ev.toList == y.ev.toList) = false := by rw [← beq_toListBytes]; exact q4
                      clear q1 q2 HX
                      go_wp2
                      go_quiet (fail)
                      go_wp2
                      go_ret
                      exact ⟨rfl, below_drewN hbw _⟩
                  · rw [← q1] at g0
                    have q4 := bne_of q2
                    clear q1 HX
                    go_wp2
                    go_quiet (fail)
                    go_wp2
                    go_ret
                    exact ⟨rfl, below_drewN hbw _⟩
                · have q4 := bne_of q1
                  clear HX
                  go_wp2
                  go_quiet (fail)
                  go_wp2
                  go_ret
                  exact ⟨rfl, below_drewN hbw _⟩
              · exfalso
                have hjl : j = xs.length := by omega
                subst hjl
                have h := hall.out
                rw [List.take_length, HL.out, List.take_length] at h
                exact HNE.out h
          · have q4 : ((xs.length : Int) != (ys.length : Int)) = true := bne_of (by omega)
            clear hne hc hc'
            go_enter Try.func40, Try.ntmps40
            go_wp2
            all_goals go_ret
            all_goals exact ⟨rfl, ((Below.refl _ _).alloc (Nat.le_refl _) _).alloc (by simp) _⟩
        · have q4 := bne_of h4
          clear hne hc hc'
          go_enter Try.func40, Try.ntmps40
          go_wp2
          all_goals go_ret
          all_goals exact ⟨rfl, ((Below.refl _ _).alloc (Nat.le_refl _) _).alloc (by simp) _⟩
      · have q4 := bne_of h3
        clear hne hc hc'
        go_enter Try.func40, Try.ntmps40
        go_wp2
        all_goals go_ret
        all_goals exact ⟨rfl, ((Below.refl _ _).alloc (Nat.le_refl _) _).alloc (by simp) _⟩
    · have q4 := bne_of h2
      clear hne hc hc'
      go_enter Try.func40, Try.ntmps40
      go_wp2
      all_goals go_ret
      all_goals exact ⟨rfl, ((Below.refl _ _).alloc (Nat.le_refl _) _).alloc (by simp) _⟩
  · have q4 := bne_of h1
    clear hne hc hc'
    go_enter Try.func40, Try.ntmps40
    go_wp2
    all_goals go_ret
    all_goals exact ⟨rfl, ((Below.refl _ _).alloc (Nat.le_refl _) _).alloc (by simp) _⟩
end Go.Proofs.Ytlndinigbppafaa

/-
  The walk of slices.Equal at nodes, and of the program's same.
-/
namespace Go.Proofs.Ytlndinigbppafaa
open Go.RowKit

set_option maxRecDepth 100000 in
set_option maxHeartbeats 1000000 in
theorem equal_len (xs ys : List PN) (T U : Value) (w : World) (hT : NodesG w T xs) (hU : NodesG w U ys) (hne : xs.length ≠ ys.length) :
    Calls Try.prog 86 #[T, U] w fun e w' => e = .returned (.bool false) ∧ Below w.heap.size w w' := by
  obtain ⟨ao, cap, rfl, _⟩ := id hT
  obtain ⟨ao', cap', rfl, _⟩ := id hU
  have q4 : ((xs.length : Int) != (ys.length : Int)) = true := bne_of (by omega)
  go_enter Try.func86, Try.ntmps86
  go_wp2
  all_goals go_ret
  all_goals exact ⟨rfl, Below.refl _ _⟩

set_option maxRecDepth 100000 in
set_option maxHeartbeats 1000000 in
theorem equal_eq (xs : List PN) (T U : Value) (w : World) (hT : NodesG w T xs) (hU : NodesG w U xs) (hn : xs.length ≤ 1000000) :
    Calls Try.prog 86 #[T, U] w fun e w' => e = .returned (.bool true) ∧ Below w.heap.size w w' := by
  obtain ⟨ao, cap, rfl, _, hc⟩ := hT.cells
  obtain ⟨ao', cap', rfl, _, hc'⟩ := hU.cells
  go_enter Try.func86, Try.ntmps86
  go_wp2
  go_loopw [13] (fun i wr => ∃ j : Nat, j ≤ xs.length ∧ i = .int .i64 j ∧ Below w.heap.size w wr) (fun i _ => xs.length - (intOf i).toNat)
  case atStart => exact ⟨0, Nat.zero_le _, rfl, Below.refl _ _⟩
  case round =>
    obtain ⟨j, hj, rfl, hb⟩ := hrel
    by_cases hlt : j < xs.length
    · obtain ⟨b, o, rfl, hbl, hcl⟩ := hc (by omega)
      obtain ⟨b', o', rfl, hbl', hcl'⟩ := hc' (by omega)
      obtain ⟨e0, e1, e2⟩ := hcl j hlt
      obtain ⟨g0, g1, g2⟩ := hcl' j hlt
      replace e0 := (hb.cell (p := ⟨b, o + j * 3, none⟩) hbl).trans e0
      replace e1 := (hb.cell (p := ⟨b, o + j * 3 + 1, none⟩) hbl).trans e1
      replace e2 := (hb.cell (p := ⟨b, o + j * 3 + 2, none⟩) hbl).trans e2
      replace g0 := (hb.cell (p := ⟨b', o' + j * 3, none⟩) hbl').trans g0
      replace g1 := (hb.cell (p := ⟨b', o' + j * 3 + 1, none⟩) hbl').trans g1
      replace g2 := (hb.cell (p := ⟨b', o' + j * 3 + 2, none⟩) hbl').trans g2
      generalize xs[j] = x at *
      clear hcl hcl' hc hc' hT hU
      go_wp2
      go_quiet (fail)
      go_wp2
      go_roundw
      case rel => exact ⟨j + 1, by omega, by go_num, below_drewN hb _⟩
      case measure => simp [intOf]; omega
    · have hjl : j = xs.length := by omega
      subst hjl
      go_wp2
      go_ret
      exact ⟨rfl, hb⟩

set_option maxRecDepth 100000 in
set_option maxHeartbeats 1000000 in
theorem equal_ne (xs ys : List PN) (T U : Value) (w : World) (hT : NodesG w T xs) (hU : NodesG w U ys) (hn : xs.length ≤ 1000000) (h5 : xs.length = ys.length) (hne : xs ≠ ys) :
    Calls Try.prog 86 #[T, U] w fun e w' => e = .returned (.bool false) ∧ Below w.heap.size w w' := by
  obtain ⟨ao, cap, rfl, _, hc⟩ := hT.cells
  obtain ⟨ao', cap', rfl, _, hc'⟩ := hU.cells
  have HNE : Hid _ := hne
  have HL : Hid _ := h5
  have hc2 : 0 < xs.length → ∃ b o, ao' = some ⟨b, o, none⟩ ∧ b < w.heap.size ∧ ∀ j (h : j < ys.length), w.cell? ⟨b, o + j * 3, none⟩ = some (.int .i64 ys[j].kind) ∧ w.cell? ⟨b, o + j * 3 + 1, none⟩ = some (.int .i64 ys[j].dig) ∧ w.cell? ⟨b, o + j * 3 + 2, none⟩ = some (.string ys[j].ev) := fun h => hc' (by omega)
  rw [← h5] at hU ⊢
  clear hne h5 hc'
  go_enter Try.func86, Try.ntmps86
  go_wp2
  go_loopw [13] (fun i wr => ∃ j : Nat, j ≤ xs.length ∧ i = .int .i64 j ∧ Hid (xs.take j = ys.take j) ∧ Below w.heap.size w wr) (fun i _ => xs.length - (intOf i).toNat)
  case atStart => exact ⟨0, Nat.zero_le _, rfl, rfl, Below.refl _ _⟩
  case round =>
    obtain ⟨j, hj, rfl, hall, hb⟩ := hrel
    by_cases hlt : j < xs.length
    · have hlt' : j < ys.length := by rw [← HL.out]; exact hlt
      obtain ⟨b, o, rfl, hbl, hcl⟩ := hc (by omega)
      obtain ⟨b', o', rfl, hbl', hcl'⟩ := hc2 (by omega)
      obtain ⟨e0, e1, e2⟩ := hcl j hlt
      obtain ⟨g0, g1, g2⟩ := hcl' j hlt'
      replace e0 := (hb.cell (p := ⟨b, o + j * 3, none⟩) hbl).trans e0
      replace e1 := (hb.cell (p := ⟨b, o + j * 3 + 1, none⟩) hbl).trans e1
      replace e2 := (hb.cell (p := ⟨b, o + j * 3 + 2, none⟩) hbl).trans e2
      replace g0 := (hb.cell (p := ⟨b', o' + j * 3, none⟩) hbl').trans g0
      replace g1 := (hb.cell (p := ⟨b', o' + j * 3 + 1, none⟩) hbl').trans g1
      replace g2 := (hb.cell (p := ⟨b', o' + j * 3 + 2, none⟩) hbl').trans g2
      have HX : Hid (xs[j] = ys[j] → xs.take (j + 1) = ys.take (j + 1)) := fun h => by rw [take_snoc xs j hlt, take_snoc ys j hlt', hall.out, h]
      generalize xs[j] = x at *
      generalize ys[j] = y at *
      clear hcl hcl' hc hc2 hT hU hlt' hall
      by_cases q1 : x.kind = y.kind
      · by_cases q2 : x.dig = y.dig
        · by_cases q3 : x.ev = y.ev
          · rw [← q1] at g0
            rw [← q2] at g1
            rw [← q3] at g2
            have HE : Hid (xs.take (j + 1) = ys.take (j + 1)) := HX.out (by cases x; cases y; simp only at q1 q2 q3; subst q1 q2 q3; rfl)
            clear q1 q2 q3 HX
            go_wp2
            go_quiet (fail)
            go_wp2
            go_roundw
            case rel => exact ⟨j + 1, by omega, by go_num, HE, below_drewN hb _⟩
            case measure => simp [intOf]; omega
          · rw [← q1] at g0
            rw [← q2] at g1
            have q4 : (x.ev == y.ev) = false := Bool.eq_false_iff.2 (fun h => q3 ((MapKept.bytes_beq _ _).1 h))
            have q5 : (x.ev.toList == y.ev.toList) = false := by rw [← beq_toListBytes]; exact q4
            clear q1 q2 HX
            go_wp2
            go_quiet (fail)
            go_wp2
            go_ret
            exact ⟨rfl, below_drewN hb _⟩
        · rw [← q1] at g0
          have q4 : (x.dig == y.dig) = false := beq_eq_false_iff_ne.2 q2
          clear q1 HX
          go_wp2
          go_quiet (fail)
          go_wp2
          go_ret
          exact ⟨rfl, below_drewN hb _⟩
      · have q4 : (x.kind == y.kind) = false := beq_eq_false_iff_ne.2 q1
        clear HX
        go_wp2
        go_quiet (fail)
        go_wp2
        go_ret
        exact ⟨rfl, below_drewN hb _⟩
    · exfalso
      have hjl : j = xs.length := by omega
      subst hjl
      have h := hall.out
      rw [List.take_length, HL.out, List.take_length] at h
      exact HNE.out h
end Go.Proofs.Ytlndinigbppafaa

/-
  The walk of the program's same.
-/
namespace Go.Proofs.Ytlndinigbppafaa
open Go.RowKit

set_option maxRecDepth 100000 in
set_option maxHeartbeats 1000000 in
theorem psame_tree (k M N R : Int) (xs ys : List PN) (ao ao' : Option Addr) (cap cap' : Nat) (r : Bool) (w : World)
    (hE : ∀ u : World, Below w.heap.size w u → Calls Try.prog 86 #[.slice ao xs.length cap, .slice ao' ys.length cap'] u fun e w' => e = .returned (.bool r) ∧ Below u.heap.size u w') :
    Calls Try.prog 67 #[.agg #[.int .i64 k, .int .i64 M, .int .i64 N, .int .i64 R, .slice ao xs.length cap], .agg #[.int .i64 k, .int .i64 M, .int .i64 N, .int .i64 R, .slice ao' ys.length cap']] w fun e w' => e = .returned (.bool r) ∧ Below w.heap.size w w' := by
  have HE : Hid _ := hE
  clear hE
  have hA : Below w.heap.size w ((w.alloc (.cells #[.int .i64 k, .int .i64 M, .int .i64 N, .int .i64 R, .slice ao xs.length cap] 42)).alloc (.cells #[.int .i64 k, .int .i64 M, .int .i64 N, .int .i64 R, .slice ao' ys.length cap'] 42)) := ((Below.refl _ _).alloc (Nat.le_refl _) _).alloc (by simp) _
  go_enter Try.func67, Try.ntmps67
  go_wp2_with fail
  refine (HE.out _ hA).mono ?_
  rintro e w1 ⟨rfl, hb1⟩
  go_wp2
  go_ret
  exact ⟨by first | rfl | (cases r <;> rfl), hA.trans (hb1.mono hA.size)⟩

set_option maxRecDepth 100000 in
set_option maxHeartbeats 1000000 in
theorem psame_head (k M N R k' M' N' R' : Int) (T U : Value) (w : World) (h : ¬ (k = k' ∧ M = M' ∧ N = N' ∧ R = R')) :
    Calls Try.prog 67 #[.agg #[.int .i64 k, .int .i64 M, .int .i64 N, .int .i64 R, T], .agg #[.int .i64 k', .int .i64 M', .int .i64 N', .int .i64 R', U]] w fun e w' => e = .returned (.bool false) ∧ Below w.heap.size w w' := by
  have hA : Below w.heap.size w ((w.alloc (.cells #[.int .i64 k, .int .i64 M, .int .i64 N, .int .i64 R, T] 42)).alloc (.cells #[.int .i64 k', .int .i64 M', .int .i64 N', .int .i64 R', U] 42)) := ((Below.refl _ _).alloc (Nat.le_refl _) _).alloc (by simp) _
  have HA : Hid _ := hA
  clear hA
  by_cases h1 : k = k'
  · subst h1
    by_cases h2 : M = M'
    · subst h2
      by_cases h3 : N = N'
      · subst h3
        have h4 : R ≠ R' := fun e => h ⟨rfl, rfl, rfl, e⟩
        have q : (R == R') = false := beq_eq_false_iff_ne.2 h4
        clear h
        go_enter Try.func67, Try.ntmps67
        go_wp2
        go_ret
        exact ⟨rfl, HA.out⟩
      · have q : (N == N') = false := beq_eq_false_iff_ne.2 h3
        clear h
        go_enter Try.func67, Try.ntmps67
        go_wp2
        go_ret
        exact ⟨rfl, HA.out⟩
    · have q : (M == M') = false := beq_eq_false_iff_ne.2 h2
      clear h
      go_enter Try.func67, Try.ntmps67
      go_wp2
      go_ret
      exact ⟨rfl, HA.out⟩
  · have q : (k == k') = false := beq_eq_false_iff_ne.2 h1
    clear h
    go_enter Try.func67, Try.ntmps67
    go_wp2
    go_ret
    exact ⟨rfl, HA.out⟩
end Go.Proofs.Ytlndinigbppafaa
