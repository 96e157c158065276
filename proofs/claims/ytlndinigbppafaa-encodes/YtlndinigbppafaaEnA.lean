/-
  The walk of the document's small.
-/
import Derived.Test.YtlndinigbppafaaDcA
import Derived.Test.YtlndinigbppafaaRefB
namespace Go.Proofs.Ytlndinigbppafaa
open Go.RowKit

/-- May a node's bytes be those of one? -/
def smallN (x : PN) : Bool := decide (0 ≤ x.kind) && decide (x.kind ≤ 3) && decide (x.ev.size ≤ 50) && decide (0 ≤ x.dig) && decide (x.dig ≤ 65535)
/-- May a value's bytes be those of a message? -/
def smallB (k M N R : Int) (ns : List PN) : Bool := decide (ns.length ≤ 4000) && ns.all smallN && (decide (1 ≤ k) && decide (k ≤ 3) && decide (0 ≤ M) && decide (M ≤ 65535) && decide (0 ≤ N) && decide (N ≤ 65535) && decide (0 ≤ R) && decide (R ≤ 65535))
theorem small_not (k M N R : Int) (ns : List PN) (j : Nat) (hj : j < ns.length) (h : smallN ns[j] = false) : smallB k M N R ns = false := by
  have : ns.all smallN = false := by
    rw [List.all_eq_false]
    exact ⟨ns[j], List.getElem_mem hj, by rw [h]; decide⟩
  unfold smallB
  rw [this]
  simp

theorem small_bad (k M N R : Int) (ns : List PN) (h : ¬ (1 ≤ k ∧ k ≤ 3 ∧ 0 ≤ M ∧ M ≤ 65535 ∧ 0 ≤ N ∧ N ≤ 65535 ∧ 0 ≤ R ∧ R ≤ 65535)) : smallB k M N R ns = false := by
  have e : (decide (1 ≤ k) && decide (k ≤ 3) && decide (0 ≤ M) && decide (M ≤ 65535) && decide (0 ≤ N) && decide (N ≤ 65535) && decide (0 ≤ R) && decide (R ≤ 65535)) = false := by
    rw [Bool.eq_false_iff]
    intro x
    simp only [Bool.and_eq_true, decide_eq_true_eq] at x
    exact h ⟨by omega, by omega, by omega, by omega, by omega, by omega, by omega, by omega⟩
  unfold smallB
  rw [e, Bool.and_false]
theorem small_yes (k M N R : Int) (ns : List PN) (hl : ns.length ≤ 4000) (ha : ns.all smallN = true) (h : 1 ≤ k ∧ k ≤ 3 ∧ 0 ≤ M ∧ M ≤ 65535 ∧ 0 ≤ N ∧ N ≤ 65535 ∧ 0 ≤ R ∧ R ≤ 65535) : smallB k M N R ns = true := by
  unfold smallB
  rw [ha]
  simp only [Bool.and_eq_true, decide_eq_true_eq]
  exact ⟨⟨hl, trivial⟩, ⟨⟨⟨⟨⟨⟨⟨h.1, h.2.1⟩, h.2.2.1⟩, h.2.2.2.1⟩, h.2.2.2.2.1⟩, h.2.2.2.2.2.1⟩, h.2.2.2.2.2.2.1⟩, h.2.2.2.2.2.2.2⟩⟩

set_option maxRecDepth 100000 in
set_option maxHeartbeats 4000000 in
theorem small_any (k M N R : Int) (T : Value) (ns : List PN) (w : World) (hT : NodesG w T ns) :
    Calls Try.prog 60 #[.agg #[.int .i64 k, .int .i64 M, .int .i64 N, .int .i64 R, T]] w fun e w' => e = .returned (.bool (smallB k M N R ns)) ∧ Below w.heap.size w w' := by
  obtain ⟨ao, cap, rfl, _, hc⟩ := hT.cells
  by_cases hl : ns.length ≤ 4000
  · go_enter Try.func60, Try.ntmps60
    go_wp2
    go_loopw [3] (fun i wr => ∃ j : Nat, j ≤ ns.length ∧ i = .int .i64 j ∧ Hid ((ns.take j).all smallN = true) ∧ Below (w.heap.size + 1) (w.alloc (.cells #[.int .i64 k, .int .i64 M, .int .i64 N, .int .i64 R, .slice ao ns.length cap] 42)) wr) (fun i _ => ns.length - (intOf i).toNat)
    case atStart => exact ⟨0, Nat.zero_le _, rfl, rfl, Below.refl _ _⟩
    case round =>
      obtain ⟨j, hj, rfl, hall, hb⟩ := hrel
      have hbw : Below w.heap.size w wr := ((Below.refl _ _).alloc (Nat.le_refl _) _).trans (hb.mono (by omega))
      have hbs : w.heap.size + 1 ≤ wr.heap.size := by have := hb.size; simpa using this
      have hbc : ∀ i, i < 5 → wr.cell? ⟨w.heap.size, i, none⟩ = (#[Value.int .i64 k, .int .i64 M, .int .i64 N, .int .i64 R, .slice ao ns.length cap])[i]? := fun i _ => (hb.cell (p := ⟨w.heap.size, i, none⟩) (by simp)).trans (by rw [World.cell?_alloc_mark])
      have b0 : wr.cell? ⟨w.heap.size, 0, none⟩ = some (.int .i64 k) := hbc 0 (by omega)
      have b1 : wr.cell? ⟨w.heap.size, 1, none⟩ = some (.int .i64 M) := hbc 1 (by omega)
      have b2 : wr.cell? ⟨w.heap.size, 2, none⟩ = some (.int .i64 N) := hbc 2 (by omega)
      have b3 : wr.cell? ⟨w.heap.size, 3, none⟩ = some (.int .i64 R) := hbc 3 (by omega)
      have b4 : wr.cell? ⟨w.heap.size, 4, none⟩ = some (.slice ao ns.length cap) := hbc 4 (by omega)
      clear hbc
      by_cases hlt : j < ns.length
      · obtain ⟨b, o, rfl, hbl, hcl⟩ := hc (by omega)
        obtain ⟨e0, e1, e2⟩ := hcl j hlt
        replace e0 := (hbw.cell (p := ⟨b, o + j * 3, none⟩) hbl).trans e0
        replace e1 := (hbw.cell (p := ⟨b, o + j * 3 + 1, none⟩) hbl).trans e1
        replace e2 := (hbw.cell (p := ⟨b, o + j * 3 + 2, none⟩) hbl).trans e2
        clear hcl hc hT
        by_cases h1 : ns[j].kind < 0
        · have HF : Hid (smallB k M N R ns = false) := small_not k M N R ns j hlt (by unfold smallN; simp; omega)
          generalize ns[j] = x at *
          go_wp2
          go_ret
          exact ⟨by rw [HF.out]; rfl, hbw.alloc hbw.size _⟩
        · by_cases h2 : (3 : Int) < ns[j].kind
          · have HF : Hid (smallB k M N R ns = false) := small_not k M N R ns j hlt (by unfold smallN; simp; omega)
            generalize ns[j] = x at *
            go_wp2
            go_ret
            exact ⟨by rw [HF.out]; rfl, hbw.alloc hbw.size _⟩
          · by_cases h3 : 50 < ns[j].ev.size
            · have HF : Hid (smallB k M N R ns = false) := small_not k M N R ns j hlt (by unfold smallN; simp; omega)
              generalize ns[j] = x at *
              go_wp2
              go_ret
              exact ⟨by rw [HF.out]; rfl, hbw.alloc hbw.size _⟩
            · by_cases h4 : ns[j].dig < 0
              · have HF : Hid (smallB k M N R ns = false) := small_not k M N R ns j hlt (by unfold smallN; simp; omega)
                generalize ns[j] = x at *
                go_wp2
                go_ret
                exact ⟨by rw [HF.out]; rfl, hbw.alloc hbw.size _⟩
              · by_cases h5 : (65535 : Int) < ns[j].dig
                · have HF : Hid (smallB k M N R ns = false) := small_not k M N R ns j hlt (by unfold smallN; simp; omega)
                  generalize ns[j] = x at *
                  go_wp2
                  go_ret
                  exact ⟨by rw [HF.out]; rfl, hbw.alloc hbw.size _⟩
                · have HG : Hid ((ns.take (j + 1)).all smallN = true) := by
                    show _ = _
                    rw [take_snoc ns j hlt, List.all_append, hall.out]
                    unfold smallN
                    simp
                    omega
                  generalize ns[j] = x at *
                  go_wp2
                  go_roundw
                  case rel => exact ⟨j + 1, by omega, by go_num, HG, hb.alloc (by omega) _⟩
                  case measure => simp [intOf]; omega
      · have hjl : j = ns.length := by omega
        subst hjl
        clear hc hT
        by_cases h1 : k < 1
        · have HF : Hid (smallB k M N R ns = false) := small_bad k M N R ns (by omega)
          go_wp2
          go_ret
          exact ⟨by rw [HF.out]; first | rfl | (show Ending.returned (Value.bool (decide (R ≤ 65535))) = _; rw [decide_eq_false (by omega)]), hbw⟩
        · by_cases h2 : 3 < k
          · have HF : Hid (smallB k M N R ns = false) := small_bad k M N R ns (by omega)
            go_wp2
            go_ret
            exact ⟨by rw [HF.out]; first | rfl | (show Ending.returned (Value.bool (decide (R ≤ 65535))) = _; rw [decide_eq_false (by omega)]), hbw⟩
          · by_cases h3 : M < 0
            · have HF : Hid (smallB k M N R ns = false) := small_bad k M N R ns (by omega)
              go_wp2
              go_ret
              exact ⟨by rw [HF.out]; first | rfl | (show Ending.returned (Value.bool (decide (R ≤ 65535))) = _; rw [decide_eq_false (by omega)]), hbw⟩
            · by_cases h4 : 65535 < M
              · have HF : Hid (smallB k M N R ns = false) := small_bad k M N R ns (by omega)
                go_wp2
                go_ret
                exact ⟨by rw [HF.out]; first | rfl | (show Ending.returned (Value.bool (decide (R ≤ 65535))) = _; rw [decide_eq_false (by omega)]), hbw⟩
              · by_cases h5 : N < 0
                · have HF : Hid (smallB k M N R ns = false) := small_bad k M N R ns (by omega)
                  go_wp2
                  go_ret
                  exact ⟨by rw [HF.out]; first | rfl | (show Ending.returned (Value.bool (decide (R ≤ 65535))) = _; rw [decide_eq_false (by omega)]), hbw⟩
                · by_cases h6 : 65535 < N
                  · have HF : Hid (smallB k M N R ns = false) := small_bad k M N R ns (by omega)
                    go_wp2
                    go_ret
                    exact ⟨by rw [HF.out]; first | rfl | (show Ending.returned (Value.bool (decide (R ≤ 65535))) = _; rw [decide_eq_false (by omega)]), hbw⟩
                  · by_cases h7 : R < 0
                    · have HF : Hid (smallB k M N R ns = false) := small_bad k M N R ns (by omega)
                      go_wp2
                      go_ret
                      exact ⟨by rw [HF.out]; first | rfl | (show Ending.returned (Value.bool (decide (R ≤ 65535))) = _; rw [decide_eq_false (by omega)]), hbw⟩
                    · by_cases h8 : 65535 < R
                      · have HF : Hid (smallB k M N R ns = false) := small_bad k M N R ns (by omega)
                        go_wp2
                        go_ret
                        exact ⟨by rw [HF.out]; first | rfl | (show Ending.returned (Value.bool (decide (R ≤ 65535))) = _; rw [decide_eq_false (by omega)]), hbw⟩
                      · have HF : Hid (smallB k M N R ns = true) := small_yes k M N R ns hl (by have := hall.out; rwa [List.take_length] at this) ⟨by omega, by omega, by omega, by omega, by omega, by omega, by omega, by omega⟩
                        go_wp2
                        go_ret
                        exact ⟨by rw [HF.out]; first | rfl | (show Ending.returned (Value.bool (decide (R ≤ 65535))) = _; rw [decide_eq_true (by omega)]), hbw⟩
  · have hF : smallB k M N R ns = false := by unfold smallB; rw [decide_eq_false hl]; simp
    have HF : Hid _ := hF
    clear hF
    go_enter Try.func60, Try.ntmps60
    go_wp2
    go_ret
    exact ⟨by rw [HF.out]; rfl, (Below.refl _ _).alloc (Nat.le_refl _) _⟩
end Go.Proofs.Ytlndinigbppafaa
