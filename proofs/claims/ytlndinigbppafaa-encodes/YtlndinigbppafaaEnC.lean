/-
  Which values are small, as plain mathematics.
-/
import Derived.Test.YtlndinigbppafaaEnA
import Derived.Test.YtlndinigbppafaaDec
namespace Go.Proofs.Ytlndinigbppafaa

theorem shp_small {k M N : Int} {d p : Nat} {l : List PN} (h : Shp k M N d p l) : ∀ x ∈ l, smallN x = true := by
  induction h with
  | stub d p g _ h0 h1 =>
    intro x hx
    rw [List.mem_singleton] at hx
    subst hx
    unfold smallN
    simp only [Bool.and_eq_true, decide_eq_true_eq]
    exact ⟨⟨⟨⟨by decide, by decide⟩, by decide⟩, h0⟩, h1⟩
  | leaf p e _ he =>
    intro x hx
    rw [List.mem_singleton] at hx
    subst hx
    unfold smallN
    simp only [Bool.and_eq_true, decide_eq_true_eq]
    exact ⟨⟨⟨⟨by decide, by decide⟩, he⟩, by decide⟩, by decide⟩
  | two d p a b _ _ _ iha ihb =>
    intro x hx
    rcases List.mem_cons.1 hx with h | h
    · subst h; rfl
    · rcases List.mem_append.1 h with h | h
      · exact iha x h
      · exact ihb x h
  | alone d p a _ _ iha =>
    intro x hx
    rcases List.mem_cons.1 hx with h | h
    · subst h; rfl
    · exact iha x h
theorem valid_small {x : Msg} (h : ValidM x) : smallB x.kind x.m x.n x.root x.tree = true := by
  have hk := h.k
  have hn := h.n
  have hr := h.r
  have hl : x.tree.length ≤ 4000 := by
    have h1 := h.len
    have h2 := encNs_pos x.tree
    unfold encV encM at h1
    rw [List.length_append] at h1
    omega
  have hm : 0 ≤ x.m ∧ x.m ≤ 500 := by
    rcases hk with e | e | e
    · have := (h.c e).1; omega
    · have := h.g e; omega
    · have := h.m e; omega
  have ha : x.tree.all smallN = true := by
    rw [List.all_eq_true]
    rcases hk with e | e | e
    · rw [(h.c e).2]; intro y hy; cases hy
    · exact shp_small (h.t (by omega))
    · exact shp_small (h.t (by omega))
  exact small_yes _ _ _ _ _ hl ha ⟨by omega, by omega, by omega, by omega, by omega, by omega, by omega, by omega⟩
theorem smallB_iff {k M N R : Int} {ns : List PN} (h : smallB k M N R ns = true) : ns.length ≤ 4000 ∧ (∀ x ∈ ns, smallN x = true) ∧ 1 ≤ k ∧ k ≤ 3 ∧ 0 ≤ M ∧ M ≤ 65535 ∧ 0 ≤ N ∧ N ≤ 65535 ∧ 0 ≤ R ∧ R ≤ 65535 := by
  unfold smallB at h
  simp only [Bool.and_eq_true, decide_eq_true_eq, List.all_eq_true] at h
  obtain ⟨⟨h1, h2⟩, ⟨⟨⟨⟨⟨⟨⟨h3, h4⟩, h5⟩, h6⟩, h7⟩, h8⟩, h9⟩, h10⟩⟩ := h
  exact ⟨h1, h2, h3, h4, h5, h6, h7, h8, h9, h10⟩
theorem smallM_of {k M N R : Int} {ns : List PN} (h : smallB k M N R ns = true) : SmallM k M N R ns := by
  obtain ⟨h1, h2, h3, h4, h5, h6, h7, h8, h9, h10⟩ := smallB_iff h
  refine ⟨⟨by omega, by omega⟩, ⟨h5, h6⟩, ⟨h7, h8⟩, ⟨h9, h10⟩, by omega, fun x hx => ?_⟩
  have := h2 x hx
  unfold smallN at this
  simp only [Bool.and_eq_true, decide_eq_true_eq] at this
  obtain ⟨⟨⟨⟨a, b⟩, c⟩, d⟩, e⟩ := this
  exact ⟨⟨a, by omega⟩, ⟨d, e⟩, by omega⟩
end Go.Proofs.Ytlndinigbppafaa
