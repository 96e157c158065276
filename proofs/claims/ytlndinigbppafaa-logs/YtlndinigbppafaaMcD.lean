/-
  The trace in a phase: words without a touch, a child's birth, a child known through.
-/
import Derived.Test.YtlndinigbppafaaMcC
namespace Go.Sim
open Go.Conc

theorem g?_append_cases {t u : Trace} {i g : Nat} (h : (t ++ u).g? i = some g) : (i < t.size ∧ t.g? i = some g) ∨ (t.size ≤ i ∧ ∃ op ∈ u, (t ++ u)[i]? = some op ∧ op.g = g) := by
  unfold Trace.g? at h ⊢
  obtain ⟨z, hz, rfl⟩ := Option.map_eq_some_iff.1 h
  rcases getElem?_append_cases hz with ⟨hj, hz'⟩ | ⟨hj, hu⟩
  · exact .inl ⟨hj, by rw [hz']; rfl⟩
  · exact .inr ⟨hj, z, hu, hz, rfl⟩

/-- An entry that touches nothing. -/
theorem TrI.word {t : Trace} {kid : Nat → Option KidT} (h : TrI t kid) (op : MemOp) (hn : op.act.touch? = none) (hw : Wordless #[op]) : TrI (t ++ #[op]) kid := by
  have no : ∀ {i : Nat} {a : Touch}, touchAt (t ++ #[op]) i = some a → i < t.size ∧ touchAt t i = some a := by
    intro i a ha
    rcases touchAt_cases ha with h | ⟨_, o, ho, _, hta⟩
    · exact h
    · simp at ho; subst ho; rw [hn] at hta; cases hta
  refine ⟨h.wl.append hw, fun said => noRace_append (g := op.g) (h.clean said) (by simp) fun i a ha o ho b hb => ?_, fun i a ha hm => ?_, fun γ x i a b hk ha hbl hO => ?_, fun γ x i a b hk ha hbl hR hwr => ?_, fun γ x i a hk ha hl => h.chan γ x i a hk (no ha).2 hl, h.nokid0, h.apart, h.apartOwn⟩
  · simp at ho; subst ho; rw [hn] at hb; cases hb
  · rcases h.touch i a (no ha).2 hm with hk | ⟨γ, x, hk, hg, hmay⟩
    · exact .inl (hk.app _)
    · exact .inr ⟨γ, x, hk, g?_old' hg, hmay⟩
  · exact g?_old' (h.own γ x i a b hk (no ha).2 hbl hO)
  · exact (h.wr γ x i a b hk (no ha).2 hbl hR hwr).app _

/-- A CHILD's BIRTH. -/
theorem TrI.born {t : Trace} {kid : Nat → Option KidT} (h : TrI t kid) {γ : Nat} {Rd : Nat → Prop} {c : Nat} {o1 o2 : MemOp} (h1 : o1.g = 0 ∧ o1.act = .go γ) (h2 : o2.g = γ ∧ o2.act = .start) (hγ : kid γ = none) (h0 : γ ≠ 0)
    (hR : ∀ b d y, Rd b → kid d = some y → ¬ y.O b ∧ b ≠ y.c) (hc : ∀ i a, touchAt t i = some a → a.loc ≠ .obj c) :
    TrI (t ++ #[o1] ++ #[o2]) (fun d => if d = γ then some ⟨fun _ => False, Rd, c⟩ else kid d) := by
  have w1 : Wordless #[o1] := by intro op ho m hm; simp at ho; subst ho; rw [h1.2] at hm; cases hm
  have w2 : Wordless #[o2] := by intro op ho m hm; simp at ho; subst ho; rw [h2.2] at hm; cases hm
  have T := (h.word o1 (by rw [h1.2]; rfl) w1).word o2 (by rw [h2.2]; rfl) w2
  have at' : ∀ d y, (if d = γ then some (⟨fun _ => False, Rd, c⟩ : KidT) else kid d) = some y → (d = γ ∧ y = ⟨fun _ => False, Rd, c⟩) ∨ (d ≠ γ ∧ kid d = some y) := by
    intro d y hd
    by_cases e : d = γ
    · rw [if_pos e] at hd; cases hd; exact .inl ⟨e, rfl⟩
    · rw [if_neg e] at hd; exact .inr ⟨e, hd⟩
  have no : ∀ {i : Nat} {a : Touch}, touchAt (t ++ #[o1] ++ #[o2]) i = some a → i < t.size ∧ touchAt t i = some a := by
    intro i a ha
    rcases touchAt_cases ha with ⟨_, ha⟩ | ⟨_, o, ho, _, hta⟩
    · rcases touchAt_cases ha with h | ⟨_, o, ho, _, hta⟩
      · exact h
      · simp at ho; subst ho; rw [h1.2] at hta; cases hta
    · simp at ho; subst ho; rw [h2.2] at hta; cases hta
  have e1 : (t ++ #[o1] ++ #[o2])[t.size]? = some o1 := by
    rw [getElem?_append_old (by simp)]; simp
  have e2 : (t ++ #[o1] ++ #[o2])[t.size + 1]? = some o2 := by
    have : (t ++ #[o1]).size = t.size + 1 := by simp
    rw [← this, Array.getElem?_append_right (Nat.le_refl _)]
    simp
  refine ⟨T.wl, T.clean, fun i a ha hm => ?_, fun d y i a b hd ha hbl hO => ?_, fun d y i a b hd ha hbl hRb hwr => ?_, fun d y i a hd ha hl => ?_, by simp [Ne.symm h0, h.nokid0], fun d d' y y' b hd hd' hne hO => ?_, fun d y b hd hO => ?_⟩
  · rcases T.touch i a ha hm with hk | ⟨d, y, hd, hg, hmay⟩
    · exact .inl hk
    · refine .inr ⟨d, y, ?_, hg, hmay⟩
      have : d ≠ γ := fun e => by rw [e, hγ] at hd; cases hd
      simp [this, hd]
  · rcases at' d y hd with ⟨rfl, rfl⟩ | ⟨_, hd'⟩
    · exact hO.elim
    · exact T.own d y i a b hd' ha hbl hO
  · rcases at' d y hd with ⟨rfl, rfl⟩ | ⟨_, hd'⟩
    · obtain ⟨_, ha'⟩ := no ha
      have hm : a.loc.isMemory = true := by cases hl : a.loc <;> rw [hl] at hbl <;> first | rfl | cases hbl
      have hk : Knows t 0 i := by
        rcases h.touch i a ha' hm with hk | ⟨d', y', hd', hg, b', hb', hmay⟩
        · exact hk
        · exfalso
          rw [hbl] at hb'; cases hb'
          rcases hmay with hO | ⟨_, hw⟩ | ⟨hl, _⟩
          · exact (hR b d' y' hRb hd').1 hO
          · rw [hw] at hwr; cases hwr
          · rw [hl] at hbl; cases hbl
            exact (hR _ d' y' hRb hd').2 rfl
      have k1 : Knows (t ++ #[o1] ++ #[o2]) 0 i := (hk.app _).app _
      have hb1 : HappensBefore (t ++ #[o1] ++ #[o2]) i t.size := by
        have := hk.hb_new (u := #[o1] ++ #[o2]) (j := t.size) (Nat.le_refl _) (y := o1) (by rw [← Array.append_assoc]; exact e1) h1.1
        rw [← Array.append_assoc] at this
        exact this
      have hb2 : HappensBefore (t ++ #[o1] ++ #[o2]) t.size (t.size + 1) := .single (.inr ⟨.spawn (child := d) (by simp only [Trace.act?, e1, Option.map_some, h1.2]) (by simp only [Trace.act?, e2, Option.map_some, h2.2]) (by simp only [Trace.g?, e2, Option.map_some, h2.1]), T.wl.heard e1, T.wl.heard e2⟩)
      exact ⟨t.size + 1, o2, e2, h2.1, .inr (hb1.trans hb2)⟩
    · exact T.wr d y i a b hd' ha hbl hRb hwr
  · rcases at' d y hd with ⟨rfl, rfl⟩ | ⟨_, hd'⟩
    · exact absurd hl (hc i a (no ha).2)
    · exact T.chan d y i a hd' ha hl
  · rcases at' d y hd with ⟨rfl, rfl⟩ | ⟨n1, k1⟩
    · exact hO.elim
    · rcases at' d' y' hd' with ⟨rfl, rfl⟩ | ⟨n2, k2⟩
      · exact ⟨fun x => x, fun hRb => (hR b d y hRb k1).1 hO⟩
      · exact h.apart d d' y y' b k1 k2 hne hO
  · rcases at' d y hd with ⟨rfl, rfl⟩ | ⟨n1, k1⟩
    · exact hO.elim
    · exact h.apartOwn d y b k1 hO

/-- A CHILD IS KNOWN THROUGH: the caller has found its channel closed. -/
theorem TrI.through {t : Trace} {kid : Nat → Option KidT} (h : TrI t kid) {γ p : Nat} {x : KidT} {op : MemOp} (hk : kid γ = some x) (ho : op.g = 0 ∧ op.act = .recvClosed x.c) (hp : t.act? p = some (.close x.c)) (hpg : t.g? p = some γ)
    (hall : ∀ i a, touchAt t i = some a → t.g? i = some γ → i < p) : TrI (t ++ #[op]) (fun d => if d = γ then none else kid d) := by
  have w : Wordless #[op] := by intro o hm m e; simp at hm; subst hm; rw [ho.2] at e; cases e
  have T := h.word op (by rw [ho.2]; rfl) w
  have at' : ∀ d y, (if d = γ then none else kid d) = some y → d ≠ γ ∧ kid d = some y := by
    intro d y hd
    by_cases e : d = γ
    · rw [if_pos e] at hd; cases hd
    · rw [if_neg e] at hd; exact ⟨e, hd⟩
  have eo : (t ++ #[op])[t.size]? = some op := by simp
  obtain ⟨z, hz, hzg⟩ : ∃ z, t[p]? = some z ∧ z.g = γ := by
    unfold Trace.g? at hpg
    obtain ⟨z, hz, e⟩ := Option.map_eq_some_iff.1 hpg
    exact ⟨z, hz, e⟩
  have hza : z.act = .close x.c := by
    unfold Trace.act? at hp
    rw [hz] at hp
    simpa using hp
  have ez : (t ++ #[op])[p]? = some z := by rw [getElem?_append_old (lt_size_of_getElem? hz)]; exact hz
  have hb : HappensBefore (t ++ #[op]) p t.size := .single (.inr ⟨.closed (c := x.c) (by simp only [Trace.act?, ez, Option.map_some, hza]) (by simp only [Trace.act?, eo, Option.map_some, ho.2]), T.wl.heard ez, T.wl.heard eo⟩)
  have no : ∀ {i : Nat} {a : Touch}, touchAt (t ++ #[op]) i = some a → i < t.size ∧ touchAt t i = some a := by
    intro i a ha
    rcases touchAt_cases ha with h | ⟨_, o, hm, _, hta⟩
    · exact h
    · simp at hm; subst hm; rw [ho.2] at hta; cases hta
  refine ⟨T.wl, T.clean, fun i a ha hm => ?_, fun d y i a b hd => T.own d y i a b (at' d y hd).2, fun d y i a b hd => T.wr d y i a b (at' d y hd).2, fun d y i a hd => T.chan d y i a (at' d y hd).2, ?_, fun d d' y y' b hd hd' => T.apart d d' y y' b (at' d y hd).2 (at' d' y' hd').2, fun d y b hd => T.apartOwn d y b (at' d y hd).2⟩
  · rcases T.touch i a ha hm with hk' | ⟨d, y, hd, hg, hmay⟩
    · exact .inl hk'
    · by_cases e : d = γ
      · subst e
        obtain ⟨hi, ha'⟩ := no ha
        rcases g?_append_cases hg with ⟨_, hg'⟩ | ⟨hge, _⟩
        · have hlt := hall i a ha' hg'
          obtain ⟨zi, hzi, hzig⟩ : ∃ z, t[i]? = some z ∧ z.g = d := by
            unfold Trace.g? at hg'
            obtain ⟨z, hz, e⟩ := Option.map_eq_some_iff.1 hg'
            exact ⟨z, hz, e⟩
          have h1 : HappensBefore (t ++ #[op]) i p := hb_po hlt (by rw [getElem?_append_old hi]; exact hzi) ez (hzig.trans hzg.symm)
          exact .inl ⟨t.size, op, eo, ho.1, .inr (h1.trans hb)⟩
        · omega
      · exact .inr ⟨d, y, by simp [e, hd], hg, hmay⟩
  · by_cases e : (0 : Nat) = γ
    · simp [e]
    · simp [e, h.nokid0]

/-- At the end nobody is left. -/
theorem TrI.known {t : Trace} (h : TrI t fun _ => none) : ∀ i a, touchAt t i = some a → a.loc.isMemory = true → Knows t 0 i := by
  intro i a ha hm
  rcases h.touch i a ha hm with hk | ⟨_, _, hk, _⟩
  · exact hk
  · cases hk
end Go.Sim
