/-
  The trace in a phase: a child's own step, its birth, its end.
-/
import Derived.Test.YtlndinigbppafaaMcB
namespace Go.Sim
open Go.Conc

/-- A CHILD's OWN STEP: plain touches of what is its own, reads of what it may read; or atomic touches of its channel's block. The second O: what is its own behind it; what is new there nobody has touched. -/
theorem TrI.ownK {t u : Trace} {kid kid' : Nat → Option KidT} {γ : Nat} {x : KidT} {O' : Nat → Prop} (h : TrI t kid) (hk : kid γ = some x) (hkid : kid' = fun d => if d = γ then some { x with O := O' } else kid d)
    (hu : ∀ op ∈ u, op.g = γ) (hw : Wordless u) (hO : ∀ b, x.O b → O' b)
    (hnew : ∀ b, O' b → ¬ x.O b → (∀ i a, touchAt t i = some a → blockOf a.loc ≠ some b) ∧ (∀ d y, kid d = some y → ¬ y.O b ∧ ¬ y.Rd b ∧ b ≠ y.c))
    (hb : ∀ op ∈ u, ∀ a, op.act.touch? = some a → a.loc.isMemory = true → (∃ b, blockOf a.loc = some b ∧ a.kind = .plain ∧ (O' b ∨ (x.Rd b ∧ a.write = false)) ∧ ∀ d y, kid d = some y → b ≠ y.c) ∨ (a.loc = .obj x.c ∧ a.kind = .atomic ∧ a.write = false))
    (hchan : ∀ d y, kid d = some y → d ≠ γ → ¬ y.O x.c ∧ ¬ y.Rd x.c ∧ y.c ≠ x.c) : TrI (t ++ u) kid' := by
  have at' : ∀ d y, kid' d = some y → (d = γ ∧ y = { x with O := O' }) ∨ (d ≠ γ ∧ kid d = some y) := by
    intro d y hd
    rw [hkid] at hd
    dsimp only at hd
    by_cases e : d = γ
    · rw [if_pos e] at hd; cases hd; exact .inl ⟨e, rfl⟩
    · rw [if_neg e] at hd; exact .inr ⟨e, hd⟩
  have hγ0 : γ ≠ 0 := fun e => by rw [e, h.nokid0] at hk; cases hk
  have kγ : kid' γ = some { x with O := O' } := by rw [hkid]; simp
  have gnew : ∀ {i : Nat} {op : MemOp}, op ∈ u → (t ++ u)[i]? = some op → (t ++ u).g? i = some γ := fun {i op} ho hi => by
    unfold Trace.g?
    rw [hi]
    simp [hu op ho]
  have memOf : ∀ {l : Loc} {b : Nat}, blockOf l = some b → l.isMemory = true := by intro l b hl; cases l <;> first | rfl | cases hl
  refine ⟨h.wl.append hw, fun said => noRace_append (h.clean said) hu fun i a ha op hop b hopb hc => ?_, fun i a ha hm => ?_, fun d y i a b hd ha hbl hOb => ?_, fun d y i a b hd ha hbl hR hwr => ?_, fun d y i a hd ha hl => ?_, ?_, ?_, ?_⟩
  · -- no race
    obtain ⟨hloc, hmem, hwr, hkd⟩ := hc
    rcases hb op hop b hopb (by rw [← hloc]; exact hmem) with ⟨bl, hbl, hpl, hwhich, hnc⟩ | ⟨hob, hat, hrd⟩
    · rcases hwhich with hO' | ⟨hR, hrd⟩
      · by_cases hx : x.O bl
        · exact knows_self (h.own γ x i a bl hk ha (by rw [hloc]; exact hbl) hx)
        · exact absurd (by rw [hloc]; exact hbl) ((hnew bl hO' hx).1 i a ha)
      · rcases hwr with e | e
        · exact h.wr γ x i a bl hk ha (by rw [hloc]; exact hbl) hR e
        · rw [hrd] at e; cases e
    · -- an atomic touch of its channel's block: only a plain one could conflict
      exfalso
      have := h.chan γ x i a hk ha (by rw [hloc]; exact hob)
      rcases hkd with e | e | ⟨_, e, _⟩
      · rw [this] at e; cases e
      · rw [hat] at e; cases e
      · rw [this] at e; cases e
  · rcases touchAt_cases ha with ⟨hi, ha'⟩ | ⟨_, op, ho, hi, hta⟩
    · rcases h.touch i a ha' hm with hk' | ⟨d, y, hd, hg, hmay⟩
      · exact .inl (hk'.app u)
      · refine .inr ?_
        by_cases e : d = γ
        · subst e
          rw [hk] at hd; cases hd
          obtain ⟨b, hb1, hb2⟩ := hmay
          exact ⟨d, _, kγ, g?_old' hg, b, hb1, hb2.imp (hO b) id⟩
        · exact ⟨d, y, by rw [hkid]; simp [e, hd], g?_old' hg, hmay⟩
    · refine .inr ⟨γ, _, kγ, gnew ho hi, ?_⟩
      rcases hb op ho a hta hm with ⟨bl, hbl, _, hwhich, _⟩ | ⟨hob, hat, _⟩
      · exact ⟨bl, hbl, hwhich.imp id .inl⟩
      · exact ⟨x.c, by rw [hob]; rfl, .inr (.inr ⟨hob, hat⟩)⟩
  · rcases at' d y hd with ⟨rfl, rfl⟩ | ⟨hne, hd'⟩
    · rcases touchAt_cases ha with ⟨hi, ha'⟩ | ⟨_, op, ho, hi, hta⟩
      · by_cases hx : x.O b
        · exact g?_old' (h.own _ x i a b hk ha' hbl hx)
        · exact absurd hbl ((hnew b hOb hx).1 i a ha')
      · exact gnew ho hi
    · rcases touchAt_cases ha with ⟨hi, ha'⟩ | ⟨_, op, ho, hi, hta⟩
      · exact g?_old' (h.own d y i a b hd' ha' hbl hOb)
      · exfalso
        rcases hb op ho a hta (memOf hbl) with ⟨bl, hbl', _, hwhich, _⟩ | ⟨hob, _, _⟩
        · rw [hbl] at hbl'; cases hbl'
          rcases hwhich with hO' | ⟨hR, _⟩
          · by_cases hx : x.O b
            · exact (h.apart d γ y x b hd' hk hne hOb).1 hx
            · exact ((hnew b hO' hx).2 d y hd').1 hOb
          · exact (h.apart d γ y x b hd' hk hne hOb).2 hR
        · rw [hob] at hbl; cases hbl
          exact (hchan d y hd' hne).1 hOb
  · rcases at' d y hd with ⟨rfl, rfl⟩ | ⟨hne, hd'⟩
    · rcases touchAt_cases ha with ⟨hi, ha'⟩ | ⟨_, op, ho, hi, hta⟩
      · exact (h.wr _ x i a b hk ha' hbl hR hwr).app u
      · exact knows_self (gnew ho hi)
    · rcases touchAt_cases ha with ⟨hi, ha'⟩ | ⟨_, op, ho, hi, hta⟩
      · exact (h.wr d y i a b hd' ha' hbl hR hwr).app u
      · exfalso
        rcases hb op ho a hta (memOf hbl) with ⟨bl, hbl', _, hwhich, _⟩ | ⟨hob, _, hrd⟩
        · rw [hbl] at hbl'; cases hbl'
          rcases hwhich with hO' | ⟨_, hrd⟩
          · by_cases hx : x.O b
            · exact (h.apart γ d x y b hk hd' (fun e => hne e.symm) hx).2 hR
            · exact ((hnew b hO' hx).2 d y hd').2.1 hR
          · rw [hrd] at hwr; cases hwr
        · rw [hrd] at hwr; cases hwr
  · have key : ∀ y', kid d = some y' → y'.c = y.c → (d = γ → y'.c = x.c) → a.kind = .atomic := by
      intro y' hd' hcc _
      rcases touchAt_cases ha with ⟨hi, ha'⟩ | ⟨_, op, ho, hi, hta⟩
      · exact h.chan d y' i a hd' ha' (by rw [hcc]; exact hl)
      · rcases hb op ho a hta (by rw [hl]; rfl) with ⟨bl, hbl', _, _, hnc⟩ | ⟨_, hat, _⟩
        · exfalso
          rw [hl] at hbl'; cases hbl'
          exact hnc d y' hd' hcc.symm
        · exact hat
    rcases at' d y hd with ⟨rfl, rfl⟩ | ⟨hne, hd'⟩
    · exact key x hk rfl fun _ => rfl
    · exact key y hd' rfl fun e => absurd e hne
  · rw [hkid]; simp [Ne.symm hγ0, h.nokid0]
  · intro d d' y y' b hd hd' hne hOb
    rcases at' d y hd with ⟨rfl, rfl⟩ | ⟨n1, k1⟩ <;> rcases at' d' y' hd' with ⟨rfl, rfl⟩ | ⟨n2, k2⟩
    · exact absurd rfl hne
    · by_cases hx : x.O b
      · exact h.apart _ d' x y' b hk k2 hne hx
      · exact ⟨((hnew b hOb hx).2 d' y' k2).1, ((hnew b hOb hx).2 d' y' k2).2.1⟩
    · refine ⟨fun hO2 => ?_, (h.apart d _ y x b k1 hk hne hOb).2⟩
      by_cases hx : x.O b
      · exact (h.apart d _ y x b k1 hk hne hOb).1 hx
      · exact ((hnew b hO2 hx).2 d y k1).1 hOb
    · exact h.apart d d' y y' b k1 k2 hne hOb
  · intro d y b hd hOb
    rcases at' d y hd with ⟨rfl, rfl⟩ | ⟨n1, k1⟩
    · by_cases hx : x.O b
      · exact h.apartOwn _ x b hk hx
      · exact ((hnew b hOb hx).2 _ x hk).2
    · exact h.apartOwn d y b k1 hOb
end Go.Sim
