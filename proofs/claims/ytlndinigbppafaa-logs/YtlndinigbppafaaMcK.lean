/-
  THE MACHINE: a caller on its way and its children, on whatever tape: it comes to its end, its children only leave.
-/
import Derived.Test.YtlndinigbppafaaMcJ
namespace Go.Proofs.Ytlndinigbppafaa
open Go.Sim Go.Conc

section
variable {B0 : Nat} {W0 : World} {Post : Nat → Value → World → Prop} {s : St} {PB : Nat → Prop} {kids : List Kid} {gs : Array Goroutine} {w w' : World} {t u : Trace} {k cur : Nat} {x x' : Kid} {a g g' : Goroutine} {z : Value} {sl : Option (Nat × Nat)}
variable {ver : Value} {N : Nat} {Fin : St → (Nat → Prop) → Goroutine → World → Prop}

/-- The machine comes to the caller's end. -/
def Ends (B0 : Nat) (W0 : World) (Post : Nat → Value → World → Prop) (Fin : St → (Nat → Prop) → Goroutine → World → Prop) (gs : Array Goroutine) (w : World) (sl : Option (Nat × Nat)) (t : Trace) : Prop :=
  ∃ n gs' w' sl' t' s' PB' kids' a' g', runNT Try.prog n (crowd gs w sl) t = (.next (crowd gs' w' sl'), t') ∧ Inv B0 W0 Post s' PB' kids' gs' w' t' ∧ s'.cur = s'.cs.length ∧ s'.got = false ∧ gs'[0]? = some a' ∧ Like a' g' ∧ Fin s' PB' g' w'

theorem Ends.step {gs' : Array Goroutine} {sl' sl2 : Option (Nat × Nat)} {d i : Nat} (h1 : stepT Try.prog (crowd gs w sl) = runT Try.prog (crowd gs (w.at d) sl') i) (h2 : runT Try.prog (crowd gs (w.at d) sl') i = (.next (crowd gs' w' sl2), u)) (h : Ends B0 W0 Post Fin gs' w' sl2 (t ++ u)) : Ends B0 W0 Post Fin gs w sl t := by
  obtain ⟨n, r⟩ := h
  refine ⟨n + 1, ?_⟩
  simp only [runNT, h1, h2]
  exact r

theorem Inv.awake (h : Inv B0 W0 Post s PB kids gs w t) (ha : gs[0]? = some a) (hca : CA s w g z a) : ∀ b ∈ gs, Go.Conc.awake b := by
  intro b hb
  obtain ⟨i, hi, rfl⟩ := Array.mem_iff_getElem.1 hb
  cases i with
  | zero =>
    have : gs[0] = a := by simpa [Array.getElem?_eq_getElem hi] using ha
    rw [this]
    cases hca with
    | run h => exact awake_of (.inl h.run)
    | wait => exact awake_of (.inr (.inl rfl))
  | succ j =>
    have hj : j < kids.length := by rw [h.size] at hi; omega
    have := h.kid j _ (List.getElem?_eq_getElem hj)
    rw [Array.getElem?_eq_getElem hi] at this
    rw [Option.some.inj this.1]
    exact awake_of (this.2.status.elim .inl fun q => .inr (.inr q))

theorem Inv.who (h : Inv B0 W0 Post s PB kids gs w t) {i : Nat} {b : Goroutine} (hb : gs[i + 1]? = some b) : ∃ x, kids[i]? = some x ∧ x.g = b := by
  have hj : i < kids.length := by
    have := (Array.getElem?_eq_some_iff.1 hb).1
    rw [h.size] at this; omega
  have := h.kid i _ (List.getElem?_eq_getElem hj)
  rw [hb] at this
  exact ⟨_, List.getElem?_eq_getElem hj, (Option.some.inj this.1).symm⟩

/-- A caller that goes on whatever its children do. -/
theorem ends_go
    (hown : ∀ kids gs w₁ t a sl, Inv B0 W0 Post s PB kids gs w₁ t → RelyC PB s.rd w w₁ → gs[0]? = some a → Like a g → ∃ gs' w' u, runT Try.prog (crowd gs w₁ sl) 0 = (.next (crowd gs' w' sl), u) ∧ Ends B0 W0 Post Fin gs' w' sl (t ++ u)) :
    ∀ kids, Acc (LL Kid.lt) kids → ∀ gs w₁ t a sl, Inv B0 W0 Post s PB kids gs w₁ t → RelyC PB s.rd w w₁ → gs[0]? = some a → Like a g → Ends B0 W0 Post Fin gs w₁ sl t := by
  intro kids hacc
  induction hacc with
  | intro kids _ ih =>
    intro gs w₁ t a sl hI hR ha hl
    obtain ⟨i, b, d, sl', hb, hbr, hst⟩ := crowd_pick (P := Try.prog) (w := w₁) (sl := sl) (hI.awake (g := g) (z := undef) ha (.run hl)) ⟨0, a, ha, hl.run⟩
    have hR' : RelyC PB s.rd w (w₁.at d) := ⟨hR.size, hR.keep⟩
    cases i with
    | zero =>
      obtain ⟨gs', w', u, r1, r2⟩ := hown kids gs (w₁.at d) t a sl' (hI.at d) hR' ha hl
      exact Ends.step hst r1 r2
    | succ i =>
      obtain ⟨x, hx, rfl⟩ := hI.who hb
      rcases (hI.at d).kid_any (sl := sl') hx ha (.run (z := undef) hl) hbr with ⟨gs', w', u, x', a', r1, r2, r3, r4, r5, r6, r7⟩ | ⟨c, bc, q1, q2, _⟩
      · have := r7 a ha hl.run
        subst this
        exact Ends.step hst r1 (ih _ (LL.set hx r2) gs' w' (t ++ u) a' sl' r3 (hR'.trans r4) r5 hl)
      · have := hl.run
        rw [q2] at this; cases this

/-- A caller at a receive. -/
theorem ends_wait
    (hown : ∀ kids gs w₁ t a sl, Inv B0 W0 Post s PB kids gs w₁ t → RelyC PB s.rd w w₁ → gs[0]? = some a → Like a g →
      (∃ gs' w' u, runT Try.prog (crowd gs w₁ sl) 0 = (.next (crowd gs' w' sl), u) ∧ Ends B0 W0 Post Fin gs' w' sl (t ++ u)) ∨
      ∃ gs' a', runT Try.prog (crowd gs w₁ sl) 0 = (.next (crowd gs' w₁ sl), #[]) ∧ Inv B0 W0 Post s PB kids gs' w₁ t ∧ gs'[0]? = some a' ∧ a'.status = .blocked ∧ CA s w₁ g z a')
    (hmeet : s.got = false → ∀ V kids gs w₁ t sl, (∃ W, Post s.cur V W) → Inv B0 W0 Post (s.take V) PB kids gs w₁ t → RelyC PB s.rd w w₁ → gs[0]? = some (Go.Conc.served g (recvd true V true)) → Ends B0 W0 Post Fin gs w₁ sl t) :
    ∀ kids, Acc (LL Kid.lt) kids → ∀ gs w₁ t a sl, Inv B0 W0 Post s PB kids gs w₁ t → RelyC PB s.rd w w₁ → gs[0]? = some a → CA s w₁ g z a → Ends B0 W0 Post Fin gs w₁ sl t := by
  intro kids hacc
  induction hacc with
  | intro kids _ ih =>
    have kid : ∀ gs w₁ t a sl sl' d i (b : Goroutine), Inv B0 W0 Post s PB kids gs w₁ t → RelyC PB s.rd w w₁ → gs[0]? = some a → CA s w₁ g z a → gs[i + 1]? = some b → b.status = .running → stepT Try.prog (crowd gs w₁ sl) = runT Try.prog (crowd gs (w₁.at d) sl') (i + 1) → Ends B0 W0 Post Fin gs w₁ sl t := by
      intro gs w₁ t a sl sl' d i b hI hR ha hca hb hbr hst
      have hR' : RelyC PB s.rd w (w₁.at d) := ⟨hR.size, hR.keep⟩
      have hca' : CA s (w₁.at d) g z a := by
        cases hca with
        | run h => exact .run h
        | wait c bc n m tm h1 h2 => exact .wait c bc n m tm h1 h2
      obtain ⟨x, hx, rfl⟩ := hI.who hb
      rcases (hI.at d).kid_any (sl := sl') hx ha hca' hbr with ⟨gs', w', u, x', a', r1, r2, r3, r4, r5, r6, r7⟩ | ⟨c, bc, q1, q2, q3, q4, gs', w', u, x', V, r0, r1, r2, r3, r4⟩
      · exact Ends.step hst r1 (ih _ (LL.set hx r2) gs' w' (t ++ u) a' sl' r3 (hR'.trans r4) r5 r6)
      · exact Ends.step hst r1 (hmeet q4 V _ gs' w' (t ++ u) sl' r0 r2 (hR'.trans r3) r4)
    have parked : ∀ gs w₁ t a sl, Inv B0 W0 Post s PB kids gs w₁ t → RelyC PB s.rd w w₁ → gs[0]? = some a → a.status = .blocked → CA s w₁ g z a → Ends B0 W0 Post Fin gs w₁ sl t := by
      intro gs w₁ t a sl hI hR ha hab hca
      have hsome : ∃ (i : Nat) (b : Goroutine), gs[i]? = some b ∧ b.status = .running := by
        cases hca with
        | run h => rw [h.run] at hab; cases hab
        | wait c bc n m tm h1 h2 => exact hI.wait_runs h1 h2
      obtain ⟨i, b, d, sl', hb, hbr, hst⟩ := crowd_pick (P := Try.prog) (w := w₁) (sl := sl) (hI.awake ha hca) hsome
      cases i with
      | zero =>
        rw [ha] at hb; cases hb
        rw [hab] at hbr; cases hbr
      | succ i => exact kid gs w₁ t a sl sl' d i b hI hR ha hca hb hbr hst
    intro gs w₁ t a sl hI hR ha hca
    by_cases hab : a.status = .blocked
    · exact parked gs w₁ t a sl hI hR ha hab hca
    have hl : Like a g := by
      cases hca with
      | run h => exact h
      | wait => exact absurd rfl hab
    obtain ⟨i, b, d, sl', hb, hbr, hst⟩ := crowd_pick (P := Try.prog) (w := w₁) (sl := sl) (hI.awake ha hca) ⟨0, a, ha, hl.run⟩
    cases i with
    | zero =>
      have hR' : RelyC PB s.rd w (w₁.at d) := ⟨hR.size, hR.keep⟩
      rcases hown kids gs (w₁.at d) t a sl' (hI.at d) hR' ha hl with ⟨gs', w', u, r1, r2⟩ | ⟨gs', a', r1, r2, r3, r4, r5⟩
      · exact Ends.step hst r1 r2
      · refine Ends.step hst r1 ?_
        rw [Array.append_empty]
        exact parked gs' (w₁.at d) t a' sl' r2 hR' r3 r4 r5
    | succ i => exact kid gs w₁ t a sl sl' d i b hI hR ha hca hb hbr hst

theorem PS.running (h : PS ver N Fin s PB g w) : g.status = .running := by cases h <;> assumption
theorem Like.refl (h : g.status = .running) : Like g g := ⟨h, rfl, rfl, rfl⟩

/-- ████ THE MACHINE ████ -/
theorem machine (hV : ∀ k V w, Post k V w → Sl V) (hM : ∀ k bc bv bi bn c, k < N → MemberC bc bv bi bn c ver k N (Post k)) (h : PS ver N Fin s PB g w) :
    ∀ kids gs w₁ t a sl, Inv B0 W0 Post s PB kids gs w₁ t → RelyC PB s.rd w w₁ → gs[0]? = some a → Like a g → Ends B0 W0 Post Fin gs w₁ sl t := by
  induction h with
  | @go s PB g w h1 h2 h3 ih =>
    intro kids gs w₁ t a sl hI
    refine ends_go (fun kids gs w₁ t a sl hI hR ha hl => ?_) kids hI.acc gs w₁ t a sl hI
    obtain ⟨g', w', es, e, hG, hN⟩ := h2 w₁ hR
    obtain ⟨gs', u, r1, r2, r3⟩ := hI.go0 (sl := sl) ha hl e hG hN
    exact ⟨gs', w', u, r1, ih w₁ g' w' es hR e kids gs' w' (t ++ u) g' sl r2 (RelyC.refl _ _ _) r3 (Like.refl (h3 w₁ g' w' es hR e).running)⟩
  | @spawn s PB g g' w bc bv bi bn c tm h1 h2 h3 h4 h5 h6 h7 h8 ih =>
    intro kids gs w₁ t a sl hI
    refine ends_go (fun kids gs w₁ t a sl hI hR ha hl => ?_) kids hI.acc gs w₁ t a sl hI
    have kp : ∀ b, PB b → w₁.heap[b]? = w.heap[b]? := fun b hb => hR.keep b (.inl hb)
    have hB : Boxes bc bv bi bn c ver s.cs.length N w₁ := ⟨by rw [kp _ (h2 _ (.inl (.inl rfl)))]; exact h6.hc, by rw [kp _ (h2 _ (.inl (.inr (.inl rfl))))]; exact h6.hv, by rw [kp _ (h2 _ (.inl (.inr (.inr (.inl rfl)))))]; exact h6.hi, by rw [kp _ (h2 _ (.inl (.inr (.inr (.inr rfl)))))]; exact h6.hn⟩
    obtain ⟨gs', u, x, r1, r2, r3⟩ := hI.spawn0 (sl := sl) ha hl (h5 w₁ hR) h2 h3 hB (by rw [kp _ (h2 _ (.inr rfl))]; exact h7) (hM _ bc bv bi bn c h4)
    refine ⟨gs', w₁, u, r1, ih _ gs' w₁ (t ++ u) g' sl r2 ⟨hR.size, fun b hb => ?_⟩ r3 (Like.refl h8.running)⟩
    rcases hb with hb | ⟨p, hp, rfl⟩
    · exact kp b hb.1
    · have hp' : p ∈ s.cs ++ [(c, bc)] := hp
      rcases List.mem_append.1 hp' with hp' | hp'
      · exact hR.keep _ (.inr ⟨p, hp', rfl⟩)
      · simp at hp'
        subst hp'
        exact kp _ (h2 _ (.inl (.inl rfl)))
  | @recv s PB g w c bc z h1 h2 h3 h4 h5 ih =>
    intro kids gs w₁ t a sl hI hR ha hl
    refine ends_wait (z := z) (w := w) (fun kids gs w₁ t a sl hI hR ha hl => ?_) (fun _ V kids gs w₁ t sl hP hI hR ha => ih V w₁ (hP.elim fun W q => hV _ _ _ q) hR kids gs w₁ t _ sl hI (RelyC.refl _ _ _) ha (Like.refl rfl)) kids hI.acc gs w₁ t a sl hI hR ha (.run hl)
    rcases hI.recv0 (sl := sl) ha hl h2 h3 (h4 w₁ hR) with ⟨gs', w', u, V, r0, r1, r2, r3, r4⟩ | ⟨gs', r1, r2, r3, r4⟩
    · exact .inl ⟨gs', w', u, r1, ih V w' (r0.elim fun W q => hV _ _ _ q) (hR.trans r3) kids gs' w' (t ++ u) _ sl r2 (RelyC.refl _ _ _) r4 (Like.refl rfl)⟩
    · exact .inr ⟨gs', _, r1, r2, r3, rfl, r4⟩
  | @shut s PB g w c bc z h1 h2 h3 h4 h5 ih =>
    intro kids gs w₁ t a sl hI hR ha hl
    refine ends_wait (z := z) (w := w) (fun kids gs w₁ t a sl hI hR ha hl => ?_) (fun q => by rw [h3] at q; cases q) kids hI.acc gs w₁ t a sl hI hR ha (.run hl)
    rcases hI.shut0 (sl := sl) ha hl h2 h3 (h4 w₁ hR) with ⟨gs', u, r1, r2, r3⟩ | ⟨gs', r1, r2, r3, r4⟩
    · exact .inl ⟨gs', w₁, u, r1, ih w₁ hR kids gs' w₁ (t ++ u) _ sl r2 (RelyC.refl _ _ _) r3 (Like.refl rfl)⟩
    · exact .inr ⟨gs', _, r1, r2, r3, rfl, r4⟩
  | @fin s PB g w h1 h2 h3 h4 =>
    intro kids gs w₁ t a sl hI hR ha hl
    exact ⟨0, gs, w₁, sl, t, s, PB, kids, a, g, rfl, hI, h2, h3, ha, hl, h4 w₁ hR⟩
end
end Go.Proofs.Ytlndinigbppafaa
