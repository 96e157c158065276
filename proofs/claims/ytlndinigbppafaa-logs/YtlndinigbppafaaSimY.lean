/-
  The simulation, further operations: equality, texts and bytes, slices made and copied.
-/
import Derived.Test.YtlndinigbppafaaSimX
namespace Go.Sim
variable {P : Program} {Shd : Nat → Prop} {R : BR}

theorem sim_frozen (hS : ∀ b, ¬ Shd b) {a A : Addr} (h : R a.block A.block) (ho : a.off = A.off) : Sim P Shd (fun _ a b => a = b) R (frozen a) (frozen A) := by
  intro w W hw ht
  refine ⟨fun h w' e => (by cases e), fun x w' e => ?_⟩
  have e1 : ∀ (w : World) (a : Addr), (frozen a).run P w = .ok (w.frozen? a) w := fun _ _ => rfl
  rw [e1] at e
  cases e
  refine ⟨R, W.frozen? A, W, e1 _ _, ?_, hw, EX.refl _ _ _ _, by simp, fun τ _ => rfl⟩
  obtain ⟨o, O, h1, h2, h3⟩ := hw.dom _ _ h
  unfold World.frozen?
  rw [h1, h2]
  cases h3 with
  | cells t h4 h5 h6 => rw [h5 (hS _), ho]
  | number l h4 h5 => rfl
theorem sim_stringish (hS : ∀ b, ¬ Shd b) {a A : Addr} (h : AR R a A) : Sim P Shd (fun _ a b => a = b) R (stringish a) (stringish A) := by
  refine Sim.bind (sim_frozen hS h.1 h.2.1) fun R1 x _ s1 q => ?_
  subst q
  split
  · exact Sim.pure rfl
  · refine Sim.bind (sim_shape (s1 _ _ h.1)) fun R2 x _ s2 q => ?_
    subst q
    split
    · exact sim_frozen hS (s2 _ _ (s1 _ _ h.1)) rfl
    · exact Sim.pure rfl
theorem sim_mayBeOne (hS : ∀ b, ¬ Shd b) {a A b B : Addr} (h : AR R a A) (k : AR R b B) : Sim P Shd (fun _ a b => a = b) R (mayBeOne a b) (mayBeOne A B) := by
  unfold mayBeOne
  refine Sim.bind (sim_stringish hS h) fun R1 x _ s1 q => ?_
  subst q
  refine Sim.bind (sim_stringish hS (k.mono s1)) fun R2 y _ s2 q => ?_
  subst q
  have K : ∀ {R3 : BR} {c C : Addr}, AR R3 c C → Sim P Shd (fun _ a b => a = b) R3 (do pure ((← shape c.block) matches some (_, 0))) (do pure ((← shape C.block) matches some (_, 0))) := by
    intro R3 c C hc
    refine Sim.bind (sim_shape hc.1) fun R4 x _ s4 q => ?_
    subst q
    exact Sim.pure rfl
  refine Sim.bind (K ((h.mono s1).mono s2)) fun R3 z _ s3 q => ?_
  subst q
  refine Sim.bind (K (((k.mono s1).mono s2).mono s3)) fun R4 z _ s4 q => ?_
  subst q
  exact Sim.pure rfl
theorem sim_sameAddr (hS : ∀ b, ¬ Shd b) {a A b B : Addr} (h : AR R a A) (k : AR R b B) : Sim P Shd (fun _ a b => a = b) R (sameAddr a b) (sameAddr A B) := by
  intro w W hw
  revert w W hw
  have key : (∀ w W, WR P Shd R w W → (a.block = b.block ↔ A.block = B.block)) := fun w W hw => hw.inj _ _ _ _ h.1 k.1
  intro w W hw
  have he := key w W hw
  refine (?_ : Sim P Shd (fun _ a b => a = b) R (sameAddr a b) (sameAddr A B)) w W hw
  unfold sameAddr
  by_cases hb : a.block = b.block
  · have hB := he.1 hb
    rw [if_pos (by simpa using hb), if_pos (by simpa using hB)]
    refine Sim.pure ?_
    obtain ⟨_, h2, h3, h4⟩ := h
    obtain ⟨_, k2, k3, k4⟩ := k
    obtain ⟨ab, ao, as⟩ := a
    obtain ⟨Ab, Ao, As⟩ := A
    obtain ⟨bb, bo, bs⟩ := b
    obtain ⟨Bb, Bo, Bs⟩ := B
    simp only at *
    subst h2; subst k2; subst h3; subst h4; subst k3; subst k4; subst hb; subst hB
    by_cases hx : ao = bo
    · subst hx; simp
    · have e1 : ((⟨ab, ao, none⟩ : Addr) == ⟨ab, bo, none⟩) = false := by simp [hx]
      have e2 : ((⟨Ab, ao, none⟩ : Addr) == ⟨Ab, bo, none⟩) = false := by simp [hx]
      rw [e1, e2]
  · have hB : ¬ A.block = B.block := fun x => hb (he.2 x)
    rw [if_neg (by simpa using hb), if_neg (by simpa using hB)]
    refine Sim.bind (sim_frozen hS h.1 h.2.1) fun R1 x _ s1 q => ?_
    subst q
    have tail : ∀ {R2 : BR}, AR R2 a A → AR R2 b B → Sim P Shd (fun _ a b => a = b) R2
        (do
          noView a
          noView b
          if ← mayBeOne a b then return (← choose (.extern "sameAddr.stringBytes" 2)) == 1
          pure false)
        (do
          noView A
          noView B
          if ← mayBeOne A B then return (← choose (.extern "sameAddr.stringBytes" 2)) == 1
          pure false) := by
      intro R2 h k
      refine Sim.bind (sim_noView h) fun R3 _ _ s3 _ => Sim.bind (sim_noView (k.mono s3)) fun R4 _ _ s4 _ => ?_
      refine Sim.bind (sim_mayBeOne hS ((h.mono s3).mono s4) ((k.mono s3).mono s4)) fun R5 x _ s5 q => ?_
      subst q
      split
      · refine Sim.bind (sim_choose _) fun R6 x _ s6 q => ?_
        subst q
        exact Sim.pure rfl
      · exact Sim.pure rfl
    cases x with
    | false => exact tail (h.mono s1) (k.mono s1)
    | true =>
      refine Sim.bind (sim_frozen hS (s1 _ _ k.1) k.2.1) fun R2 x _ s2 q => ?_
      subst q
      cases x with
      | false => exact tail ((h.mono s1).mono s2) ((k.mono s1).mono s2)
      | true => exact Sim.dead (dead_left (dead_unsupported _))

/-- Equality at a type of numbers, texts or pointers. -/
theorem sim_equal (hS : ∀ b, ¬ Shd b) {t : TypeId} (ht : Plain P t) {a A b B : Value} (ha : VR P R a A) (hb : VR P R b B) : Sim P Shd (fun _ a b => a = b) R (Op.equal t a b) (Op.equal t A B) := by
  unfold Op.equal Op.maxDepth Op.equalIn
  refine Sim.bind (sim_underlying t) fun R1 d _ s1 q => ?_
  obtain ⟨rfl, hd⟩ := q
  have ha := ha.mono s1
  have hb := hb.mono s1
  rcases ht with ⟨k, h, hcc⟩ | h | ⟨e, h, hsz⟩
  · rw [h] at hd
    cases hd
    cases ha <;> cases hb <;> first
      | exact Sim.stuck _
      | exact Sim.unsupported _
      | exact Sim.pure rfl
      | (dsimp only; split; exact Sim.pure rfl; exact Sim.stuck _)
      | (rename_i k n _ _ _; match n with
          | .ofNat 0 => exact Sim.pure rfl
          | .ofNat (_ + 1) => exact Sim.unsupported _
          | .negSucc _ => exact Sim.unsupported _)
      | (rename_i _ _ _ k n; match n with
          | .ofNat 0 => exact Sim.pure rfl
          | .ofNat (_ + 1) => exact Sim.unsupported _
          | .negSucc _ => exact Sim.unsupported _)
      | skip
    rename_i h1 _ _ h2
    refine Sim.bind (sim_behindNumber h1) fun R2 x X s2 q => Sim.wr fun low => Sim.dead (dead_bind (mild_behindNumber _) fun y => ?_)
    intro w
    have hlow := low _ _ q.1.1
    rw [Sem.run_bind]
    simp only [run_program, Result.andThen_ok]
    rw [if_neg (by simp; intro _; exact hlow), Sem.run_bind]
    cases hi : P.info? t with
    | none => exact ⟨.stuck "no such type", w, by simp [typeInfo, hi], trivial⟩
    | some i =>
      have hr : (typeInfo t).run P w = .ok i w := by simp [typeInfo, hi]
      rw [hr]
      simp only [Result.andThen_ok]
      split
      · rename_i u hd
        exact absurd hd (hcc i u hi)
      · exact ⟨.unsupported .addressObserved, w, rfl, trivial⟩
  · rw [h] at hd
    cases hd
    cases ha <;> cases hb <;> first
      | exact Sim.stuck _
      | exact Sim.pure rfl
  · rw [h] at hd
    cases hd
    cases ha <;> cases hb <;> first
      | exact Sim.stuck _
      | exact Sim.pure rfl
      | skip
    rename_i h1 _ _ h2
    refine Sim.bind (sim_sizeOf' e) fun R2 n _ s2 q => ?_
    obtain ⟨rfl, i, hi, hn⟩ := q
    rw [if_pos (by rw [← hn]; exact hsz i hi), if_pos (by rw [← hn]; exact hsz i hi)]
    exact sim_sameAddr hS (h1.mono s2) (h2.mono s2)

theorem sim_eql (hS : ∀ b, ¬ Shd b) (op : BinOp) (ho : op = .eql ∨ op = .neq) {t : TypeId} (ht : Plain P t) {a A b B : Value} (ha : VR P R a A) (hb : VR P R b B) : Sim P Shd (VR P) R (binOp op t a b) (binOp op t A B) := by
  have E := sim_equal hS ht ha hb
  have K1 : Sim P Shd (VR P) R (do pure (.bool (← Op.equal t a b))) (do pure (.bool (← Op.equal t A B))) := Sim.bind E fun _ _ _ _ q => Sim.pure (by rw [q]; exact .bool _)
  have K2 : Sim P Shd (VR P) R (do pure (.bool (!(← Op.equal t a b)))) (do pure (.bool (!(← Op.equal t A B)))) := Sim.bind E fun _ _ _ _ q => Sim.pure (by rw [q]; exact .bool _)
  rcases ho with rfl | rfl
  all_goals
    cases ha <;> cases hb <;> first
      | exact K1
      | exact K2
      | exact Sim.pure (.bool _)
      | (unfold binOp; dsimp only; split; exact Sim.stuck _; exact Sim.pure (.bool _))
end Go.Sim
