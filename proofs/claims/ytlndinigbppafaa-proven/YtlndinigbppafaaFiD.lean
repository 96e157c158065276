/-
  A fine operation hangs on the answers that it asks for alone.
-/
import Derived.Test.YtlndinigbppafaaFiA
namespace Go.Fi
variable {P : Program} {α β : Type}

/-- The world on another tape, at another place of it. -/
def _root_.Go.World.td (w : World) (τ : Nat → Question → Nat) (d : Nat) : World := { w with tape := τ, drawn := d }

theorem viewStore_td {w w' : World} {at_ : Addr} {u : TypeId} {k : Addr} {x : Value} {atomic : Bool} {l : List Addr} (h : w.viewStore P at_ u k x atomic = .ok (w', l)) (τ : Nat → Question → Nat) (d : Nat) :
    w'.tape = w.tape ∧ w'.drawn = w.drawn ∧ w'.os = w.os ∧ w'.output = w.output ∧ (w.td τ d).viewStore P at_ u k x atomic = .ok (w'.td τ d, l) := by
  have hseen : (w.td τ d).seen P at_ u k atomic = w.seen P at_ u k atomic := rfl
  unfold World.viewStore at h ⊢
  rw [hseen]
  by_cases ht : (!tight P P.depth u) = true
  · simp only [ht, if_true] at h
    cases h
  cases hs : w.seen P at_ u k atomic with
  | error e => simp only [ht, hs] at h; cases h
  | ok r =>
    obtain ⟨c, e, fz, first, like, cells⟩ := r
    simp only [ht, hs, bind, Except.bind, Bool.false_eq_true, if_false] at h ⊢
    split at h
    · split at h
      · cases h
      · rename_i hl
        rw [if_neg hl]
        split at h
        · cases h
        · simp only [Pure.pure, Except.pure, Except.ok.injEq, Prod.mk.injEq] at h
          obtain ⟨rfl, rfl⟩ := h
          exact ⟨rfl, rfl, rfl, rfl, rfl⟩
    · cases h

/-- WHAT A FINE OPERATION HANGS ON. -/
theorem Fine.shift {m : Sem α} (h : Fine P m) : ∀ {w : World} {a : α} {w' : World}, m.run P w = .ok a w' →
    w'.tape = w.tape ∧ w'.os = w.os ∧ w'.output = w.output ∧ w.drawn ≤ w'.drawn ∧
      ∀ τ d, (∀ j q, j < w'.drawn - w.drawn → τ (d + j) q = w.tape (w.drawn + j) q) → m.run P (w.td τ d) = .ok a (w'.td τ (d + (w'.drawn - w.drawn))) := by
  induction m with
  | pure a =>
    intro w b w' e
    cases e
    exact ⟨rfl, rfl, rfl, Nat.le_refl _, fun τ d _ => by simp [Sem.run]⟩
  | halt _ => intro w a w' e; cases e
  | load m a k ih =>
    intro w b w' e
    unfold Sem.run at e
    cases hc : w.cell? a with
    | some v =>
      rw [hc] at e
      obtain ⟨h1, h2, h3, h4, h5⟩ := ih v (h v) e
      refine ⟨h1, h2, h3, h4, fun τ d hτ => ?_⟩
      unfold Sem.run
      rw [show (w.td τ d).cell? a = some v from hc]
      exact h5 τ d hτ
    | none =>
      rw [hc] at e
      dsimp only at e
      cases hf : w.farLoad P a (m == .atomic) with
      | error x => rw [hf] at e; cases e
      | ok r =>
        obtain ⟨v, tt⟩ := r
        rw [hf] at e
        obtain ⟨h1, h2, h3, h4, h5⟩ := ih v (h v) e
        refine ⟨h1, h2, h3, h4, fun τ d hτ => ?_⟩
        unfold Sem.run
        rw [show (w.td τ d).cell? a = none from hc]
        dsimp only
        rw [show (w.td τ d).farLoad P a (m == .atomic) = .ok (v, tt) from hf]
        exact h5 τ d hτ
  | store m a v k ih =>
    intro w b w' e
    have ih' := @ih h
    have main : ∀ {w : World}, (∀ l, v ≠ .agg l) → (∀ l, v ≠ .tuple l) → (Sem.store m a v k).run P w = match w.cell? a with
        | some _ => if w.frozen? a then .halt (.unsupported (.unsafePointer "a write to bytes that a string shares")) w else k.run P (w.setCell a v)
        | none => match w.farStore P a v (m == .atomic) with
          | .ok (w, _) => k.run P w
          | .error h => .halt h w := by
      intro w n1 n2
      cases v with
      | agg l => exact absurd rfl (n1 l)
      | tuple l => exact absurd rfl (n2 l)
      | _ => rfl
    by_cases n1 : ∃ l, v = .agg l
    · obtain ⟨l, rfl⟩ := n1; cases e
    by_cases n2 : ∃ l, v = .tuple l
    · obtain ⟨l, rfl⟩ := n2; cases e
    have n1' : ∀ l, v ≠ .agg l := fun l q => n1 ⟨l, q⟩
    have n2' : ∀ l, v ≠ .tuple l := fun l q => n2 ⟨l, q⟩
    rw [main n1' n2'] at e
    cases hc : w.cell? a with
    | some x =>
      rw [hc] at e
      dsimp only at e
      split at e
      · cases e
      · rename_i hfz
        obtain ⟨h1, h2, h3, h4, h5⟩ := ih' e
        refine ⟨h1, h2, h3, h4, fun τ d hτ => ?_⟩
        rw [main n1' n2', show (w.td τ d).cell? a = some x from hc]
        dsimp only
        rw [if_neg (show ¬ (w.td τ d).frozen? a = true from hfz)]
        exact h5 τ d hτ
    | none =>
      rw [hc] at e
      dsimp only at e
      cases hf : w.farStore P a v (m == .atomic) with
      | error x => rw [hf] at e; cases e
      | ok r =>
        obtain ⟨w₁, tt⟩ := r
        rw [hf] at e
        have key : ∀ τ d, w₁.tape = w.tape ∧ w₁.drawn = w.drawn ∧ w₁.os = w.os ∧ w₁.output = w.output ∧ (w.td τ d).farStore P a v (m == .atomic) = .ok (w₁.td τ d, tt) := by
          intro τ d
          unfold World.farStore at hf ⊢
          rw [show (w.td τ d).heap = w.heap from rfl]
          split at hf
          · rename_i at_ u hb
            split at hf
            · rename_i r hr
              cases hf
              obtain ⟨q1, q2, q3, q4, q5⟩ := viewStore_td hr τ d
              refine ⟨q1, q2, q3, q4, ?_⟩
              simp only [q5]
            · cases hf
          · cases hf
        obtain ⟨k1, k2, k3, k4, _⟩ := key w.tape w.drawn
        obtain ⟨h1, h2, h3, h4, h5⟩ := ih' e
        rw [k1, k2] at h5
        refine ⟨h1.trans k1, h2.trans k3, h3.trans k4, k2 ▸ h4, fun τ d hτ => ?_⟩
        rw [main n1' n2', show (w.td τ d).cell? a = none from hc]
        dsimp only
        rw [(key τ d).2.2.2.2]
        exact h5 τ d hτ
  | new o k ih =>
    intro w b w' e
    obtain ⟨h1, h2, h3, h4, h5⟩ := ih w.heap.size (h _) (w := { w with heap := w.heap.push o }) e
    exact ⟨h1, h2, h3, h4, fun τ d hτ => h5 τ d hτ⟩
  | shape r k ih => intro w b w' e; obtain ⟨h1, h2, h3, h4, h5⟩ := ih _ (h _) (w := w) e; exact ⟨h1, h2, h3, h4, fun τ d hτ => h5 τ d hτ⟩
  | freeze a n k ih =>
    intro w b w' e
    have q : ∀ τ d, (w.td τ d).freeze a n = (w.freeze a n).td τ d := fun τ d => by unfold World.freeze World.td; split <;> rfl
    have q1 : (w.freeze a n).tape = w.tape := by unfold World.freeze; split <;> rfl
    have q2 : (w.freeze a n).drawn = w.drawn := by unfold World.freeze; split <;> rfl
    have q3 : (w.freeze a n).os = w.os := by unfold World.freeze; split <;> rfl
    have q4 : (w.freeze a n).output = w.output := by unfold World.freeze; split <;> rfl
    obtain ⟨h1, h2, h3, h4, h5⟩ := ih h (w := w.freeze a n) e
    rw [q1, q2] at h5
    refine ⟨h1.trans q1, h2.trans q3, h3.trans q4, q2 ▸ h4, fun τ d hτ => ?_⟩
    show k.run P ((w.td τ d).freeze a n) = _
    rw [q]
    exact h5 τ d hτ
  | frozen a k ih => intro w b w' e; obtain ⟨h1, h2, h3, h4, h5⟩ := ih _ (h _) (w := w) e; exact ⟨h1, h2, h3, h4, fun τ d hτ => h5 τ d hτ⟩
  | getObj r k ih =>
    intro w b w' e
    unfold Sem.run at e
    split at e
    · cases e
    · rename_i o hn ho
      obtain ⟨h1, h2, h3, h4, h5⟩ := ih o (h o) e
      refine ⟨h1, h2, h3, h4, fun τ d hτ => ?_⟩
      have := h5 τ d hτ
      unfold Sem.run
      rw [show (w.td τ d).heap[r]? = some o from ho]
      cases o with
      | cells c t fz => exact absurd rfl (hn c t fz)
      | _ => exact this
    · cases e
  | setObj r o k ih =>
    intro w b w' e
    unfold Sem.run at e
    split at e
    · cases e
    · rename_i o' hn ho
      obtain ⟨h1, h2, h3, h4, h5⟩ := ih h (w := { w with heap := w.heap.setIfInBounds r o }) e
      refine ⟨h1, h2, h3, h4, fun τ d hτ => ?_⟩
      have := h5 τ d hτ
      unfold Sem.run
      rw [show (w.td τ d).heap[r]? = some o' from ho]
      cases o' with
      | cells c t fz => exact absurd rfl (hn c t fz)
      | _ => exact this
    · cases e
  | choose q k ih =>
    intro w b w' e
    unfold Sem.run at e
    split at e
    · rename_i hq
      obtain ⟨h1, h2, h3, h4, h5⟩ := ih 0 (h 0) e
      refine ⟨h1, h2, h3, h4, fun τ d hτ => ?_⟩
      unfold Sem.run
      rw [if_pos hq]
      exact h5 τ d hτ
    · rename_i hq
      obtain ⟨h1, h2, h3, h4, h5⟩ := ih _ (h _) (w := { w with drawn := w.drawn + 1 }) e
      have h4' : w.drawn + 1 ≤ w'.drawn := h4
      refine ⟨h1, h2, h3, by omega, fun τ d hτ => ?_⟩
      have t0 : τ d q = w.tape w.drawn q := by
        have := hτ 0 q (by omega)
        simpa using this
      have h6 := h5 τ (d + 1) fun j q' hj => by
        have hj' : j < w'.drawn - (w.drawn + 1) := hj
        have := hτ (j + 1) q' (by omega)
        rw [show d + 1 + j = d + (j + 1) by omega, this]
        show w.tape (w.drawn + (j + 1)) q' = w.tape (w.drawn + 1 + j) q'
        rw [show w.drawn + (j + 1) = w.drawn + 1 + j by omega]
      unfold Sem.run
      rw [if_neg hq]
      have e1 : d + 1 + (w'.drawn - (w.drawn + 1)) = d + (w'.drawn - w.drawn) := by omega
      have h7 : (k (q.cut (w.tape w.drawn q))).run P ({ w with drawn := w.drawn + 1 }.td τ (d + 1)) = .ok b (w'.td τ (d + 1 + (w'.drawn - (w.drawn + 1)))) := h6
      rw [e1] at h7
      show (k (q.cut (τ d q))).run P ({ w with drawn := w.drawn + 1 }.td τ (d + 1)) = _
      rw [t0]
      exact h7
  | sys _ _ _ => exact h.elim
  | program k ih => intro w b w' e; obtain ⟨h1, h2, h3, h4, h5⟩ := ih P h (w := w) e; exact ⟨h1, h2, h3, h4, fun τ d hτ => h5 τ d hτ⟩
  | mark m k ih => intro w b w' e; obtain ⟨h1, h2, h3, h4, h5⟩ := ih h.2 (w := w) e; exact ⟨h1, h2, h3, h4, fun τ d hτ => h5 τ d hτ⟩
end Go.Fi
