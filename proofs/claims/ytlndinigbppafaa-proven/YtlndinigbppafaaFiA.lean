/-
  What an operation may list: touches of blocks that are there, and the mark noRoom; nothing of the outside world.
-/
import Derived.Calls
import Derived.Laws.Sem
import Derived.Conc.Events
namespace Go.Fi
variable {P : Program} {α β : Type}

def blk : Loc → Option Nat
  | .cell a => some a.block
  | .obj r => some r
  | _ => none

/-- A touch of a block below n, or the mark noRoom. -/
def EvF (n : Nat) (e : Event) : Prop := e.loc = .mark .noRoom ∨ ∃ b, blk e.loc = some b ∧ b < n
theorem EvF.mono {n m : Nat} {e : Event} (h : EvF n e) (hm : n ≤ m) : EvF m e := h.imp id fun ⟨b, h1, h2⟩ => ⟨b, h1, Nat.lt_of_lt_of_le h2 hm⟩

/-- It says nothing but noRoom, and does nothing to the outside world. -/
def Fine (P : Program) : Sem α → Prop
  | .pure _ => True
  | .load _ _ k => ∀ v, Fine P (k v)
  | .store _ _ _ k => Fine P k
  | .new _ k => ∀ r, Fine P (k r)
  | .shape _ k => ∀ s, Fine P (k s)
  | .freeze _ _ k => Fine P k
  | .frozen _ k => ∀ b, Fine P (k b)
  | .getObj _ k => ∀ o, Fine P (k o)
  | .setObj _ _ k => Fine P k
  | .choose _ k => ∀ n, Fine P (k n)
  | .sys _ _ => False
  | .program k => Fine P (k P)
  | .mark m k => m = .noRoom ∧ Fine P k
  | .halt _ => True

theorem fine_bind' {m : Sem α} {f : α → Sem β} (h : Fine P m) (hf : ∀ a, Fine P (f a)) : Fine P (m.bind f) := by
  induction m with
  | pure a => exact hf a
  | load _ _ k ih => exact fun v => ih v (h v)
  | store _ _ _ k ih => exact ih h
  | new _ k ih => exact fun v => ih v (h v)
  | shape _ k ih => exact fun v => ih v (h v)
  | freeze _ _ k ih => exact ih h
  | frozen _ k ih => exact fun v => ih v (h v)
  | getObj _ k ih => exact fun v => ih v (h v)
  | setObj _ _ k ih => exact ih h
  | choose _ k ih => exact fun v => ih v (h v)
  | sys _ _ _ => exact h.elim
  | program k ih => exact ih P h
  | mark m k ih => exact ⟨h.1, ih h.2⟩
  | halt _ => trivial
theorem Fine.bind {m : Sem α} {f : α → Sem β} (h : Fine P m) (hf : ∀ a, Fine P (f a)) : Fine P (m >>= f) := fine_bind' h hf
theorem Fine.pure (a : α) : Fine P (pure a : Sem α) := trivial
theorem Fine.map {m : Sem α} {f : α → β} (h : Fine P m) : Fine P (f <$> m) := fine_bind' h fun _ => trivial

def rw' : Result α → World
  | .ok _ w => w
  | .halt _ w => w

theorem seen_block {w : World} {at_ : Addr} {u : TypeId} {k : Addr} {atomic : Bool} {r} (h : w.seen P at_ u k atomic = .ok r) : at_.block < w.heap.size := by
  have : ∃ o, w.heap[at_.block]? = some o := by
    cases e : w.heap[at_.block]? with
    | some o => exact ⟨o, rfl⟩
    | none =>
      exfalso
      unfold World.seen at h
      simp only [e] at h
      repeat' split at h
      all_goals first | (cases h; done) | skip
      all_goals simp [bind, Except.bind, throw, throwThe, MonadExceptOf.throw] at h
  obtain ⟨o, ho⟩ := this
  exact (Array.getElem?_eq_some_iff.1 ho).1

theorem viewLoad_low {w : World} {at_ : Addr} {u : TypeId} {k : Addr} {atomic : Bool} {v : Value} {l : List Addr} (h : w.viewLoad P at_ u k atomic = .ok (v, l)) : ∀ a ∈ l, a.block < w.heap.size := by
  unfold World.viewLoad at h
  cases hs : w.seen P at_ u k atomic with
  | error e => rw [hs] at h; cases h
  | ok r =>
    have hb := seen_block hs
    rw [hs] at h
    obtain ⟨c, e, fz, first, like, cells⟩ := r
    simp only [bind, Except.bind] at h
    split at h
    · cases h
      intro a ha
      simp only [List.mem_map] at ha
      obtain ⟨x, _, rfl⟩ := ha
      exact hb
    · cases h
theorem viewStore_low {w w' : World} {at_ : Addr} {u : TypeId} {k : Addr} {x : Value} {atomic : Bool} {l : List Addr} (h : w.viewStore P at_ u k x atomic = .ok (w', l)) : w'.heap.size = w.heap.size ∧ ∀ a ∈ l, a.block < w.heap.size := by
  unfold World.viewStore at h
  by_cases ht : (!tight P P.depth u) = true
  · simp only [ht, if_true] at h
    cases h
  cases hs : w.seen P at_ u k atomic with
  | error e => simp only [ht, hs] at h; cases h
  | ok r =>
    have hb := seen_block hs
    obtain ⟨c, e, fz, first, like, cells⟩ := r
    simp only [ht, hs, bind, Except.bind, Bool.false_eq_true, if_false] at h
    split at h
    · split at h
      · cases h
      · split at h
        · cases h
        · simp only [Pure.pure, Except.pure, Except.ok.injEq, Prod.mk.injEq] at h
          obtain ⟨rfl, rfl⟩ := h
          refine ⟨by simp, fun a ha => ?_⟩
          simp only [List.mem_map] at ha
          obtain ⟨x, _, rfl⟩ := ha
          exact hb
    · cases h

theorem cell_low {w : World} {a : Addr} {v : Value} (h : w.cell? a = some v) : a.block < w.heap.size := by
  unfold World.cell? at h
  split at h
  · rename_i hb
    exact (Array.getElem?_eq_some_iff.1 hb).1
  · cases h

/-- WHAT A FINE OPERATION LISTS, and the memory only grows. -/
theorem Fine.runT {m : Sem α} (h : Fine P m) : ∀ (w : World) (es : Array Event), w.heap.size ≤ (rw' (m.runT P w es).1).heap.size ∧ ∀ e ∈ (m.runT P w es).2, e ∈ es ∨ EvF (rw' (m.runT P w es).1).heap.size e := by
  have push : ∀ {n : Nat} {es : Array Event} {x e : Event}, e ∈ es.push x → EvF n x → e ∈ es ∨ EvF n e := by
    intro n es x e he hx
    rcases Array.mem_push.1 he with he | rfl
    · exact .inl he
    · exact .inr hx
  induction m with
  | pure a => exact fun w es => ⟨Nat.le_refl _, fun e he => .inl he⟩
  | halt _ => exact fun w es => ⟨Nat.le_refl _, fun e he => .inl he⟩
  | load m a k ih =>
    intro w es
    unfold Sem.runT
    split
    · rename_i v hv
      obtain ⟨h1, h2⟩ := ih v (h v) w (es.push ⟨.cell a, false, m == .atomic⟩)
      refine ⟨h1, fun e he => (h2 e he).elim (fun q => push q (.inr ⟨_, rfl, Nat.lt_of_lt_of_le (cell_low hv) h1⟩)) .inr⟩
    · split
      · rename_i v touched hv
        obtain ⟨h1, h2⟩ := ih v (h v) w (es ++ touched.toArray.map (⟨.cell ·, false, m == .atomic⟩))
        refine ⟨h1, fun e he => (h2 e he).elim (fun q => ?_) .inr⟩
        rcases Array.mem_append.1 q with q | q
        · exact .inl q
        · obtain ⟨x, hx, rfl⟩ := Array.mem_map.1 q
          refine .inr (.inr ⟨_, rfl, Nat.lt_of_lt_of_le ?_ h1⟩)
          unfold World.farLoad at hv
          split at hv
          · split at hv
            · rename_i r hr
              cases hv
              exact viewLoad_low hr x (by simpa using hx)
            · cases hv
          · cases hv
      · exact ⟨Nat.le_refl _, fun e he => .inl he⟩
  | store m a v k ih =>
    intro w es
    have ih' := ih h
    have main : ∀ {x : Result α × Array Event}, (x = match w.cell? a with
        | some _ => if w.frozen? a then (.halt (.unsupported (.unsafePointer "a write to bytes that a string shares")) w, es) else k.runT P (w.setCell a v) (es.push ⟨.cell a, true, m == .atomic⟩)
        | none => match w.farStore P a v (m == .atomic) with
          | .ok (w, touched) => k.runT P w (es ++ touched.toArray.map (⟨.cell ·, true, m == .atomic⟩))
          | .error h => (.halt h w, es)) → w.heap.size ≤ (rw' x.1).heap.size ∧ ∀ e ∈ x.2, e ∈ es ∨ EvF (rw' x.1).heap.size e := by
      intro x hx
      subst hx
      split
      · rename_i v' hv
        split
        · exact ⟨Nat.le_refl _, fun e he => .inl he⟩
        · obtain ⟨h1, h2⟩ := ih' (w.setCell a v) (es.push ⟨.cell a, true, m == .atomic⟩)
          have hs : w.heap.size ≤ (rw' (k.runT P (w.setCell a v) (es.push ⟨.cell a, true, m == .atomic⟩)).1).heap.size := by
            refine Nat.le_trans (Nat.le_of_eq ?_) h1
            unfold World.setCell
            split <;> simp
          exact ⟨hs, fun e he => (h2 e he).elim (fun q => push q (.inr ⟨_, rfl, Nat.lt_of_lt_of_le (cell_low hv) hs⟩)) .inr⟩
      · split
        · rename_i w1 touched hv
          obtain ⟨h1, h2⟩ := ih' w1 (es ++ touched.toArray.map (⟨.cell ·, true, m == .atomic⟩))
          have hl : w1.heap.size = w.heap.size ∧ ∀ x ∈ touched, x.block < w.heap.size := by
            unfold World.farStore at hv
            split at hv
            · split at hv
              · rename_i r hr
                cases hv
                exact viewStore_low hr
              · cases hv
            · cases hv
          rw [hl.1] at h1
          refine ⟨h1, fun e he => (h2 e he).elim (fun q => ?_) .inr⟩
          rcases Array.mem_append.1 q with q | q
          · exact .inl q
          · obtain ⟨x, hx, rfl⟩ := Array.mem_map.1 q
            exact .inr (.inr ⟨_, rfl, Nat.lt_of_lt_of_le (hl.2 x (by simpa using hx)) h1⟩)
        · exact ⟨Nat.le_refl _, fun e he => .inl he⟩
    cases v with
    | agg _ => exact ⟨Nat.le_refl _, fun e he => .inl he⟩
    | tuple _ => exact ⟨Nat.le_refl _, fun e he => .inl he⟩
    | _ => exact main rfl
  | new o k ih =>
    intro w es
    obtain ⟨h1, h2⟩ := ih w.heap.size (h _) { w with heap := w.heap.push o } es
    exact ⟨Nat.le_trans (by simp) h1, h2⟩
  | shape r k ih => exact fun w es => ih _ (h _) w es
  | freeze a n k ih =>
    intro w es
    obtain ⟨h1, h2⟩ := ih h (w.freeze a n) es
    refine ⟨Nat.le_trans (Nat.le_of_eq ?_) h1, h2⟩
    unfold World.freeze
    split <;> simp
  | frozen a k ih => exact fun w es => ih _ (h _) w es
  | getObj r k ih =>
    intro w es
    unfold Sem.runT
    split
    · exact ⟨Nat.le_refl _, fun e he => .inl he⟩
    · rename_i o _ ho
      obtain ⟨h1, h2⟩ := ih o (h o) w (es.push ⟨.obj r, false, o.isChan⟩)
      exact ⟨h1, fun e he => (h2 e he).elim (fun q => push q (.inr ⟨_, rfl, Nat.lt_of_lt_of_le (Array.getElem?_eq_some_iff.1 ho).1 h1⟩)) .inr⟩
    · exact ⟨Nat.le_refl _, fun e he => .inl he⟩
  | setObj r o k ih =>
    intro w es
    unfold Sem.runT
    split
    · exact ⟨Nat.le_refl _, fun e he => .inl he⟩
    · rename_i o' _ ho
      obtain ⟨h1, h2⟩ := ih h { w with heap := w.heap.setIfInBounds r o } (es.push ⟨.obj r, true, o.isChan⟩)
      have hs : w.heap.size ≤ (rw' (k.runT P { w with heap := w.heap.setIfInBounds r o } (es.push ⟨.obj r, true, o.isChan⟩)).1).heap.size := Nat.le_trans (by simp) h1
      exact ⟨hs, fun e he => (h2 e he).elim (fun q => push q (.inr ⟨_, rfl, Nat.lt_of_lt_of_le (Array.getElem?_eq_some_iff.1 ho).1 hs⟩)) .inr⟩
    · exact ⟨Nat.le_refl _, fun e he => .inl he⟩
  | choose q k ih =>
    intro w es
    unfold Sem.runT
    split
    · exact ih _ (h _) w es
    · exact ih _ (h _) { w with drawn := w.drawn + 1 } es
  | sys _ _ _ => exact h.elim
  | program k ih => exact fun w es => ih P h w es
  | mark m k ih =>
    intro w es
    obtain ⟨h1, h2⟩ := ih h.2 w (es.push ⟨.mark m, false, true⟩)
    exact ⟨h1, fun e he => (h2 e he).elim (fun q => push q (.inl (by rw [h.1]))) .inr⟩
end Go.Fi
