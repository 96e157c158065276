/-
  The simulation, for the model's own small pieces: reading and writing cells, making rows, asking the tape, looking a type up.
-/
import Derived.Test.YtlndinigbppafaaSimA
namespace Go.Sim
variable {P : Program} {Shd : Nat → Prop} {R : BR}

theorem AR.add {a A : Addr} (h : AR R a A) (n : Nat) : AR R (a.add n) (A.add n) := by
  obtain ⟨h1, h2, h3, h4⟩ := h
  unfold Addr.add
  split
  · exact ⟨h1, h2, h3, h4⟩
  · exact ⟨h1, by simp [h2], rfl, rfl⟩

theorem sim_load {a A : Addr} (h : AR R a A) : Sim P Shd (VR P) R (load a) (load A) := by
  intro w W hw ht
  obtain ⟨o, O, h1, h2, ho'⟩ := hw.dom _ _ h.1
  obtain ⟨_, ho, hs, hS⟩ := h
  cases ho' with
  | number l _ _ =>
    have e1 : (load a).run P w = .halt (.stuck "load: no such cell") w := by simp [load, Sem.run, World.cell?, World.farLoad, World.noCell, h1]
    exact ⟨fun y w'' e' => by rw [e1] at e'; cases e'; trivial, fun a w'' e' => by rw [e1] at e'; cases e'⟩
  | cells t h3 h4 h5 =>
  rename_i c C fz Fz
  cases hc : c[a.off]? with
  | none =>
    have e1 : (load a).run P w = .halt (.stuck "load: no such cell") w := by simp [load, Sem.run, World.cell?, World.farLoad, World.noCell, h1, hs, hc]
    exact ⟨fun y w'' e' => by rw [e1] at e'; cases e'; trivial, fun a w'' e' => by rw [e1] at e'; cases e'⟩
  | some x =>
    refine ⟨fun y w' e => by simp [load, Sem.run, World.cell?, h1, hs, hc] at e, fun v w' e => ?_⟩
    simp [load, Sem.run, World.cell?, h1, hs, hc] at e
    obtain ⟨rfl, rfl⟩ := e
    obtain ⟨V, hV, hr⟩ := h3.get hc
    rw [ho] at hV
    refine ⟨R, V, W, by simp [load, Sem.run, World.cell?, h2, hS, hV], hr, hw, EX.refl _ _ _ _, fun e he => ?_, fun τ _ => by simp [load, Sem.run, World.cell?, World.tp, h1, hs, hc]⟩
    simp [events_load, World.cell?, h2, hS, hV] at he
    subst he
    exact .inr ⟨rfl, _, _, ‹R _ _›, .inl ⟨A, rfl, rfl⟩, by simp⟩

theorem heap_set_same {w : World} {a : Addr} {c : Array Value} {t : TypeId} {fz : Nat × Nat} (v : Value) (h : w.heap[a.block]? = some (.cells c t fz)) (hs : a.spot = none) :
    (w.setCell a v).heap[a.block]? = some (.cells (c.setIfInBounds a.off v) t fz) := by
  simp [World.setCell, Array.getElem?_modify, h, hs]
theorem heap_set_other {w : World} {a : Addr} (v : Value) {b : Nat} (h : b ≠ a.block) : (w.setCell a v).heap[b]? = w.heap[b]? := by
  simp [World.setCell, Array.getElem?_modify]
  intro e; exact absurd e.symm h

theorem sim_store {a A : Addr} {v V : Value} (h : AR R a A) (hv : VR P R v V) : Sim P Shd (fun _ _ _ => True) R (store a v) (store A V) := by
  intro w W hw ht
  have hab := h.1
  obtain ⟨o, O, h1, h2, ho'⟩ := hw.dom _ _ h.1
  obtain ⟨_, ho, hs, hS⟩ := h
  by_cases hnv : (∀ x, v ≠ .agg x) ∧ ∀ x, v ≠ .tuple x
  case neg =>
    have e1 : (store a v).run P w = .halt (.stuck "store: not the value of one cell") w := by
      cases v <;> first | rfl | (exfalso; apply hnv; constructor <;> (intro x e; cases e))
    exact ⟨fun y w'' e' => by rw [e1] at e'; cases e'; trivial, fun a w'' e' => by rw [e1] at e'; cases e'⟩
  have hnV : (∀ x, V ≠ .agg x) ∧ ∀ x, V ≠ .tuple x := by
    constructor <;> (rintro x rfl; cases hv)
    · exact hnv.1 _ rfl
    · exact hnv.2 _ rfl
  have run1 : ∀ (w : World) (a : Addr) (v : Value), (∀ x, v ≠ .agg x) → (∀ x, v ≠ .tuple x) → (store a v).run P w = match w.cell? a with
      | some _ => if w.frozen? a then .halt (.unsupported (.unsafePointer "a write to bytes that a string shares")) w else .ok () (w.setCell a v)
      | none => match w.farStore P a v false with
        | .ok (w, _) => .ok () w
        | .error h => .halt h w := by
    intro w a v n1 n2
    cases v <;> first | exact absurd rfl (n1 _) | exact absurd rfl (n2 _) | rfl
  have er := run1 w a v hnv.1 hnv.2
  cases ho' with
  | number l _ _ =>
    have e1 : (store a v).run P w = .halt (.stuck "store: no such cell") w := by rw [er]; simp [World.cell?, World.farStore, World.noCell, h1]
    exact ⟨fun y w'' e' => by rw [e1] at e'; cases e'; trivial, fun a w'' e' => by rw [e1] at e'; cases e'⟩
  | cells t h3 h4 h5 =>
  rename_i c C fz Fz
  cases hc : c[a.off]? with
  | none =>
    have e1 : (store a v).run P w = .halt (.stuck "store: no such cell") w := by rw [er]; simp [World.cell?, World.farStore, World.noCell, h1, hs, hc]
    exact ⟨fun y w'' e' => by rw [e1] at e'; cases e'; trivial, fun a w'' e' => by rw [e1] at e'; cases e'⟩
  | some x =>
    have hlt : a.off < c.size := (Array.getElem?_eq_some_iff.1 hc).1
    simp only [World.cell?, h1, hs, hc, Option.isSome_none, Bool.false_eq_true, if_false] at er
    refine ⟨fun y w'' e' => ?_, fun u w' e => ?_⟩
    · rw [er] at e'
      split at e'
      · cases e'; trivial
      · cases e'
    rw [er] at e
    split at e
    · cases e
    rename_i hfz
    have hnS : ¬ Shd a.block := by
      intro hS'
      apply hfz
      have := h5 hS' _ hlt
      simp [World.frozen?, h1, this]
    simp only [Result.ok.injEq] at e
    obtain ⟨_, rfl⟩ := e
    obtain ⟨X, hX, _⟩ := h3.get hc
    rw [ho] at hX
    have eF := h4 hnS
    have hFz : W.frozen? A = false := by
      simp [World.frozen?, h1, eF, ho] at hfz
      simp [World.frozen?, h2]
      exact hfz
    refine ⟨R, (), W.setCell A V, ?_, trivial, ?_, ?_, fun e he => ?_, fun τ _ => ?_⟩
    · rw [run1 _ _ _ hnV.1 hnV.2]
      simp [World.cell?, h2, hS, hX, hFz]
    · refine ⟨fun b B hbB => ?_, hw.inj, fun b hb => by simpa [World.setCell] using hw.shd b hb, hw.low, by simpa [World.setCell] using hw.glob⟩
      by_cases hb : b = a.block
      · have hB : B = A.block := (hw.inj _ _ _ _ hbB hab).1 hb
        subst hb; subst hB
        refine ⟨_, _, heap_set_same v h1 hs, heap_set_same V h2 hS, .cells t ?_ h4 fun hS' => absurd hS' hnS⟩
        rw [ho]
        exact h3.set _ hv
      · have hB : B ≠ A.block := fun x => hb ((hw.inj _ _ _ _ hbB hab).2 x)
        rw [heap_set_other v hb, heap_set_other V hB]
        exact hw.dom _ _ hbB
    · refine ⟨fun _ _ h => h, fun _ _ h => .inl h, by simp [World.setCell], by simp [World.setCell], fun B hB hk => ?_, rfl, rfl, ⟨0, rfl, rfl⟩, rfl, rfl, rfl⟩
      exact heap_set_other V (fun x => hnS (hk _ (x ▸ hab)))
    · have ev : (store A V).events P W #[] = #[⟨.cell A, true, false⟩] := by
        cases V <;> first | exact absurd rfl (hnV.1 _) | exact absurd rfl (hnV.2 _) | simp [store, Sem.events, Sem.runT, World.cell?, h2, hS, hX, hFz]
      rw [ev] at he
      simp at he
      subst he
      exact .inr ⟨rfl, _, _, hab, .inl ⟨A, rfl, rfl⟩, fun _ => hnS⟩
    · rw [run1 _ _ _ hnv.1 hnv.2]
      have hfz' : ¬ (w.tp τ).frozen? a = true := by simpa [World.frozen?, World.tp] using hfz
      have hce : (w.tp τ).cell? a = some x := by simp [World.cell?, World.tp, h1, hs, hc]
      rw [hce]
      exact if_neg hfz'

theorem WR.old {w W : World} (hw : WR P Shd R w W) {b B : Nat} (hb : R b B) : b < w.heap.size ∧ B < W.heap.size := by
  obtain ⟨o, O, h1, h2, _⟩ := hw.dom _ _ hb
  exact ⟨(Array.getElem?_eq_some_iff.1 h1).1, (Array.getElem?_eq_some_iff.1 h2).1⟩

theorem sim_newObj {o O : Obj} (h : ∀ b, ¬ Shd b → OR P Shd R b o O) : Sim P Shd (fun R' n N => R' n N ∧ ¬ Shd n ∧ ∀ b B, R b B → R' b B) R (newObj o) (newObj O) := by
  intro w W hw ht
  refine ⟨fun h w' e => (by cases e), fun a w' e => ?_⟩
  have e1 : (newObj o).run P w = .ok w.heap.size { w with heap := w.heap.push o } := rfl
  rw [e1] at e
  simp only [Result.ok.injEq] at e
  obtain ⟨rfl, rfl⟩ := e
  have hn : ¬ Shd w.heap.size := fun x => Nat.lt_irrefl _ (hw.shd _ x)
  refine ⟨fun b B => R b B ∨ (b = w.heap.size ∧ B = W.heap.size), W.heap.size, { W with heap := W.heap.push O }, rfl,
    ⟨.inr ⟨rfl, rfl⟩, hn, fun _ _ h => .inl h⟩, ?_, ?_, by simp, fun τ _ => rfl⟩
  · refine ⟨fun b B hb => ?_, fun b b' B B' hb hb' => ?_, fun b hb => (by have := hw.shd b hb; simp; omega), fun b B hb => ?_, (by have := hw.glob; simp; omega)⟩
    · rcases hb with hb | ⟨rfl, rfl⟩
      · obtain ⟨o', O', h1, h2, h3⟩ := hw.dom _ _ hb
        have := hw.old hb
        refine ⟨o', O', ?_, ?_, h3.mono (fun _ _ h => .inl h)⟩
        · simpa [Array.getElem?_push, Nat.ne_of_lt this.1] using h1
        · simpa [Array.getElem?_push, Nat.ne_of_lt this.2] using h2
      · exact ⟨o, O, by simp, by simp, (h _ hn).mono (fun _ _ h => .inl h)⟩
    · rcases hb with hb | ⟨rfl, rfl⟩ <;> rcases hb' with hb' | ⟨rfl, rfl⟩
      · exact hw.inj _ _ _ _ hb hb'
      · have := hw.old hb; constructor <;> intro x <;> omega
      · have := hw.old hb'; constructor <;> intro x <;> omega
      · simp
    · rcases hb with hb | ⟨rfl, rfl⟩
      · exact hw.low _ _ hb
      · exact hw.glob
  · refine ⟨fun _ _ h => .inl h, fun b B hb => ?_, by simp, by simp, fun B hB hk => ?_, rfl, rfl, ⟨0, rfl, rfl⟩, rfl, rfl, rfl⟩
    · rcases hb with hb | ⟨rfl, rfl⟩
      · exact .inl hb
      · exact .inr ⟨Nat.le_refl _, Nat.le_refl _⟩
    · simp [Array.getElem?_push, Nat.ne_of_lt hB]

theorem sim_newRow (t : TypeId) {c C : Array Value} (h : VRs P R c C) : Sim P Shd (fun R' a A => AR R' a A ∧ ¬ Shd a.block ∧ a.off = 0 ∧ ∀ b B, R b B → R' b B) R (newRow t c) (newRow t C) :=
  Sim.bind (sim_newObj fun _ hb => .cells t h (fun _ => rfl) fun x => absurd x hb) fun _ _ _ _ q => Sim.pure ⟨⟨q.1, rfl, rfl, rfl⟩, q.2.1, rfl, q.2.2⟩

theorem sim_shape {r r' : Nat} (h : R r r') : Sim P Shd (fun _ a b => a = b) R (shape r) (shape r') := by
  intro w W hw ht
  refine ⟨fun h w' e => (by cases e), fun a w' e => ?_⟩
  obtain ⟨o, O, h1, h2, ho⟩ := hw.dom _ _ h
  have e1 : ∀ (w : World) r, (shape r).run P w = .ok (w.shape? r) w := fun _ _ => rfl
  rw [e1] at e
  simp only [Result.ok.injEq] at e
  obtain ⟨rfl, rfl⟩ := e
  refine ⟨R, _, W, e1 _ _, ?_, hw, EX.refl _ _ _ _, by simp, fun τ _ => rfl⟩
  cases ho with
  | cells t h3 _ _ => simp [World.shape?, h1, h2, h3.1]
  | number l _ _ => simp [World.shape?, h1, h2]

theorem sim_getObj {r r' : Nat} (h : R r r') : Sim P Shd (fun R' o O => ∃ a A lost, o = .number a lost ∧ O = .number A lost ∧ AR R' a A) R (getObj r) (getObj r') := by
  intro w W hw ht
  obtain ⟨o, O, h1, h2, ho⟩ := hw.dom _ _ h
  cases ho with
  | cells t h3 _ _ =>
    have e1 : (getObj r).run P w = .halt (.stuck "getObj: a row of cells") w := by simp [getObj, Sem.run, h1]
    exact ⟨fun y w'' e' => by rw [e1] at e'; cases e'; trivial, fun a w'' e' => by rw [e1] at e'; cases e'⟩
  | number l h3 h4 =>
    refine ⟨fun h w' e => by simp [getObj, Sem.run, h1] at e, fun a w' e => ?_⟩
    simp [getObj, Sem.run, h1] at e
    obtain ⟨rfl, rfl⟩ := e
    refine ⟨R, _, W, by simp [getObj, Sem.run, h2], ⟨_, _, l, rfl, rfl, h3⟩, hw, EX.refl _ _ _ _, fun e he => ?_, fun τ _ => by simp [getObj, Sem.run, World.tp, h1]⟩
    have ev : (getObj r').events P W #[] = #[⟨.obj r', false, false⟩] := by
      show ((Sem.getObj r' Sem.pure).runT P W #[]).2 = _
      rw [Sem.runT, h2]
      rfl
    rw [ev] at he
    simp at he
    subst he
    exact .inr ⟨rfl, _, _, h, .inr rfl, by simp⟩

theorem sim_choose (q : Question) : Sim P Shd (fun _ a b => a = b) R (choose q) (choose q) := by
  intro w W hw ht
  refine ⟨fun h w' e => (by unfold choose Sem.run at e; split at e <;> cases e), fun a w' e => ?_⟩
  have t0 := ht 0 q
  simp only [Nat.add_zero] at t0
  by_cases hq : q.forced = true
  · simp [choose, Sem.run, hq] at e
    obtain ⟨rfl, rfl⟩ := e
    exact ⟨R, 0, W, by simp [choose, Sem.run, hq], rfl, hw, EX.refl _ _ _ _, by simp, fun τ _ => by simp [choose, Sem.run, hq]⟩
  · simp [choose, Sem.run, hq] at e
    obtain ⟨rfl, rfl⟩ := e
    refine ⟨R, q.cut (W.tape W.drawn q), { W with drawn := W.drawn + 1 }, by simp [choose, Sem.run, hq], by rw [t0], ⟨hw.dom, hw.inj, hw.shd, hw.low, hw.glob⟩, ?_, by simp, fun τ hτ => ?_⟩
    · exact ⟨fun _ _ h => h, fun _ _ h => .inl h, Nat.le_refl _, Nat.le_refl _, fun _ _ _ => rfl, rfl, rfl, ⟨1, rfl, rfl⟩, rfl, rfl, rfl⟩
    · have := hτ w.drawn q (Nat.le_refl _) (Nat.lt_succ_self _)
      simp [choose, Sem.run, hq, World.tp, this]

/-- A piece that looks at the program alone. -/
theorem Sim.free {α : Type} {s : Sem α} {F : α → Prop} (h : ∀ w a w', s.run P w = .ok a w' → w' = w ∧ F a ∧ ∀ W, s.run P W = .ok a W) (hm : Mild P s) (ev : ∀ W, s.events P W #[] = #[]) :
    Sim P Shd (fun _ a b => a = b ∧ F a) R s s := by
  intro w W hw ht
  refine ⟨hm w, fun a w' e => ?_⟩
  obtain ⟨rfl, hF, k⟩ := h w a w' e
  exact ⟨R, a, W, k W, ⟨rfl, hF⟩, hw, EX.refl _ _ _ _, by simp [ev], fun τ _ => k _⟩

theorem mild_underlying (t : TypeId) : Mild P (underlying t) := by
  intro w h w' e
  cases hu : P.underlying t <;> simp [underlying, program, hu, stuck, bind, Sem.bind, Sem.run, pure] at e
  rw [← e.1]; trivial
theorem mild_typeInfo (t : TypeId) : Mild P (typeInfo t) := by
  intro w h w' e
  cases hu : P.info? t <;> simp [typeInfo, program, hu, stuck, bind, Sem.bind, Sem.run, pure] at e
  rw [← e.1]; trivial
theorem sim_underlying (t : TypeId) : Sim P Shd (fun _ a b => a = b ∧ P.underlying t = some a) R (underlying t) (underlying t) := by
  refine Sim.free (fun w a w' e => ?_) (mild_underlying t) (fun W => by simp)
  cases hu : P.underlying t with
  | none => simp [underlying, program, hu, stuck, bind, Sem.bind, Sem.run] at e
  | some d =>
    simp [underlying, program, hu, bind, Sem.bind, Sem.run, pure] at e
    obtain ⟨rfl, rfl⟩ := e
    exact ⟨rfl, rfl, fun W => by simp [underlying, program, hu, bind, Sem.bind, Sem.run, pure]⟩
theorem sim_typeInfo (t : TypeId) : Sim P Shd (fun _ a b => a = b ∧ P.info? t = some a) R (typeInfo t) (typeInfo t) := by
  refine Sim.free (fun w a w' e => ?_) (mild_typeInfo t) (fun W => by simp)
  cases hu : P.info? t with
  | none => simp [typeInfo, program, hu, stuck, bind, Sem.bind, Sem.run] at e
  | some d =>
    simp [typeInfo, program, hu, bind, Sem.bind, Sem.run, pure] at e
    obtain ⟨rfl, rfl⟩ := e
    exact ⟨rfl, rfl, fun W => by simp [typeInfo, program, hu, bind, Sem.bind, Sem.run, pure]⟩
theorem sim_program : Sim P Shd (fun _ a b => a = P ∧ b = P) R program program := by
  intro w W hw ht
  refine ⟨fun h w' e => (by cases e), fun a w' e => ?_⟩
  cases e
  exact ⟨R, P, W, rfl, ⟨rfl, rfl⟩, hw, EX.refl _ _ _ _, by simp, fun τ _ => rfl⟩

theorem Sim.wr {α β : Type} {Q : BR → α → β → Prop} {s : Sem α} {S : Sem β} (h : (∀ b B, R b B → P.globals.size ≤ b) → Sim P Shd Q R s S) : Sim P Shd Q R s S := fun w W hw => h (fun b B q => (hw.low b B q).1) w W hw

/-- Bytes that a text may share are marked, in a row of one's own. -/
theorem sim_freeze {a A : Addr} (h : R a.block A.block) (hs : ¬ Shd a.block) (ho : a.off = A.off) (n : Nat) : Sim P Shd (fun _ _ _ => True) R (freeze a n) (freeze A n) := by
  intro w W hw ht
  refine ⟨fun h w' e => (by cases e), fun u w' e => ?_⟩
  have e1 : ∀ (w : World) (a : Addr), (freeze a n).run P w = .ok () (w.freeze a n) := fun _ _ => rfl
  rw [e1] at e
  simp only [Result.ok.injEq] at e
  obtain ⟨_, rfl⟩ := e
  refine ⟨R, (), W.freeze A n, e1 _ _, trivial, ?_, ?_, by simp, fun τ _ => by rw [e1]; unfold World.freeze World.tp; split <;> rfl⟩
  · by_cases hn : n = 0
    · subst hn; simpa [World.freeze] using hw
    refine ⟨fun b B hbB => ?_, hw.inj, fun b hb => by simpa [World.freeze, hn] using hw.shd b hb, hw.low, by simpa [World.freeze, hn] using hw.glob⟩
    obtain ⟨o, O, h1, h2, h3⟩ := hw.dom _ _ hbB
    by_cases hb : b = a.block
    · have hB : B = A.block := (hw.inj _ _ _ _ hbB h).1 hb
      subst hb; subst hB
      cases h3 with
      | cells t h4 h5 h6 =>
        rename_i c C fz Fz
        refine ⟨_, _, by simp [World.freeze, hn, Array.getElem?_modify, h1]; rfl, by simp [World.freeze, hn, Array.getElem?_modify, h2]; rfl, .cells t h4 (fun x => ?_) fun x => absurd x hs⟩
        rw [h5 x, ho]
      | number l h4 h5 => exact ⟨_, _, by simp [World.freeze, hn, Array.getElem?_modify, h1], by simp [World.freeze, hn, Array.getElem?_modify, h2], .number l h4 h5⟩
    · have hB : B ≠ A.block := fun x => hb ((hw.inj _ _ _ _ hbB h).2 x)
      exact ⟨o, O, by simp [World.freeze, hn, Array.getElem?_modify, Ne.symm hb, h1], by simp [World.freeze, hn, Array.getElem?_modify, Ne.symm hB, h2], h3⟩
  · refine ⟨fun _ _ h => h, fun _ _ h => .inl h, ?_, ?_, fun B hB hk => ?_, ?_, ?_, ⟨0, ?_, ?_⟩, ?_, ?_, ?_⟩
    all_goals first | (simp only [World.freeze]; split <;> simp; done) | skip
    have : B ≠ A.block := fun x => hs (hk _ (x ▸ h))
    simp only [World.freeze]
    split
    · rfl
    · simp [Array.getElem?_modify, Ne.symm this]
end Go.Sim
