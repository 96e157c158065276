/-
  The simulation, operation by operation: literals, bytes of a text, arithmetic.
-/
import Derived.Test.YtlndinigbppafaaSimF
import Derived.Laws.Sem
namespace Go.Sim
variable {P : Program} {Shd : Nat → Prop} {R : BR}

/-- A piece that looks at the program alone. -/
def Free (P : Program) {α : Type} (s : Sem α) : Prop := (∀ w a w', s.run P w = .ok a w' → w' = w ∧ ∀ W, s.run P W = .ok a W) ∧ (∀ W, s.events P W #[] = #[]) ∧ Mild P s
theorem Free.sim {α : Type} {s : Sem α} (h : Free P s) : Sim P Shd (fun _ a b => a = b) R s s :=
  (Sim.free (F := fun _ => True) (fun w a w' e => ⟨(h.1 w a w' e).1, trivial, (h.1 w a w' e).2⟩) h.2.2 h.2.1).mono fun _ _ _ q => q.1
theorem Free.pure {α : Type} (a : α) : Free P (Pure.pure a : Sem α) := ⟨fun w b w' e => by cases e; exact ⟨rfl, fun _ => rfl⟩, fun _ => rfl, Mild.pure _⟩
theorem Free.bind {α β : Type} {s : Sem α} {f : α → Sem β} (h : Free P s) (k : ∀ a, Free P (f a)) : Free P (s >>= f) := by
  refine ⟨fun w b w' e => ?_, fun W => ?_, Mild.bind h.2.2 fun a => (k a).2.2⟩
  · rw [Sem.run_bind] at e
    cases hs : s.run P w with
    | halt x y => rw [hs] at e; simp [Result.andThen] at e
    | ok a w1 =>
      rw [hs] at e
      obtain ⟨rfl, h1⟩ := h.1 _ _ _ hs
      obtain ⟨rfl, h2⟩ := (k a).1 _ _ _ e
      exact ⟨rfl, fun W => by rw [Sem.run_bind, h1 W]; exact h2 W⟩
  · rw [Sem.events_bind, h.2.1]
    cases hs : s.run P W with
    | halt x y => rfl
    | ok a w1 =>
      obtain ⟨rfl, _⟩ := h.1 _ _ _ hs
      exact (k a).2.1 _
theorem Free.typeInfo (t : TypeId) : Free P (Go.typeInfo t) := by
  refine ⟨fun w a w' e => ?_, fun W => by simp, mild_typeInfo t⟩
  cases hu : P.info? t with
  | none => simp [Go.typeInfo, program, hu, Go.stuck, Bind.bind, Sem.bind, Sem.run] at e
  | some d =>
    simp [Go.typeInfo, program, hu, Bind.bind, Sem.bind, Sem.run, Pure.pure] at e
    obtain ⟨rfl, rfl⟩ := e
    exact ⟨rfl, fun W => by simp [Go.typeInfo, program, hu, Bind.bind, Sem.bind, Sem.run, Pure.pure]⟩
theorem Free.sizeOf (t : TypeId) : Free P (Go.sizeOf t) := Free.bind (Free.typeInfo t) fun _ => Free.pure _
theorem Free.mapM {α β : Type} {f : α → Sem β} (h : ∀ a, Free P (f a)) (l : Array α) : Free P (l.mapM f) := by
  rw [Array.mapM_eq_mapM_toList, map_eq_pure_bind]
  refine Free.bind ?_ fun _ => Free.pure _
  generalize l.toList = l
  induction l with
  | nil => exact Free.pure _
  | cons a l ih =>
    rw [List.mapM_cons]
    exact Free.bind (h a) fun _ => Free.bind ih fun _ => Free.pure _

theorem VRs.fold {off : Nat} : ∀ (l L : List Value) (k : Nat) {c C : Array Value}, LR P R l L → VRs P R c C →
    VRs P R ((l.zipIdx k).foldl (fun cs (p : Value × Nat) => cs.setIfInBounds (off + p.2) p.1) c) ((L.zipIdx k).foldl (fun cs (p : Value × Nat) => cs.setIfInBounds (off + p.2) p.1) C)
  | [], [], _, _, _, _, h => h
  | [], _ :: _, _, _, _, h, _ => absurd h.1 (by simp)
  | _ :: _, [], _, _, _, h, _ => absurd h.1 (by simp)
  | v :: l, V :: L, k, _, _, h, hc => by
    simp only [List.zipIdx_cons, List.foldl_cons]
    exact VRs.fold l L (k + 1) h.tail (hc.set _ h.head)

/-- The parts of a literal. -/
def PR (P : Program) (R : BR) : List (Nat × Value) → List (Nat × Value) → Prop
  | [], [] => True
  | (i, v) :: l, (j, V) :: L => i = j ∧ VR P R v V ∧ PR P R l L
  | _, _ => False
theorem PR.mono {R R' : BR} (h : ∀ b B, R b B → R' b B) : ∀ {l L : List (Nat × Value)}, PR P R l L → PR P R' l L
  | [], [], _ => trivial
  | [], _ :: _, h => h.elim
  | _ :: _, [], h => h.elim
  | (_, _) :: _, (_, _) :: _, hh => ⟨hh.1, hh.2.1.mono h, PR.mono h hh.2.2⟩

theorem fill_sim (place : Nat → Option (Nat × Nat)) : ∀ (l L : List (Nat × Value)) {c C r : Array Value}, PR P R l L → VRs P R c C → Instr.fill place c l = some r →
    ∃ r', Instr.fill place C L = some r' ∧ VRs P R r r'
  | [], [], _, _, _, _, hc, e => by cases e; exact ⟨_, rfl, hc⟩
  | [], _ :: _, _, _, _, h, _, _ => h.elim
  | _ :: _, [], _, _, _, h, _, _ => h.elim
  | (i, v) :: l, (j, V) :: L, c, C, r, h, hc, e => by
    obtain ⟨rfl, hv, ht⟩ := h
    unfold Instr.fill at e ⊢
    cases hp : place i with
    | none => simp [hp] at e
    | some os =>
      obtain ⟨off, size⟩ := os
      simp only [hp] at e ⊢
      have e1 := hv.cells.1
      have e2 := hc.1
      split at e
      · cases e
      · rename_i hn
        rw [e1, e2] at hn
        rw [if_neg hn]
        refine fill_sim place l L ht ?_ e
        have := VRs.fold (off := off) v.cells.toList V.cells.toList 0 hv.cells.toL hc
        rw [← Array.foldl_toList, ← Array.foldl_toList, Array.toList_zipIdx, Array.toList_zipIdx]
        exact this

theorem sim_build (hZ : ZeroOK P) (t : TypeId) (fs : Array Field) (ht : P.underlying t = some (.struct fs)) (hl : t < P.types.size) {l L : Array (Nat × Value)} (h : PR P R l.toList L.toList) :
    Sim P Shd (VR P) R (Instr.build t l) (Instr.build t L) := by
  refine Sim.bind (sim_zeroValue hZ t hl) fun R1 z Z s1 q1 => ?_
  refine Sim.bind (sim_underlying t) fun R2 a b s2 q => ?_
  obtain ⟨rfl, hu⟩ := q
  rw [ht] at hu
  cases hu
  refine Sim.bind (Free.sim (Free.mapM (fun f => Free.bind (Free.sizeOf _) fun _ => Free.pure _) fs)) fun R3 a b s3 q => ?_
  subst q
  cases hf : Instr.fill (fun x => a[x]?) z.cells l.toList with
  | none => exact Sim.stuck _
  | some r =>
    obtain ⟨r', e', hr⟩ := fill_sim _ l.toList L.toList (((h.mono s1).mono s2).mono s3) ((q1.mono s2).mono s3).cells hf
    simp only [e']
    exact Sim.pure (.agg hr.1 hr.2)

theorem sim_buildSlice (hZ : ZeroOK P) (t : TypeId) (hl : ∀ e, P.underlying t = some (.slice e) → e < P.types.size) (len : Nat) {l L : Array (Nat × Value)} (h : PR P R l.toList L.toList) :
    Sim P Shd (VR P) R (Instr.buildSlice t len l) (Instr.buildSlice t len L) := by
  refine Sim.bind (sim_underlying t) fun R1 a b s1 q => ?_
  obtain ⟨rfl, hu⟩ := q
  split
  · rename_i e
    refine Sim.bind (sim_sizeOf e) fun R2 n _ s2 q => ?_
    subst q
    dsimp only
    split
    · exact Sim.dead (dead_left (dead_unsupported _))
    have K : ∀ {R3 : BR} {z Z : Array Value}, (∀ x X, R2 x X → R3 x X) → VRs P R3 z Z → Sim P Shd (VR P) R3
        (do
          let some cells := Instr.fill (fun i => some (i * n, n)) ((Array.range (len * n)).map (z[· % z.size]!)) l.toList
            | stuck "buildSlice: a part of the wrong size"
          pure (.slice (some (← newRow e cells)) len len))
        (do
          let some cells := Instr.fill (fun i => some (i * n, n)) ((Array.range (len * n)).map (Z[· % Z.size]!)) L.toList
            | stuck "buildSlice: a part of the wrong size"
          pure (.slice (some (← newRow e cells)) len len)) := by
      intro R3 z Z s3 hz
      cases hf : Instr.fill (fun i => some (i * n, n)) ((Array.range (len * n)).map (z[· % z.size]!)) l.toList with
      | none => exact Sim.stuck _
      | some r =>
        obtain ⟨r', e', hr⟩ := fill_sim _ l.toList L.toList (((h.mono s1).mono s2).mono s3) (hz.cyc (len * n)) hf
        simp only [e']
        exact Sim.bind (sim_newRow e hr) fun _ _ _ _ q => Sim.pure (.slice _ _ q.1)
    split
    · exact K (fun _ _ h => h) VRs.nil
    · exact Sim.bind (sim_zeroValue hZ e (hl e hu)) fun _ _ _ s3 q => K s3 q.cells
  · exact Sim.stuck _
end Go.Sim
