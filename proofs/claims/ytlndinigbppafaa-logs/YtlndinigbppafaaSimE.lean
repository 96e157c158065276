/-
  The simulation, operation by operation: slices, arithmetic, conversions, what builds a value.
-/
import Derived.Test.YtlndinigbppafaaSimD
namespace Go.Sim
variable {P : Program} {Shd : Nat → Prop} {R : BR}

def OV (P : Program) (R : BR) (o O : Option Value) : Prop := (o = none ∧ O = none) ∨ ∃ v V, o = some v ∧ O = some V ∧ VR P R v V
theorem OV.mono {R R' : BR} (h : ∀ b B, R b B → R' b B) {o O : Option Value} (hv : OV P R o O) : OV P R' o O := by
  rcases hv with hv | ⟨v, V, h1, h2, h3⟩
  · exact .inl hv
  · exact .inr ⟨v, V, h1, h2, h3.mono h⟩

theorem sim_sliceBound {x X : Value} (h : VR P R x X) (y : Nat) (c : BoundsCode) : Sim P Shd (fun _ a b => a = b) R (Instr.sliceBound x y c) (Instr.sliceBound X y c) := by
  refine Sim.bind (sim_asIntOf h) fun R1 a b s1 q => ?_
  subst q
  obtain ⟨k, i⟩ := a
  dsimp only
  split
  · exact Sim.pure rfl
  · exact Sim.boundsPanic _ _ _ _

theorem sim_sliceBounds (b : Bool) (len cap : Nat) {l h m L H M : Option Value} (hl : OV P R l L) (hh : OV P R h H) (hm : OV P R m M) :
    Sim P Shd (fun _ a b => a = b) R (Instr.sliceBounds b len cap l h m) (Instr.sliceBounds b len cap L H M) := by
  have E : ∀ {R : BR} {o O : Option Value} {f : Value → Sem Nat} {g : Sem Nat}, OV P R o O → (∀ v V, VR P R v V → Sim P Shd (fun _ a b => a = b) R (f v) (f V)) → Sim P Shd (fun _ a b => a = b) R g g →
      Sim P Shd (fun _ a b => a = b) R (match o with | some v => f v | none => g) (match O with | some v => f v | none => g) := by
    intro R o O f g ho hf hg
    rcases ho with ⟨rfl, rfl⟩ | ⟨v, V, rfl, rfl, hv⟩
    · exact hg
    · exact hf _ _ hv
  unfold Instr.sliceBounds
  rcases hm with ⟨rfl, rfl⟩ | ⟨m, M, rfl, rfl, hm⟩
  · refine Sim.bind (Q := fun _ a b => a = b) (Sim.pure rfl) fun R1 m m' s1 q => ?_
    subst q
    have tail : ∀ {R2 : BR} (s2 : ∀ x X, R1 x X → R2 x X) (y : Nat), Sim P Shd (fun _ (a b : Nat × Nat × Nat) => a = b) R2
        ((match l with | some v => Instr.sliceBound v y .sliceB | none => pure 0) >>= fun l => pure (l, y, m))
        ((match L with | some v => Instr.sliceBound v y .sliceB | none => pure 0) >>= fun l => pure (l, y, m)) := fun s2 y =>
      Sim.bind (E (f := fun v => Instr.sliceBound v y .sliceB) (g := pure 0) ((hl.mono s1).mono s2) (fun _ _ hv => sim_sliceBound hv _ _) (Sim.pure rfl)) fun _ _ _ _ q => Sim.pure (by rw [q])
    rcases hh with ⟨rfl, rfl⟩ | ⟨h, H, rfl, rfl, hh⟩
    · have := tail (fun _ _ h => h) len
      rcases hl with ⟨rfl, rfl⟩ | ⟨l, L, rfl, rfl, hl⟩ <;> exact this
    · refine Sim.bind (sim_sliceBound (hh.mono s1) _ _) fun R2 y y' s2 q => ?_
      subst q
      have := tail s2 y
      rcases hl with ⟨rfl, rfl⟩ | ⟨l, L, rfl, rfl, hl⟩ <;> exact this
  · refine Sim.bind (sim_sliceBound hm _ _) fun R1 m m' s1 q => ?_
    subst q
    rcases hh with ⟨rfl, rfl⟩ | ⟨h, H, rfl, rfl, hh⟩
    · exact Sim.dead (dead_left (dead_stuck _))
    · refine Sim.bind (sim_sliceBound (hh.mono s1) _ _) fun R2 y y' s2 q => ?_
      subst q
      have := Sim.bind (Q' := fun _ (a b : Nat × Nat × Nat) => a = b) (E ((hl.mono s1).mono s2) (f := fun v => Instr.sliceBound v y .slice3C) (g := pure 0) (fun _ _ hv => sim_sliceBound hv _ _) (Sim.pure rfl)) (f := fun l => pure (l, y, m)) (F := fun l => pure (l, y, m)) fun _ _ _ _ q => Sim.pure (by rw [q])
      rcases hl with ⟨rfl, rfl⟩ | ⟨l, L, rfl, rfl, hl⟩ <;> exact this

theorem VR.sliceOf {a A : Option Addr} {l c : Nat} (h : (a = none ∧ A = none) ∨ ∃ x X, a = some x ∧ A = some X ∧ AR R x X) : VR P R (.slice a l c) (.slice A l c) := by
  rcases h with ⟨rfl, rfl⟩ | ⟨x, X, rfl, rfl, h⟩
  · exact .nilSlice _ _
  · exact .slice _ _ h

/-- 'x[lo:hi:max]' of a slice. -/
theorem sim_sliceAt (t e : TypeId) (ht : P.underlying t = some (.slice e)) {v V : Value} (h : VR P R v V) {lo hi mx Lo Hi Mx : Option Value} (hl : OV P R lo Lo) (hh : OV P R hi Hi) (hm : OV P R mx Mx) :
    Sim P Shd (VR P) R (Instr.sliceAt t v lo hi mx) (Instr.sliceAt t V Lo Hi Mx) := by
  refine Sim.bind (sim_underlying t) fun R1 a b s1 q => ?_
  obtain ⟨rfl, hu⟩ := q
  rw [ht] at hu
  cases hu
  dsimp only
  refine Sim.bind (sim_underlying t) fun R2 a b s2 q => ?_
  obtain ⟨rfl, hu⟩ := q
  rw [ht] at hu
  cases hu
  have h2 := (h.mono s1).mono s2
  have K : ∀ (a A : Option Addr) (len cap : Nat), ((a = none ∧ A = none) ∨ ∃ x X, a = some x ∧ A = some X ∧ AR R2 x X) → Sim P Shd (VR P) R2
      (do
        let (l, h, m) ← Instr.sliceBounds true len cap lo hi mx
        let size ← sizeOf e
        pure (.slice (if m = l then a else a.map (·.add (l * size))) (h - l) (m - l)))
      (do
        let (l, h, m) ← Instr.sliceBounds true len cap Lo Hi Mx
        let size ← sizeOf e
        pure (.slice (if m = l then A else A.map (·.add (l * size))) (h - l) (m - l))) := by
    intro a A len cap ha
    refine Sim.bind (sim_sliceBounds true len cap ((hl.mono s1).mono s2) ((hh.mono s1).mono s2) ((hm.mono s1).mono s2)) fun R3 x y s3 q => ?_
    subst q
    obtain ⟨l, h, m⟩ := x
    dsimp only
    refine Sim.bind (sim_sizeOf e) fun R4 n m' s4 q => ?_
    subst q
    refine Sim.pure (VR.sliceOf ?_)
    rcases ha with ⟨rfl, rfl⟩ | ⟨x, X, rfl, rfl, hx⟩
    · split <;> exact .inl ⟨rfl, rfl⟩
    · split
      · exact .inr ⟨_, _, rfl, rfl, (hx.mono s3).mono s4⟩
      · exact .inr ⟨_, _, rfl, rfl, ((hx.mono s3).mono s4).add _⟩
  cases h2 with
  | nilSlice l c => exact K _ _ l c (.inl ⟨rfl, rfl⟩)
  | slice l c ha => exact K _ _ l c (.inr ⟨_, _, rfl, rfl, ha⟩)
  | _ => exact Sim.stuck _

theorem sim_len (t e ty : TypeId) (ht : P.underlying t = some (.slice e)) {x X : Array Value} (h : VRs P R x X) : Sim P Shd (VR P) R (Builtin.len_ #[t] ty x) (Builtin.len_ #[t] ty X) := by
  unfold Builtin.len_
  cases hx : x[0]? with
  | none => exact Sim.stuck _
  | some v =>
    obtain ⟨V, hV, hr⟩ := h.get hx
    simp only [hV]
    refine Sim.bind (sim_underlying t) fun R1 a b s1 q => ?_
    obtain ⟨rfl, hu⟩ := q
    rw [ht] at hu
    cases hu
    cases hr <;> first | exact Sim.pure (.int _ _) | exact Sim.stuck _
theorem sim_lenString (t ty : TypeId) (ht : P.underlying t = some .string) {x X : Array Value} (h : VRs P R x X) : Sim P Shd (VR P) R (Builtin.len_ #[t] ty x) (Builtin.len_ #[t] ty X) := by
  unfold Builtin.len_
  cases hx : x[0]? with
  | none => exact Sim.stuck _
  | some v =>
    obtain ⟨V, hV, hr⟩ := h.get hx
    simp only [hV]
    refine Sim.bind (sim_underlying t) fun R1 a b s1 q => ?_
    obtain ⟨rfl, hu⟩ := q
    rw [ht] at hu
    cases hu
    cases hr <;> first | exact Sim.pure (.int _ _) | exact Sim.stuck _
theorem sim_cap (t e ty : TypeId) (ht : P.underlying t = some (.slice e)) {x X : Array Value} (h : VRs P R x X) : Sim P Shd (VR P) R (Builtin.cap_ #[t] ty x) (Builtin.cap_ #[t] ty X) := by
  unfold Builtin.cap_
  cases hx : x[0]? with
  | none => exact Sim.stuck _
  | some v =>
    obtain ⟨V, hV, hr⟩ := h.get hx
    simp only [hV]
    refine Sim.bind (sim_underlying t) fun R1 a b s1 q => ?_
    obtain ⟨rfl, hu⟩ := q
    rw [ht] at hu
    cases hu
    cases hr <;> first | exact Sim.pure (.int _ _) | exact Sim.stuck _

theorem sim_makeInterface (t : TypeId) (ht : t < P.types.size) {v V : Value} (h : VR P R v V) : Sim P Shd (VR P) R (Instr.makeInterface t v) (Instr.makeInterface t V) := by
  refine Sim.bind (sim_underlying t) fun R1 a b s1 q => ?_
  obtain ⟨rfl, hu⟩ := q
  split
  · exact Sim.stuck _
  · exact Sim.pure (.iface t ht (h.mono s1))
theorem sim_makeFunc (f : Fn) (hf : FnOK P f) {x X y Y : Array Value} (h : VRs P R x X) (k : VRs P R y Y) : Sim P Shd (VR P) R (Instr.makeFunc f x y) (Instr.makeFunc f X Y) :=
  Sim.pure (.func f hf h.1 h.2 k.1 k.2)
theorem sim_not {v V : Value} (h : VR P R v V) : Sim P Shd (VR P) R (Op.unary .not v) (Op.unary .not V) := by
  cases h <;> first | exact Sim.pure (.bool _) | exact Sim.stuck _
theorem sim_extract (i : Nat) {v V : Value} (h : VR P R v V) : Sim P Shd (VR P) R (Instr.extract v i) (Instr.extract V i) := by
  cases h with
  | tuple h1 h2 =>
    rename_i x X
    unfold Instr.extract
    cases hx : x[i]? with
    | none => simp only [hx]; exact Sim.stuck _
    | some v =>
      obtain ⟨V, hV, hr⟩ := VRs.get ⟨h1, h2⟩ hx
      simp only [hx, hV]
      exact Sim.pure hr
  | _ => exact Sim.stuck _
end Go.Sim
