/-
  The simulation, further operations: texts and bytes, slices made and copied.
-/
import Derived.Test.YtlndinigbppafaaSimY
namespace Go.Sim
variable {P : Program} {Shd : Nat → Prop} {R : BR}

theorem sim_neg {v V : Value} (h : VR P R v V) : Sim P Shd (VR P) R (Op.unary .neg v) (Op.unary .neg V) := by
  cases h <;> first | exact Sim.stuck _ | exact Sim.unsupported _ | exact Sim.pure (.int _ _)

theorem sim_bytesLoop : ∀ (l L : List Value) (s : ByteArray) {R : BR}, LR P R l L → Sim P Shd (fun _ a b => a = b) R
    (forIn l s fun c s => do
      let .int .u8 n := c | stuck "bytesToString: byte expected"
      pure (ForInStep.yield (s.push (UInt8.ofNat n.toNat))))
    (forIn L s fun c s => do
      let .int .u8 n := c | stuck "bytesToString: byte expected"
      pure (ForInStep.yield (s.push (UInt8.ofNat n.toNat))))
  | [], [], _, _, _ => Sim.pure rfl
  | [], _ :: _, _, _, h => absurd h.1 (by simp)
  | _ :: _, [], _, _, h => absurd h.1 (by simp)
  | v :: l, V :: L, s, _, h => by
    rw [List.forIn_cons, List.forIn_cons]
    have hv := h.head
    refine Sim.bind (Q := fun _ a b => ∃ s', a = ForInStep.yield s' ∧ b = ForInStep.yield s') ?_ fun R1 a b s1 q => ?_
    · cases hv <;> first | exact Sim.stuck _ | skip
      rename_i k n
      cases k <;> first | exact Sim.stuck _ | exact Sim.pure ⟨_, rfl, rfl⟩
    · obtain ⟨s', rfl, rfl⟩ := q
      exact sim_bytesLoop l L s' (h.tail.mono s1)
theorem sim_bytesToString {v V : Value} (h : VR P R v V) : Sim P Shd (VR P) R (Conv.bytesToString v) (Conv.bytesToString V) := by
  cases h <;> first | exact Sim.stuck _ | exact Sim.pure (.string _) | skip
  rename_i a A l c ha
  unfold Conv.bytesToString
  dsimp only
  refine Sim.bind (sim_loadCells l ha) fun R1 x X s1 q => ?_
  refine Sim.bind (Q := fun _ a b => a = b) ?_ fun R2 s _ s2 q => ?_
  · rw [← Array.forIn_toList, ← Array.forIn_toList]
    exact sim_bytesLoop _ _ _ q.toL
  · subst q
    exact Sim.pure (.string _)

theorem sim_markStringish (hS : ∀ b, ¬ Shd b) {a A : Addr} (h : AR R a A) : Sim P Shd (fun _ _ _ => True) R (markStringish a) (markStringish A) := by
  unfold markStringish
  refine Sim.bind (sim_shape h.1) fun R1 x _ s1 q => ?_
  subst q
  cases x with
  | none => exact Sim.pure trivial
  | some y => exact sim_freeze (a := { block := a.block, off := y.2 }) (A := { block := A.block, off := y.2 }) (s1 _ _ h.1) (hS _) rfl 1

theorem sim_sliceString (t : TypeId) (ht : P.underlying t = some .string) {v V : Value} (h : VR P R v V) {lo hi mx Lo Hi Mx : Option Value} (hl : OV P R lo Lo) (hh : OV P R hi Hi) (hm : OV P R mx Mx) :
    Sim P Shd (VR P) R (Instr.sliceAt t v lo hi mx) (Instr.sliceAt t V Lo Hi Mx) := by
  refine Sim.bind (sim_underlying t) fun R1 a b s1 q => ?_
  obtain ⟨rfl, hu⟩ := q
  rw [ht] at hu
  cases hu
  dsimp only
  refine Sim.bind (sim_underlying t) fun R2 a b s2 q => ?_
  obtain ⟨rfl, hu⟩ := q
  rw [ht] at hu
  cases hu
  have h2 := (h.mono s1).mono s2
  cases h2 <;> first | exact Sim.stuck _ | skip
  rename_i s
  dsimp only
  have hm2 : mx.isSome = Mx.isSome := by
    rcases hm with ⟨rfl, rfl⟩ | ⟨x, X, rfl, rfl, _⟩ <;> rfl
  rw [hm2]
  split
  · exact Sim.dead (dead_left (dead_stuck _))
  · refine Sim.bind (sim_sliceBounds false s.size s.size ((hl.mono s1).mono s2) ((hh.mono s1).mono s2) (.inl ⟨rfl, rfl⟩)) fun R3 x y s3 q => ?_
    subst q
    obtain ⟨l, h, m⟩ := x
    exact Sim.pure (.string _)

theorem sim_indexString (t : TypeId) (ht : P.underlying t = some .string) {v V i I : Value} (h : VR P R v V) (hi : VR P R i I) : Sim P Shd (VR P) R (Instr.index t v i) (Instr.index t V I) := by
  refine Sim.bind (sim_asIntOf hi) fun R1 x _ s1 q => ?_
  subst q
  obtain ⟨k, n⟩ := x
  dsimp only
  refine Sim.bind (sim_underlying t) fun R2 a b s2 q => ?_
  obtain ⟨rfl, hu⟩ := q
  rw [ht] at hu
  cases hu
  have h2 := (h.mono s1).mono s2
  cases h2 <;> first | exact Sim.stuck _ | skip
  dsimp only
  split
  · exact Sim.pure (.int _ _)
  · exact Sim.boundsPanic _ _ _ _

theorem sim_copy (t e t2 ty : TypeId) (ht : P.underlying t = some (.slice e)) {x X : Array Value} (h : VRs P R x X) : Sim P Shd (VR P) R (Builtin.copy_ #[t, t2] ty x) (Builtin.copy_ #[t, t2] ty X) := by
  unfold Builtin.copy_
  cases h0 : x[0]? with
  | none => exact Sim.stuck _
  | some d =>
    obtain ⟨D, hD, hd⟩ := h.get h0
    cases h1 : x[1]? with
    | none => exact Sim.stuck _
    | some y =>
      obtain ⟨Y, hY, hy⟩ := h.get h1
      rw [hD, hY]
      show Sim P Shd (VR P) R (underlying t >>= _) (underlying t >>= _)
      refine Sim.bind (sim_underlying t) fun R1 a b s1 q => ?_
      obtain ⟨rfl, hu⟩ := q
      rw [ht] at hu
      cases hu
      have hd := hd.mono s1
      have hy := hy.mono s1
      have K : ∀ {b B : Option Addr} (l : Nat), ((b = none ∧ B = none) ∨ ∃ x X, b = some x ∧ B = some X ∧ AR R1 x X) → Sim P Shd (VR P) R1
          (do
            let n := Nat.min (← Builtin.lenOf y) l
            let cells ← Builtin.firstCells (← sizeOf e) n y
            if let some a := b then storeCells a cells.toList
            pure (goInt n))
          (do
            let n := Nat.min (← Builtin.lenOf Y) l
            let cells ← Builtin.firstCells (← sizeOf e) n Y
            if let some a := B then storeCells a cells.toList
            pure (goInt n)) := by
        intro b B l hb
        refine Sim.bind (sim_lenOf hy) fun R2 n _ s2 q => ?_
        subst q
        refine Sim.bind (sim_sizeOf e) fun R3 sz _ s3 q => ?_
        subst q
        refine Sim.bind (sim_firstCells sz _ ((hy.mono s2).mono s3)) fun R4 c C s4 q => ?_
        rcases hb with ⟨rfl, rfl⟩ | ⟨x, X, rfl, rfl, hx⟩
        · exact Sim.pure (.int _ _)
        · exact Sim.bind (sim_storeCells _ _ 0 (((hx.mono s2).mono s3).mono s4) q.toL) fun _ _ _ _ _ => Sim.pure (.int _ _)
      cases hd with
      | nilSlice l c => exact K l (.inl ⟨rfl, rfl⟩)
      | slice l c ha => exact K l (.inr ⟨_, _, rfl, rfl, ha⟩)
      | _ => exact Sim.stuck _

theorem sim_makeSlice (hZ : ZeroOK P) (t e : TypeId) (ht : P.underlying t = some (.slice e)) (he : e < P.types.size) {l L c C : Value} (hl : VR P R l L) (hc : VR P R c C) : Sim P Shd (VR P) R (Instr.makeSlice t l c) (Instr.makeSlice t L C) := by
  unfold Instr.makeSlice
  refine Sim.bind (sim_underlying t) fun R1 a b s1 q => ?_
  obtain ⟨rfl, hu⟩ := q
  rw [ht] at hu
  cases hu
  refine Sim.bind (sim_asInt (hl.mono s1)) fun R2 n _ s2 q => ?_
  subst q
  refine Sim.bind (sim_asInt ((hc.mono s1).mono s2)) fun R3 m _ s3 q => ?_
  subst q
  refine Sim.bind (sim_typeInfo e) fun R4 i _ s4 q => ?_
  obtain ⟨rfl, _⟩ := q
  dsimp only
  split
  · split
    · exact Sim.dead (dead_left (dead_runtimePanic _))
    · split
      · exact Sim.dead (dead_left (dead_runtimePanic _))
      · exact Sim.dead (dead_bind (mild_choose _) fun _ => dead_left (dead_runtimePanic _))
  · refine Sim.bind (sim_askRoom _) fun R5 _ _ s5 _ => ?_
    refine Sim.bind (sim_sizeOf e) fun R6 z _ s6 q => ?_
    subst q
    have K : ∀ {R7 : BR} {z Z : Array Value} (k : Nat), VRs P R7 z Z → Sim P Shd (VR P) R7
        (do let a ← newRow e ((Array.range k).map (z[· % z.size]!)); pure (.slice (some a) (IntKind.i64.wrap n).toNat (IntKind.i64.wrap m).toNat))
        (do let a ← newRow e ((Array.range k).map (Z[· % Z.size]!)); pure (.slice (some a) (IntKind.i64.wrap n).toNat (IntKind.i64.wrap m).toNat)) :=
      fun k hz => Sim.bind (sim_newRow e (hz.cyc k)) fun _ _ _ _ q => Sim.pure (.slice _ _ q.1)
    split
    · exact Sim.bind (Q := fun R' a b => VRs P R' a b) (Sim.pure VRs.nil) fun _ _ _ _ q => K _ q
    · exact Sim.bind (sim_zeroValue hZ e he) fun _ _ _ _ q => K _ q.cells

theorem sim_variablesAt {a A : Addr} (h : AR R a A) (u : TypeId) (n : Nat) : Sim P Shd (fun _ a b => a = b) R (variablesAt a u n) (variablesAt A u n) := by
  unfold variablesAt
  refine Sim.bind sim_program fun R1 p p' s1 q => ?_
  obtain ⟨rfl, rfl⟩ := q
  refine Sim.bind (sim_shape (s1 _ _ h.1)) fun R2 x _ s2 q => ?_
  subst q
  rw [h.2.1]
  split
  · exact Sim.pure rfl
  · exact Sim.pure rfl
theorem sim_loadBytes : ∀ (n : Nat) (acc : ByteArray) {R : BR} {a A : Addr}, AR R a A → Sim P Shd (fun _ a b => a = b) R (loadBytes a acc n) (loadBytes A acc n)
  | 0, _, _, _, _, _ => Sim.pure rfl
  | n + 1, acc, _, a, A, h => by
    refine Sim.bind (sim_load h) fun R1 v V s1 q => ?_
    cases q <;> first | exact Sim.stuck _ | skip
    rename_i k m
    cases k <;> first | exact Sim.stuck _ | exact sim_loadBytes n _ ((h.mono s1).add 1)
theorem sim_elemOf (t : TypeId) : Sim P Shd (fun _ a b => a = b) R (elemOf t) (elemOf t) := by
  refine Sim.bind (sim_underlying t) fun R1 a b s1 q => ?_
  obtain ⟨rfl, _⟩ := q
  split
  · exact Sim.pure rfl
  · exact Sim.stuck _

theorem sim_unsafeString (hS : ∀ b, ¬ Shd b) (t t2 ty : TypeId) {p p' n n' : Value} (hp : VR P R p p') (hn : VR P R n n') : Sim P Shd (VR P) R (Builtin.unsafeString_ #[t, t2] ty #[p, n]) (Builtin.unsafeString_ #[t, t2] ty #[p', n']) := by
  cases hp <;> first | exact Sim.stuck _ | skip
  · refine Sim.bind (sim_asInt hn) fun R1 m _ s1 q => ?_
    subst q
    split
    · dsimp only
      split
      · exact Sim.dead (dead_left (dead_runtimePanic _))
      · split
        · exact Sim.dead (dead_left (dead_unsupported _))
        · split
          · exact Sim.pure (.string _)
          · exact Sim.runtimePanic _
    · exact Sim.stuck _
  · rename_i a A ha
    refine Sim.bind (sim_asInt hn) fun R1 m _ s1 q => ?_
    subst q
    split
    · dsimp only
      split
      · exact Sim.dead (dead_left (dead_runtimePanic _))
      split
      · exact Sim.dead (dead_left (dead_unsupported _))
      · split
        · exact Sim.pure (.string _)
        · refine Sim.bind (sim_elemOf _) fun R2 e _ s2 q => ?_
          subst q
          have ha2 := (ha.mono s1).mono s2
          refine Sim.bind (sim_variablesAt ha2 e _) fun R3 x _ s3 q => ?_
          subst q
          split
          · refine Sim.bind (sim_loadBytes _ _ (ha2.mono s3)) fun R4 b _ s4 q => ?_
            subst q
            exact Sim.bind (sim_freeze (s4 _ _ (s3 _ _ ha2.1)) (hS _) ha2.2.1 _) fun _ _ _ _ _ => Sim.pure (.string _)
          · exact Sim.unsupported _
    · exact Sim.stuck _
end Go.Sim
