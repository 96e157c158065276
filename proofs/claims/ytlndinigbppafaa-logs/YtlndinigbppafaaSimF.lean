/-
  The simulation, operation by operation: append, struct and slice literals.
-/
import Derived.Test.YtlndinigbppafaaSimE
namespace Go.Sim
variable {P : Program} {Shd : Nat → Prop} {R : BR}

theorem sim_askRoom (n : Nat) : Sim P Shd (fun _ _ _ => True) R (askRoom n) (askRoom n) := by
  unfold askRoom
  split
  · intro w W hw ht
    refine ⟨fun h w' e => (by cases e), fun a w' e => ?_⟩
    cases e
    refine ⟨R, (), W, rfl, trivial, hw, EX.refl _ _ _ _, fun e he => ?_, fun τ _ => rfl⟩
    rw [events_mark] at he
    simp at he
    subst he
    exact .inl rfl
  · exact Sim.pure trivial

theorem VR.default : VR P R (default : Value) default := .bool _
theorem VRs.cyc {x X : Array Value} (h : VRs P R x X) (n : Nat) : VRs P R ((Array.range n).map fun i => x[i % x.size]!) ((Array.range n).map fun i => X[i % X.size]!) := by
  refine ⟨by simp, fun i v V h1 h2 => ?_⟩
  simp only [Array.getElem?_map, Array.getElem?_range] at h1 h2
  split at h1
  · rename_i hi
    rw [if_pos hi] at h2
    simp only [Option.map_some, Option.some.injEq] at h1 h2
    subst h1; subst h2
    have e := h.1
    by_cases hx : i % x.size < x.size
    · have hX : i % X.size < X.size := by rw [← e]; exact hx
      rw [getElem!_pos x _ hx, getElem!_pos X _ hX]
      refine h.2 (i % x.size) _ _ (Array.getElem?_eq_getElem hx) ?_
      rw [Array.getElem?_eq_getElem (by rw [← e]; exact hx)]
      simp [e]
    · have hX : ¬ i % X.size < X.size := by rw [← e]; exact hx
      rw [getElem!_neg x _ hx, getElem!_neg X _ hX]
      exact VR.default
  · cases h1
theorem VRs.zeroCells {x X : Array Value} (h : VRs P R x X) (n : Nat) : VRs P R (Builtin.zeroCells x n) (Builtin.zeroCells X n) := by
  unfold Builtin.zeroCells
  rw [← h.1]
  have := h.cyc (n * x.size)
  rw [← h.1] at this
  exact this

theorem VRs.ints (l : Array UInt8) : VRs P R (l.map fun b => .int .u8 b.toNat) (l.map fun b => .int .u8 b.toNat) := by
  refine ⟨rfl, fun i v V h1 h2 => ?_⟩
  rw [h1] at h2
  cases h2
  simp only [Array.getElem?_map, Option.map_eq_some_iff] at h1
  obtain ⟨b, _, rfl⟩ := h1
  exact .int _ _

theorem sim_lenOf {v V : Value} (h : VR P R v V) : Sim P Shd (fun _ a b => a = b) R (Builtin.lenOf v) (Builtin.lenOf V) := by
  cases h <;> first | exact Sim.pure rfl | exact Sim.stuck _
theorem sim_firstCells (size n : Nat) {v V : Value} (h : VR P R v V) : Sim P Shd (VRs P) R (Builtin.firstCells size n v) (Builtin.firstCells size n V) := by
  cases h <;> first
    | exact Sim.stuck _
    | exact Sim.pure VRs.nil
    | exact Sim.pure (VRs.ints _)
    | (rename_i ha; exact sim_loadCells _ ha)

theorem mild_holdsCells (a : Addr) (n : Nat) : Mild P (Builtin.holdsCells a n) := Mild.bind (mild_shape _) fun x => by split <;> exact Mild.pure _
theorem mild_mayShare (size l n : Nat) (b : Option Addr) (x : Value) : Mild P (Builtin.mayShare size l n b x) := by
  unfold Builtin.mayShare
  have K : ∀ t : Bool, Mild P (if (!t) = true then (pure true : Sem Bool) else match x with
      | .slice (some b') _ _ => do pure (!(← Builtin.holdsCells b' (n * size)) || b.any (·.block == b'.block))
      | _ => pure false) := by
    intro t
    split
    · exact Mild.pure _
    · split
      · exact Mild.bind (mild_holdsCells _ _) fun _ => Mild.pure _
      · exact Mild.pure _
  cases b with
  | none => exact K true
  | some a => exact Mild.bind (mild_holdsCells _ _) fun _ => Mild.bind (mild_frozen _) fun _ => K _

/-- What is appended. -/
def apNew (e : TypeId) (size n : Nat) (zeros : Bool) (x : Value) : Sem (Array Value) :=
  if !zeros then Builtin.firstCells size n x
  else if n * size = 0 then pure #[]
  else do pure (Builtin.zeroCells (← zeroValue e).cells n)
theorem sim_apNew (hZ : ZeroOK P) (e : TypeId) (he : e < P.types.size) (size n : Nat) (z : Bool) {v V : Value} (h : VR P R v V) : Sim P Shd (VRs P) R (apNew e size n z v) (apNew e size n z V) := by
  unfold apNew
  split
  · exact sim_firstCells _ _ h
  · split
    · exact Sim.pure VRs.nil
    · exact Sim.bind (sim_zeroValue hZ e he) fun _ _ _ _ q => Sim.pure (q.cells.zeroCells n)

/-- append, behind the reckoning of how many. -/
def apTail (e : TypeId) (size sLen sCap n : Nat) (zeros : Bool) (base : Option Addr) (s x : Value) : Sem Value := do
  if sLen + n ≤ sCap then
    let new ← apNew e size n zeros x
    if let some a := base then storeCells (a.add (sLen * size)) new.toList
    pure (.slice base (sLen + n) sCap)
  else
    if ((sLen + n : Nat) : Int) > IntKind.i64.max ∧ (zeros ∨ (← typeInfo e).bytes = 0) then runtimePanic (.error "growslice: len out of range")
    if Builtin.nextslicecap (sLen + n) sCap * (← typeInfo e).bytes > 2 ^ 48 then (if zeros then runtimePanic (.error "growslice: len out of range") else do
      if !(← Builtin.mayShare size sLen n base x) then mark .noRoom
      unsupported (.resourceLimit "append: a slice or a string whose bytes no memory bears"))
    let newCap ← choose (.appendCap (sLen + n) sCap e)
    askRoom (newCap * (← typeInfo e).bytes)
    let old ← Builtin.firstCells size sLen s
    let new ← apNew e size n zeros x
    let rest := Builtin.zeroCells (← zeroValue e).cells (newCap - (sLen + n))
    pure (.slice (some (← newRow e (old ++ new ++ rest))) (sLen + n) newCap)

theorem sim_apTail (hZ : ZeroOK P) (e : TypeId) (he : e < P.types.size) (size sLen sCap n : Nat) (z : Bool) {b B : Option Addr} {v V y Y : Value} (hb : (b = none ∧ B = none) ∨ ∃ x X, b = some x ∧ B = some X ∧ AR R x X)
    (h : VR P R v V) (hy : VR P R y Y) : Sim P Shd (VR P) R (apTail e size sLen sCap n z b v y) (apTail e size sLen sCap n z B V Y) := by
  unfold apTail
  split
  · refine Sim.bind (sim_apNew hZ e he size n z hy) fun R1 x X s1 q => ?_
    rcases hb with ⟨rfl, rfl⟩ | ⟨a, A, rfl, rfl, ha⟩
    · exact Sim.pure (.nilSlice _ _)
    · exact Sim.bind (sim_storeCells _ _ 0 ((ha.mono s1).add _) q.toL) fun _ _ _ s2 _ => Sim.pure (.slice _ _ ((ha.mono s1).mono s2))
  · refine Sim.bind (sim_typeInfo e) fun R1 a a' s1 q => ?_
    obtain ⟨rfl, hi⟩ := q
    dsimp only
    split
    · exact Sim.dead (dead_left (dead_runtimePanic _))
    refine Sim.bind (sim_typeInfo e) fun R2 a a' s2 q => ?_
    obtain ⟨rfl, hi⟩ := q
    split
    · cases z
      · refine Sim.dead (dead_left (dead_bind (mild_mayShare _ _ _ _ _) fun _ => ?_))
        split
        · exact dead_bind (mild_mark _) fun _ => dead_unsupported _
        · exact dead_unsupported _
      · refine Sim.dead (dead_left ?_)
        rw [if_pos rfl]
        exact dead_runtimePanic _
    refine Sim.bind (sim_choose _) fun R3 nc nc' s3 q => ?_
    subst q
    refine Sim.bind (sim_typeInfo e) fun R4 a a' s4 q => ?_
    obtain ⟨rfl, hi⟩ := q
    refine Sim.bind (sim_askRoom _) fun R5 _ _ s5 _ => ?_
    refine Sim.bind (sim_firstCells size sLen (((((h.mono s1).mono s2).mono s3).mono s4).mono s5)) fun R6 o O s6 q6 => ?_
    refine Sim.bind (sim_apNew hZ e he size n z ((((((hy.mono s1).mono s2).mono s3).mono s4).mono s5).mono s6)) fun R7 u U s7 q7 => ?_
    refine Sim.bind (sim_zeroValue hZ e he) fun R8 k K s8 q8 => ?_
    exact Sim.bind (sim_newRow e (((((q6.mono s7).append q7).mono s8)).append (q8.cells.zeroCells _))) fun _ _ _ _ q => Sim.pure (.slice _ _ q.1)

theorem sim_append (hZ : ZeroOK P) (t t2 e ty : TypeId) (ht : P.underlying t = some (.slice e)) (he : e < P.types.size) {x X : Array Value} (h : VRs P R x X) :
    Sim P Shd (VR P) R (Builtin.append_ #[t, t2] ty x) (Builtin.append_ #[t, t2] ty X) := by
  unfold Builtin.append_
  cases hx0 : x[0]? with
  | none => exact Sim.stuck _
  | some s =>
  obtain ⟨S, hS, hs⟩ := h.get hx0
  cases hx1 : x[1]? with
  | none => exact Sim.stuck _
  | some y =>
  obtain ⟨Y, hY, hy⟩ := h.get hx1
  simp only [hS, hY]
  refine Sim.bind (sim_underlying t) fun R1 a b s1 q => ?_
  obtain ⟨rfl, hu⟩ := q
  rw [ht] at hu
  cases hu
  have hs1 := hs.mono s1
  have hy1 := hy.mono s1
  have K : ∀ (b B : Option Addr) (l c : Nat) (s S : Value), VR P R1 s S → ((b = none ∧ B = none) ∨ ∃ x X, b = some x ∧ B = some X ∧ AR R1 x X) → Sim P Shd (VR P) R1
      (do
        let size ← sizeOf e
        let zeros ← do pure ((← underlying t2) matches .int _)
        let n ← if zeros then do
            let l := IntKind.i64.wrap (← asInt y)
            if l < 0 then runtimePanic (.error "makeslice: len out of range")
            if l * (← typeInfo e).bytes > 2 ^ 48 then
              let made ← choose (.extern "append.ofMake.carriedOut" 2)
              runtimePanic (.error (if made == 1 then "makeslice: len out of range" else "growslice: len out of range"))
            pure l.toNat
          else Builtin.lenOf y
        apTail e size l c n zeros b s y)
      (do
        let size ← sizeOf e
        let zeros ← do pure ((← underlying t2) matches .int _)
        let n ← if zeros then do
            let l := IntKind.i64.wrap (← asInt Y)
            if l < 0 then runtimePanic (.error "makeslice: len out of range")
            if l * (← typeInfo e).bytes > 2 ^ 48 then
              let made ← choose (.extern "append.ofMake.carriedOut" 2)
              runtimePanic (.error (if made == 1 then "makeslice: len out of range" else "growslice: len out of range"))
            pure l.toNat
          else Builtin.lenOf Y
        apTail e size l c n zeros B S Y) := by
    intro b B l c s S hs hb
    refine Sim.bind (sim_sizeOf e) fun R2 size _ s2 q => ?_
    subst q
    refine Sim.bind (sim_underlying t2) fun R3 d _ s3 q => ?_
    obtain ⟨rfl, hd⟩ := q
    have hs3 := (hs.mono s2).mono s3
    have hy3 := (hy1.mono s2).mono s3
    have hb3 : (b = none ∧ B = none) ∨ ∃ x X, b = some x ∧ B = some X ∧ AR R3 x X := hb.imp id fun ⟨x, X, e1, e2, h⟩ => ⟨x, X, e1, e2, (h.mono s2).mono s3⟩
    have T : ∀ {R4 : BR} (s4 : ∀ x X, R3 x X → R4 x X) (n : Nat) (z : Bool), Sim P Shd (VR P) R4 (apTail e size l c n z b s y) (apTail e size l c n z B S Y) := fun s4 n z =>
      sim_apTail hZ e he size l c n z (hb3.imp id fun ⟨x, X, e1, e2, h⟩ => ⟨x, X, e1, e2, h.mono s4⟩) (hs3.mono s4) (hy3.mono s4)
    cases d with
    | int k =>
      refine Sim.bind (Q := fun _ a b => a = true ∧ b = true) (Sim.pure ⟨rfl, rfl⟩) fun R3' z z' s3' q => ?_
      obtain ⟨rfl, rfl⟩ := q
      refine Sim.bind (sim_asInt (hy3.mono s3')) fun R4 i _ s4 q => ?_
      subst q
      dsimp only
      split
      · exact Sim.dead (dead_left (dead_runtimePanic _))
      refine Sim.bind (sim_typeInfo e) fun R5 a a' s5 q => ?_
      obtain ⟨rfl, hi⟩ := q
      split
      · exact Sim.dead (dead_bind (mild_choose _) fun _ => dead_left (dead_runtimePanic _))
      exact T (fun x X h => s5 _ _ (s4 _ _ (s3' _ _ h))) _ true
    | _ =>
      refine Sim.bind (Q := fun _ a b => a = false ∧ b = false) (Sim.pure ⟨rfl, rfl⟩) fun R3' z z' s3' q => ?_
      obtain ⟨rfl, rfl⟩ := q
      exact Sim.bind (sim_lenOf (hy3.mono s3')) fun R4 n n' s4 q => by subst q; exact T (fun x X h => s4 _ _ (s3' _ _ h)) n false
  cases hs1 with
  | nilSlice l c => exact K none none l c _ _ (.nilSlice _ _) (.inl ⟨rfl, rfl⟩)
  | slice l c ha => exact K _ _ l c _ _ (.slice _ _ ha) (.inr ⟨_, _, rfl, rfl, ha⟩)
  | _ => exact Sim.stuck _
end Go.Sim
