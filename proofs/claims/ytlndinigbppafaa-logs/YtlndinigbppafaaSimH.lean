/-
  The simulation, operation by operation: bytes of a text, numbers, arithmetic and comparisons.
-/
import Derived.Test.YtlndinigbppafaaSimG
namespace Go.Sim
variable {P : Program} {Shd : Nat → Prop} {R : BR}

theorem sim_stringToBytes (e : TypeId) (s : ByteArray) : Sim P Shd (VR P) R (Conv.stringToBytes e s) (Conv.stringToBytes e s) := by
  refine Sim.bind (sim_choose _) fun R1 c _ s1 q => ?_
  subst q
  refine Sim.bind (sim_newRow e ((VRs.ints s.data).append (VRs.rep _ (.int _ _)))) fun R2 a A s2 q => ?_
  obtain ⟨ha, hn, _⟩ := q
  unfold markStringish
  refine Sim.bind (Q := fun _ _ _ => True) ?_ fun R3 _ _ s3 _ => Sim.pure (.slice _ _ (ha.mono s3))
  refine Sim.bind (sim_shape ha.1) fun R3 x _ s3 q => ?_
  subst q
  cases x with
  | none => exact Sim.pure trivial
  | some y => exact sim_freeze (a := { block := a.block, off := y.2 }) (A := { block := A.block, off := y.2 }) (s3 _ _ ha.1) hn rfl 1

theorem sim_viewAt {r r' : Nat} (h : R r r') : Sim P Shd (fun _ a b => a = none ∧ b = none) R (viewAt r) (viewAt r') := by
  refine Sim.bind (sim_shape h) fun R1 x _ s1 q => ?_
  subst q
  cases x with
  | some y => exact Sim.pure ⟨rfl, rfl⟩
  | none =>
    refine Sim.bind (sim_getObj (s1 _ _ h)) fun R2 o O s2 q => ?_
    obtain ⟨a, A, l, rfl, rfl, _⟩ := q
    exact Sim.pure ⟨rfl, rfl⟩
theorem sim_behindNumber {n N : Addr} (h : AR R n N) : Sim P Shd (fun R' x X => AR R' x.1 X.1 ∧ x.2 = X.2) R (behindNumber n) (behindNumber N) := by
  unfold behindNumber
  refine Sim.bind (Q := fun R' o O => (o = none ∧ O = none ∧ ∀ b B, R b B → R' b B) ∨ ∃ a A l, o = some (a, l) ∧ O = some (A, l) ∧ AR R' a A) ?_ fun R1 o O s1 q => ?_
  · unfold numberAt
    refine Sim.bind (sim_shape h.1) fun R1 x _ s1 q => ?_
    subst q
    cases x with
    | some y => exact Sim.pure (.inl ⟨rfl, rfl, s1⟩)
    | none =>
      refine Sim.bind (sim_getObj (s1 _ _ h.1)) fun R2 o O s2 q => ?_
      obtain ⟨a, A, l, rfl, rfl, ha⟩ := q
      exact Sim.pure (.inr ⟨a, A, l, rfl, rfl, ha⟩)
  · rcases q with ⟨rfl, rfl, _⟩ | ⟨a, A, l, rfl, rfl, ha⟩
    · exact Sim.pure ⟨h.mono s1, rfl⟩
    · exact Sim.pure ⟨ha, rfl⟩
theorem sim_unsafeAdd (t : TypeId) {a A : Addr} {y Y : Value} (h : AR R a A) (hy : VR P R y Y) : Sim P Shd (fun R' v V => ∃ b B, v = .pointer (some b) ∧ V = .pointer (some B) ∧ AR R' b B) R
    (Builtin.unsafeAdd_ #[] t #[.pointer (some a), y]) (Builtin.unsafeAdd_ #[] t #[.pointer (some A), Y]) := by
  refine Sim.bind (sim_asInt hy) fun R1 n _ s1 q => ?_
  subst q
  dsimp only
  split
  · refine Sim.bind (sim_viewAt (h.mono s1).1) fun R2 o O s2 q => ?_
    obtain ⟨rfl, rfl⟩ := q
    exact Sim.pure ⟨_, _, rfl, rfl, (h.mono s1).mono s2⟩
  · split
    · exact Sim.dead (dead_left (dead_unsupported _))
    refine Sim.bind (sim_shape (h.mono s1).1) fun R2 x _ s2 q => ?_
    subst q
    cases x with
    | none => exact Sim.unsupported _
    | some y =>
      refine Sim.bind sim_program fun R3 p p' s3 q => ?_
      obtain ⟨rfl, rfl⟩ := q
      have ho := h.2.1
      rw [← ho]
      split
      · exact Sim.pure ⟨_, _, rfl, rfl, (((h.mono s1).mono s2).mono s3).1, rfl, h.2.2.1, h.2.2.2⟩
      · exact Sim.unsupported _
theorem sim_movedNumber (t : TypeId) (d0 : _) (ht : P.underlying t = some d0) (hd0 : (∃ k, d0 = .int k) ∨ d0 = .string) {a A : Addr} {y Y : Value} (h : AR R a A) (hy : VR P R y Y) : Sim P Shd (VR P) R
    (movedNumber t (.pointer (some a)) y) (movedNumber t (.pointer (some A)) Y) := by
  rcases hd0 with ⟨k, rfl⟩ | rfl
  all_goals
    refine Sim.bind (sim_underlying t) fun R1 d _ s1 q => ?_
    obtain ⟨rfl, hd⟩ := q
    rw [ht] at hd
    cases hd
    refine Sim.bind (sim_behindNumber (h.mono s1)) fun R2 x X s2 q => ?_
    obtain ⟨b, l⟩ := x
    obtain ⟨B, l'⟩ := X
    obtain ⟨hb, rfl⟩ := q
    refine Sim.bind (sim_unsafeAdd t hb ((hy.mono s1).mono s2)) fun R3 v V s3 q => ?_
    obtain ⟨c, C, rfl, rfl, hc⟩ := q
    exact Sim.bind (sim_newObj fun b hb => .number l hc hb) fun _ _ _ _ q => Sim.pure (.ptr ⟨q.1, rfl, rfl, rfl⟩)

theorem mild_behindNumber (n : Addr) : Mild P (behindNumber n) := by
  refine Mild.bind ?_ fun _ => Mild.pure _
  refine Mild.bind (mild_shape _) fun x => ?_
  split
  · exact Mild.pure _
  · exact Mild.bind (mild_getObj _) fun o => by split <;> exact Mild.pure _
theorem dead_twoPlaces {a b : Addr} (h : P.globals.size ≤ a.block) : Dead P (Op.twoPlaces a b) := by
  intro w
  refine ⟨.unsupported .addressObserved, w, ?_, trivial⟩
  unfold Op.twoPlaces
  rw [Sem.run_bind]
  simp only [program, Sem.run, Result.andThen_ok]
  rw [if_pos (by simp; exact .inr h)]
  rfl
theorem sim_ptrs {α : Type} {Q : BR → α → α → Prop} {a A b B : Addr} (ha : AR R a A) {f : Addr → Addr → Sem α} (hf : ∀ a b, P.globals.size ≤ a.block → Dead P (f a b)) :
    Sim P Shd Q R (do f (← behindNumber a).1 (← behindNumber b).1) (do f (← behindNumber A).1 (← behindNumber B).1) :=
  Sim.bind (sim_behindNumber ha) fun _ _ _ _ q => Sim.wr fun low => Sim.dead (dead_bind (mild_behindNumber _) fun _ => hf _ _ (low _ _ q.1.1))
theorem dead_addrCmp (op : BinOp) (a b : Addr) (h : P.globals.size ≤ a.block) : Dead P (Op.addrCmp op a b) := dead_left (dead_twoPlaces h)
theorem dead_addrSub (k : IntKind) (a b : Addr) (h : P.globals.size ≤ a.block) : Dead P (Op.addrSub k a b) := dead_left (dead_twoPlaces h)

theorem dead_unsafeAdd_none (t : TypeId) (y : Value) : Dead P (Builtin.unsafeAdd_ #[] t #[.pointer none, y]) := by
  refine dead_bind (mild_asInt _) fun n => ?_
  dsimp only
  split
  · exact dead_unsupported _
  · split
    · exact dead_left (dead_unsupported _)
    · exact dead_unsupported _
theorem dead_moved_none (t : TypeId) (y : Value) : Dead P (movedNumber t (.pointer none) y) := by
  refine dead_bind (mild_underlying _) fun d => ?_
  dsimp only
  split
  · exact dead_left (dead_unsupported _)
  · exact dead_unsafeAdd_none t y

/-- Comparisons: less, at most, more. -/
theorem sim_cmp (op : BinOp) (ho : op = .lss ∨ op = .leq ∨ op = .gtr) (t : TypeId) {a A b B : Value} (ha : VR P R a A) (hb : VR P R b B) : Sim P Shd (VR P) R (binOp op t a b) (binOp op t A B) := by
  rcases ho with rfl | rfl | rfl
  all_goals
    cases ha <;> cases hb <;> first
      | exact Sim.stuck _
      | exact Sim.unsupported _
      | exact Sim.pure (.bool _)
      | (rename_i h1 _ _ h2; exact sim_ptrs (f := Op.addrCmp _) h1 (dead_addrCmp _))
      | (unfold binOp; dsimp only; split; exact Sim.stuck _; exact Sim.pure (.bool _))
/-- Sums and differences of numbers, and texts laid together. -/
theorem sim_addSub (op : BinOp) (ho : op = .add ∨ op = .sub) (t : TypeId) (d0 : _) (ht : P.underlying t = some d0) (hd0 : (∃ k, d0 = .int k) ∨ d0 = .string) {a A b B : Value} (ha : VR P R a A) (hb : VR P R b B) : Sim P Shd (VR P) R (binOp op t a b) (binOp op t A B) := by
  have M : ∀ {a A : Addr} {y Y : Value}, AR R a A → VR P R y Y → Sim P Shd (VR P) R
      (do if (← underlying t) matches .unsafePointer then movedPointer t (.pointer (some a)) y else movedNumber t (.pointer (some a)) y)
      (do if (← underlying t) matches .unsafePointer then movedPointer t (.pointer (some A)) Y else movedNumber t (.pointer (some A)) Y) := by
    intro a A y Y h hy
    refine Sim.bind (sim_underlying t) fun R1 d _ s1 q => ?_
    obtain ⟨rfl, hd⟩ := q
    rw [ht] at hd
    cases hd
    rcases hd0 with ⟨k, rfl⟩ | rfl
    · exact sim_movedNumber t _ ht (.inl ⟨k, rfl⟩) (h.mono s1) (hy.mono s1)
    · exact sim_movedNumber t _ ht (.inr rfl) (h.mono s1) (hy.mono s1)
  have N : ∀ {y : Value} {S : Sem Value}, Sim P Shd (VR P) R
      (do if (← underlying t) matches .unsafePointer then movedPointer t (.pointer none) y else movedNumber t (.pointer none) y) S := by
    intro y S
    refine Sim.dead ?_
    intro w
    have hu : (underlying t).run P w = .ok d0 w := by simp [underlying, program, ht, bind, Sem.bind, Sem.run, pure]
    rw [Sem.run_bind, hu]
    rcases hd0 with ⟨k, rfl⟩ | rfl
    · exact dead_moved_none t y w
    · exact dead_moved_none t y w
  rcases ho with rfl | rfl
  all_goals
    cases ha <;> cases hb <;> first
      | exact Sim.stuck _
      | exact Sim.unsupported _
      | (rename_i h1 _ _ h2; exact sim_ptrs (f := Op.addrSub _) h1 (dead_addrSub _))
      | (unfold binOp; dsimp only; split; exact Sim.stuck _; exact Sim.pure (.int _ _))
      | (unfold binOp Op.stringOp; dsimp only; split; exact Sim.unsupported _; exact Sim.pure (.string _))
      | exact N
      | exact Sim.dead (dead_moved_none t _)
      | (rename_i h1; exact M h1 (.int _ _))
      | (rename_i h1; exact sim_movedNumber t d0 ht hd0 h1 (.int _ _))
      | (rename_i h1 _ _; exact M h1 (.int _ _))
      | (rename_i h1 _ _; exact sim_movedNumber t d0 ht hd0 h1 (.int _ _))
theorem sim_shift (op : BinOp) (ho : op = .shl ∨ op = .shr) (t : TypeId) {a A b B : Value} (ha : VR P R a A) (hb : VR P R b B) : Sim P Shd (VR P) R (binOp op t a b) (binOp op t A B) := by
  rcases ho with rfl | rfl
  all_goals
    cases ha <;> cases hb <;> first
      | exact Sim.stuck _
      | exact Sim.unsupported _
      | (unfold binOp Op.shift; dsimp only; split; exact Sim.runtimePanic _; exact Sim.pure (.int _ _))
/-- Equality with a number. -/
theorem sim_eqlInt (t : TypeId) (k : IntKind) (n : Int) {a A : Value} (ha : VR P R a A) : Sim P Shd (VR P) R (binOp .eql t a (.int k n)) (binOp .eql t A (.int k n)) := by
  cases ha <;> first
    | (unfold binOp; dsimp only; split; exact Sim.stuck _; exact Sim.pure (.bool _))
    | skip
  all_goals
    refine Sim.bind (Q := fun _ a b => a = b) ?_ fun _ _ _ _ q => Sim.pure (by rw [q]; exact .bool _)
    unfold Op.equal Op.maxDepth Op.equalIn
    refine Sim.bind (sim_underlying t) fun R1 d _ s1 q => ?_
    obtain ⟨rfl, hd⟩ := q
    cases d <;> first | exact Sim.stuck _ | exact Sim.unsupported _ | skip
  match n with
  | .ofNat 0 => exact Sim.pure rfl
  | .ofNat (_ + 1) => exact Sim.unsupported _
  | .negSucc _ => exact Sim.unsupported _
end Go.Sim
