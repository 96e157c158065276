/-
  An operation that the simulation bears: what it lists, and what it hangs on.
-/
import Derived.Test.YtlndinigbppafaaFiC
import Derived.Test.YtlndinigbppafaaFiD
import Derived.Test.YtlndinigbppafaaSimN
namespace Go.Fi
open Go.Sim
variable {P : Program} {α β : Type} {Shd : Nat → Prop} {R : BR}

/-- What is known of a run that comes to its end. -/
structure Fk (P : Program) (m : Sem α) (w : World) (a : α) (w' : World) : Prop where
  size : w.heap.size ≤ w'.heap.size
  tape : w'.tape = w.tape
  os : w'.os = w.os
  output : w'.output = w.output
  drawn : w.drawn ≤ w'.drawn
  ev : ∀ e ∈ m.events P w #[], EvF w'.heap.size e
  shift : ∀ τ d, (∀ j q, j < w'.drawn - w.drawn → τ (d + j) q = w.tape (w.drawn + j) q) → m.run P (w.td τ d) = .ok a (w'.td τ (d + (w'.drawn - w.drawn))) ∧ ∀ e ∈ m.events P (w.td τ d) #[], EvF w'.heap.size e
def FkAt (P : Program) (m : Sem α) (w : World) : Prop := ∀ a w', m.run P w = .ok a w' → Fk P m w a w'

theorem Fine.events {m : Sem α} (h : Fine P m) {w : World} {a : α} {w' : World} (hr : m.run P w = .ok a w') : w.heap.size ≤ w'.heap.size ∧ ∀ e ∈ m.events P w #[], EvF w'.heap.size e := by
  have := h.runT w #[]
  have e1 : (m.runT P w #[]).1 = .ok a w' := by rw [Sem.runT_eq]; exact hr
  rw [e1] at this
  refine ⟨this.1, fun e he => ?_⟩
  have he' : e ∈ (m.runT P w #[]).2 := he
  rcases this.2 e he' with q | q
  · simp at q
  · exact q
theorem Fine.fk {m : Sem α} (h : Fine P m) (w : World) : FkAt P m w := by
  intro a w' hr
  obtain ⟨h1, h2, h3, h4, h5⟩ := h.shift hr
  obtain ⟨s1, s2⟩ := h.events hr
  refine ⟨s1, h1, h2, h3, h4, s2, fun τ d hτ => ?_⟩
  have hr2 := h5 τ d hτ
  exact ⟨hr2, (h.events hr2).2⟩
theorem FkAt.bind {m : Sem α} {f : α → Sem β} {w : World} (h : FkAt P m w) (k : ∀ a w1, m.run P w = .ok a w1 → FkAt P (f a) w1) : FkAt P (m >>= f) w := by
  intro b w' hr
  rw [Sem.run_bind] at hr
  cases hm : m.run P w with
  | halt x y => rw [hm] at hr; simp [Result.andThen] at hr
  | ok a w1 =>
    rw [hm] at hr
    have h1 := h a w1 hm
    have h2 := k a w1 hm b w' hr
    have ev : ∀ {W W1 : World}, m.run P W = .ok a W1 → (∀ e ∈ m.events P W #[], EvF w'.heap.size e) → (∀ e ∈ (f a).events P W1 #[], EvF w'.heap.size e) → ∀ e ∈ (m >>= f).events P W #[], EvF w'.heap.size e := by
      intro W W1 hW q1 q2 e he
      rw [Sem.events_bind, hW] at he
      simp only [Result.evThen_ok] at he
      rw [Sem.events_acc] at he
      rcases Array.mem_append.1 he with he | he
      · exact q1 e he
      · exact q2 e he
    have hd := h1.drawn
    have hd2 := h2.drawn
    refine ⟨Nat.le_trans h1.size h2.size, h2.tape.trans h1.tape, h2.os.trans h1.os, h2.output.trans h1.output, Nat.le_trans hd hd2, ev hm (fun e he => (h1.ev e he).mono h2.size) h2.ev, fun τ d hτ => ?_⟩
    obtain ⟨r1, e1⟩ := h1.shift τ d fun j q hj => hτ j q (by omega)
    obtain ⟨r2, e2⟩ := h2.shift τ (d + (w1.drawn - w.drawn)) fun j q hj => by
      have := hτ ((w1.drawn - w.drawn) + j) q (by omega)
      rw [Nat.add_assoc, this, h1.tape]
      congr 1
      omega
    refine ⟨?_, ev r1 (fun e he => (e1 e he).mono h2.size) e2⟩
    rw [Sem.run_bind, r1]
    simp only [Result.andThen_ok]
    rw [r2]
    congr 2
    omega
theorem FkAt.dead {m : Sem α} (h : Dead P m) (w : World) : FkAt P m w := by
  intro a w' hr
  obtain ⟨x, y, e, _⟩ := h w
  rw [hr] at e; cases e

theorem fk_callFunc {f : FuncId} (hf : BodyOK P f) (x : Array Value) (w : World) : FkAt P (callFunc f x) w := by
  obtain ⟨fn, h1, h2, h3⟩ := hf
  have hn : fn.name ≠ "runtime.NumGoroutine" := fun x => by rw [x] at h3; revert h3; decide
  have e : ∀ w : World, (callFunc f x).run P w = .ok (.enter f x) w ∧ (callFunc f x).events P w #[] = #[] := by
    intro w
    cases hb : fn.body with
    | none => rw [hb] at h2; cases h2
    | some c => exact ⟨by simp [callFunc, program, h1, hn, hb, bind, Sem.bind, Sem.run, pure], by simp [callFunc, h1, hn, hb]⟩
  intro a w' hr
  rw [(e w).1] at hr
  cases hr
  exact ⟨Nat.le_refl _, rfl, rfl, rfl, Nat.le_refl _, fun ev he => by rw [(e w).2] at he; simp at he, fun τ d _ => ⟨by rw [(e _).1]; simp, fun ev he => by rw [(e _).2] at he; simp at he⟩⟩

theorem fk_callMethod {name : String} (hm : MethOK P name) {v V : Value} (h : VR P R v V) (x : Array Value) {w W : World} (hw : WR P Shd R w W) (ht : ∀ j q, w.tape (w.drawn + j) q = W.tape (W.drawn + j) q) : FkAt P (callMethod v name x) w := by
  cases h with
  | iface t htl h =>
    refine FkAt.bind (Fine.fk fine_program w) fun p w1 e => ?_
    cases e
    refine FkAt.bind (Fine.fk (fine_method _ t _ name) w) fun r w1 e => ?_
    obtain ⟨f, rc⟩ := r
    obtain ⟨R', b, W', _, ⟨_, hb, _⟩, _⟩ := (sim_method hm _ t htl h w W hw ht).2 _ _ e
    exact fk_callFunc hb _ w1
  | nilIface => exact FkAt.dead (dead_runtimePanic .nilDeref) w
  | _ => exact FkAt.dead (dead_stuck _) w

theorem fk_v {m : Sem Value} (h : Fine P m) (w : World) : FkAt P (do pure (Next.value (← m)) : Sem Next) w := Fine.fk (Fine.bind h fun _ => Fine.pure _) w
theorem fk_u {m : Sem Unit} (h : Fine P m) (w : World) : FkAt P (do m; pure Next.skip : Sem Next) w := Fine.fk (Fine.bind h fun _ => Fine.pure _) w

theorem fk_execOp {f g : Operand → Value} (h : ∀ x, OperandOK P x → VR P R (f x) (g x)) (o : Oper) (ho : OpOK P o.op) {w W : World} (hw : WR P Shd R w W) (ht : ∀ j q, w.tape (w.drawn + j) q = W.tape (W.drawn + j) q) : FkAt P (execOp f o) w := by
  unfold execOp
  cases hop : o.op with
  | move x => exact Fine.fk (Fine.pure _) w
  | assign x => exact Fine.fk (Fine.pure _) w
  | pick c a b => exact Fine.fk (Fine.bind (fine_asBool _) fun _ => Fine.pure _) w
  | alloc t => exact fk_v (fine_alloc _ _ _) w
  | box t x => exact fk_v (fine_box _ _) w
  | build t parts => exact fk_v (fine_build _ _) w
  | buildSlice t n parts => exact fk_v (fine_buildSlice _ _ _) w
  | load t a => exact fk_v (fine_loadAt _ _) w
  | store t a x => exact fk_u (fine_storeAt _ _ _) w
  | nilCheck x =>
    dsimp only
    split
    · exact FkAt.dead (dead_runtimePanic .nilDeref) w
    · exact FkAt.dead (dead_runtimePanic .nilDeref) w
    · exact FkAt.dead (dead_runtimePanic .nilDeref) w
    · split
      · exact FkAt.dead (dead_runtimePanic .nilDeref) w
      · refine Fine.fk (Fine.bind fine_program fun _ => Fine.bind (fine_nilAhead _ _ _ _) fun _ => ?_) w
        split
        · exact Fine.bind (fine_unsupported _) fun _ => Fine.pure _
        · exact Fine.pure _
      · exact Fine.fk (Fine.pure _) w
    · exact Fine.fk (Fine.pure _) w
  | binOp op t x y ty => exact fk_v (Fine.bind (fine_eqGuard _ _ _ _ _ _) fun _ => fine_binOp _ _ _ _) w
  | unOp op t x => exact fk_v (fine_unary _ _) w
  | convert a b x => exact fk_v (fine_convert _ _ _) w
  | makeInterface t x => exact fk_v (fine_makeInterface _ _) w
  | makeFunc fn a b => exact fk_v (fine_makeFunc _ _ _) w
  | makeSlice t l c => exact fk_v (fine_makeSlice _ _ _) w
  | slice t x lo hi mx => exact fk_v (fine_sliceAt _ _ _ _ _) w
  | fieldAddr s x i => exact fk_v (fine_fieldAt _ _ _) w
  | field t x i => exact fk_v (fine_field _ _ _) w
  | indexAddr t x i => exact fk_v (fine_indexAt _ _ _) w
  | index t x i => exact fk_v (fine_index _ _ _) w
  | extract x i => exact fk_v (fine_extract _ _) w
  | panic x => exact FkAt.dead (dead_left (dead_panic _)) w
  | call c =>
    rw [hop] at ho
    obtain ⟨hargs, ho⟩ := ho
    show FkAt P (do let d ← resolve f c o.type; invoke d.target d.args) w
    unfold resolve
    cases hc : c.callee with
    | value fv =>
      rw [hc] at ho
      have hv := h fv ho
      show FkAt P (do let d ← Deferred.ofValue (f fv) (c.args.map f); invoke d.target d.args) w
      generalize f fv = v at hv
      generalize g fv = V at hv
      cases hv with
      | func fn hf h1 h2 h3 h4 =>
        cases fn with
        | func k => exact fk_callFunc hf _ w
        | method name =>
          rename_i a A b B
          show FkAt P (invoke (.fn (.method name) b) (a ++ c.args.map f)) w
          unfold invoke
          dsimp only
          have ha : VRs P R a A := ⟨h1, h2⟩
          have hax := ha.append (VRs.map h hargs)
          cases he : (a ++ c.args.map f)[0]? with
          | none => exact FkAt.dead (dead_stuck _) w
          | some r =>
            obtain ⟨r', e', hr⟩ := hax.get he
            exact fk_callMethod hf hr _ hw ht
        | methodOf _ _ => exact hf.elim
        | via _ _ _ _ => exact hf.elim
        | yield _ => exact hf.elim
      | nilFunc => exact FkAt.dead (dead_runtimePanic .nilDeref) w
      | _ => exact FkAt.dead (dead_stuck _) w
    | invoke r name =>
      rw [hc] at ho
      show FkAt P (invoke (.fn (.method name) #[]) (#[f r] ++ c.args.map f)) w
      unfold invoke
      dsimp only
      have e1 : ∀ (z : Value) (l : Array Value), (#[z] ++ l)[0]? = some z := by intro z l; simp [Array.getElem?_append]
      simp only [e1]
      exact fk_callMethod ho.2 (h r ho.1) _ hw ht
    | builtin b =>
      rw [hc] at ho
      cases b <;> first | exact ho.elim | skip
      · exact fk_v (fine_bappend _ _ _) w
      · exact fk_v (fine_bcap _ _ _) w
      · exact fk_v (fine_bcopy _ _ _) w
      · exact fk_v (fine_blen _ _ _) w
      · exact fk_v (fine_bunsafeString _ _ _) w
  | _ => rw [hop] at ho; exact ho.elim

theorem fine_results (fn : Func) (t : Array Value) : Fine P (results fn t) := by
  unfold results
  refine Fine.bind (fine_mapM_array _ (fun r => ?_) _) fun _ => Fine.pure _
  cases r with
  | tmp x => exact Fine.pure _
  | cell a ty => exact Fine.bind (fine_asAddr _) fun _ => fine_loadVar _ _
end Go.Fi
