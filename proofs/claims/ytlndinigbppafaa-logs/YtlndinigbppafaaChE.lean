/-
  A child of Proofs: the call of member by its lone contract; the child's birth.
-/
import Derived.Test.YtlndinigbppafaaChD
namespace Go.Proofs.Ytlndinigbppafaa
open Go.Sim Go.Conc

/-- Nothing is shared inside the call: the tree is a value. -/
def NoShd (_ : Nat) : Prop := False

theorem memberC_of (hZ : ZeroOK Try.prog) (hB : BodiesOK Try.prog) {bc bv bi bn c : Nat} {ver : Value} {i n : Int} {Post Q : Value → World → Prop} (hver : ∀ R, VR Try.prog R ver ver) (hQ : ∀ v w τ, Q v w → Q v (w.tp τ))
    (hc : ∀ w : World, Try.prog.globals.size ≤ w.heap.size → Calls Try.prog 45 #[ver, .int .i64 i, .int .i64 n] w fun e w' => match e with | .returned v => Q v w' | _ => False)
    (hP : ∀ {R : BR} {O : Nat → Prop} {v V : Value} {w W : World}, VR Try.prog R v V → WR Try.prog NoShd R w W → Q v w → (∀ b B, R b B → O B) → PostAt Post O V W) : MemberC bc bv bi bn c ver i n Post := by
  refine ⟨?_⟩
  intro O W k ks hO hg hk
  have hb : BodyOK Try.prog 45 := ⟨_, Try.func45, rfl, by simp [Try.f45, names]⟩
  have ha : ∀ R, VRs Try.prog R #[ver, .int .i64 i, .int .i64 n] #[ver, .int .i64 i, .int .i64 n] := fun R => ((VRs.one (hver R)).push (.int _ _)).push (.int _ _)
  have hw : WR Try.prog NoShd (fun _ _ => False) W W := ⟨fun _ _ h => h.elim, fun _ _ _ _ h => h.elim, fun _ h => h.elim, fun _ _ h => h.elim, hg, hg⟩
  have hF : FR Try.prog (fun _ _ => False) (Frame.enter Try.prog 45 #[ver, .int .i64 i, .int .i64 n] .normal) (Frame.enter Try.prog 45 #[ver, .int .i64 i, .int .i64 n] .normal) := FR.enter hB hb (ha _)
  have hrun : Run Try.prog (FinQ Try.prog Q) (Frame.enter Try.prog 45 #[ver, .int .i64 i, .int .i64 n] .normal) [] W :=
    run_of_calls (fun _ h => h) hZ hB (Shd := NoShd) ⟨_, _, [], W, hF, trivial, hw⟩ hQ Try.func45 (by simp [Try.f45]) fun τ => hc _ hg
  refine ch_run (Cs := []) (fun _ h => h) hZ hB hrun hF trivial hw (fun _ _ h => h.elim) hO ?_
  intro R' O' fr' Fr' w' W' f1 hm hfin hw' hO' hOO hRW hRO
  obtain ⟨v, fn, e1, hres, e2, hq⟩ := hfin
  obtain ⟨v2, V, hv, e3, e4⟩ := results_run hres f1.tmps
  rw [e2] at e3
  cases e3
  refine hk (V := V) (fun W₁ => ?_) hOO hRW hRO (hP hv hw' hq fun b B h => (hO' b B h).elim (fun x => x.1.elim) fun x => x.2)
  have hM : Fr'.mode = .returning := f1.mode ▸ hm
  have hFn : Try.prog.funcs[Fr'.fn]? = some fn := f1.fn ▸ e1
  simp [stepG, G, hM, unwind, f1.defers', hFn, e4, doReturn, f1.kind', seen, GStep.after]

/-- A child's call. -/
def childD (bc bv bi bn : Nat) : Deferred := { target := .fn (.func 80) #[.pointer (some ⟨bc, 0, none⟩), .pointer (some ⟨bv, 0, none⟩), .pointer (some ⟨bi, 0, none⟩), .pointer (some ⟨bn, 0, none⟩)], args := #[] }

theorem ch_born {bc bv bi bn c : Nat} {ver : Value} {i n : Int} {Post : Value → World → Prop} (hM : MemberC bc bv bi bn c ver i n Post) {O : Nat → Prop} {W : World} (hB : Boxes bc bv bi bn c ver i n W)
    (hO : ∀ b, RdB bc bv bi bn b → b < W.heap.size ∧ ¬ O b) (hg : Try.prog.globals.size ≤ W.heap.size) : Ch Try.prog c (RdB bc bv bi bn) Post (Sent bc) O (born Try.prog (childD bc bv bi bn)) W := by
  have s0 : ∀ W, stepG Try.prog false (born Try.prog (childD bc bv bi bn)) W = .go (G (b80.at ⟨#[.pointer (some ⟨bc, 0, none⟩), .pointer (some ⟨bv, 0, none⟩), .pointer (some ⟨bi, 0, none⟩), .pointer (some ⟨bn, 0, none⟩), undef, undef, undef, undef, undef, undef], []⟩ [.code (.seq (.region 0 ops80 true) (.region 1 ops81 false))]) [bot Try.prog]) W #[] := by
    intro W
    have ev : ∀ x, (callFunc 80 x).events Try.prog W #[] = #[] := fun x => by simp [callFunc, Try.func80, Try.f80]
    simp [born, childD, stepG, unwind, callDeferred, invoke, ev, seen, GStep.after, Frame.enter, Try.func80, body80, G, Frame.at, b80, bot, Try.ntmps80]
  refine Ch.one rfl fun W₁ hr => ⟨_, W₁, #[], s0 W₁, guar_none rfl rfl rfl rfl, ?_⟩
  rw [grow_same rfl]
  have hB1 := hB.rely hr
  have hO1 : ∀ b, RdB bc bv bi bn b → b < W₁.heap.size ∧ ¬ O b := fun b hb => ⟨Nat.lt_of_lt_of_le (hO b hb).1 hr.size, (hO b hb).2⟩
  have hg1 := Nat.le_trans hg hr.size
  refine Ch.one rfl fun W₂ hr2 => ⟨_, W₂, #[], stepG_seq, guar_none rfl rfl rfl rfl, ?_⟩
  rw [grow_same rfl]
  refine Ch.one rfl fun W₃ hr3 => ?_
  have hB3 := (hB1.rely hr2).rely hr3
  refine ⟨G (fr80 #[.pointer (some ⟨bc, 0, none⟩), .pointer (some ⟨bv, 0, none⟩), .pointer (some ⟨bi, 0, none⟩), .pointer (some ⟨bn, 0, none⟩), undef, undef, undef, undef, undef, undef] (lin 6 (W₃.tape W₃.drawn (.order 80 0)) (Array.replicate 6 false))) [bot Try.prog], { W₃ with drawn := W₃.drawn + 1 }, #[], ?_, guar_none rfl rfl rfl rfl, ?_⟩
  · have hfol : Try.prog.follows .mixedOrders = true := by kernel_rfl
    simp [stepG, stepG.exec, G, Frame.at, b80, choose, Sem.run, Question.forced, Question.cut, hfol, fr80, k80, Region.schedule, Region.linearise, lin]
    rfl
  · rw [show grow O W₃ { W₃ with drawn := W₃.drawn + 1 } = O from grow_same rfl]
    refine ch_region hM 6 _ _ _ ⟨rfl, rfl, rfl, rfl, rfl, rfl, ?_, ?_, ?_, ?_, rfl⟩ (by decide) ?_ ?_ ⟨hB3.hc, hB3.hv, hB3.hi, hB3.hn⟩ (fun b hb => ⟨Nat.lt_of_lt_of_le (hO1 b hb).1 (Nat.le_trans hr2.size hr3.size), (hO1 b hb).2⟩) (Nat.le_trans hg1 (Nat.le_trans hr2.size hr3.size))
    all_goals (intro h; exact absurd h (by decide))
end Go.Proofs.Ytlndinigbppafaa
