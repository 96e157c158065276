/-
  The law Proven, of every list of events and every number, on every schedule: all proofs of a version, each made by a goroutine of its own, are as the law has them: the call returns true, without a data race, its goroutines only leaving, and the arguments read as they did.
-/
import Derived.Test.YtlndinigbppafaaJ53
import Derived.Conc.LeavingOf
import Derived.ChangeMaps5
namespace Go.Proofs.Ytlndinigbppafaa
open Go.ChangeShapes Go.WideShapes Go.ChangeAt Go.RowKit Go.Sim Go.Conc Go.Fi

theorem post_tp5 {H : Type} {enc : TypeId × Value → H} {P : Program} {f : Func} {s : ChangeSpec} {apart fresh handsOn : Bool} {W W' : World} {args : Array Value} {v : Value} {τ : Nat → Question → Nat}
    (h : s.post enc P f apart fresh handsOn false W args v (W'.tp τ)) : s.post enc P f apart fresh handsOn false W args v W' := by
  obtain ⟨ds, gs, before, pr, pa, pv, h1, h2, h3, h4, h5, h6⟩ := h
  exact ⟨ds, gs, before, pr, pa, pv, h1, h2.of_heap (by rfl), h3.of_heap (by rfl), h4.of_heap (by rfl), h5, fun ha => by cases ha⟩

/-- A slice of strings, from elsewhere. -/
def foOf5 (v : Value) : FoT := fun A l c => v = .slice (some A) l c
theorem slV_of5 {w : World} {v : Value} {ps : List ByteArray} (h : StringsAt w v ps) : SlV (foOf5 v) v := by
  obtain ⟨ao, cap, rfl, _⟩ := h
  cases ao with
  | none => exact .inr (.inl ⟨_, _, rfl⟩)
  | some A => exact .inr (.inr ⟨A, _, _, rfl, rfl⟩)
theorem ext_strings5 {w : World} {v : Value} {ps : List ByteArray} (h : StringsAt w v ps) : ExtOK (foOf5 v) (fun _ => False) w := by
  obtain ⟨ao, cap, rfl, hc⟩ := h
  intro A l c hA hl
  unfold foOf5 at hA
  simp only [Value.slice.injEq] at hA
  obtain ⟨rfl, rfl, rfl⟩ := hA
  obtain ⟨b, o, e, hb, hcell⟩ := hc hl
  cases e
  refine ⟨fun q => q, hb, fun j hj => ⟨.string ps[j], ?_, .inl ⟨ps[j], rfl⟩⟩⟩
  rw [show (⟨b, o, none⟩ : Addr).add j = ⟨b, o + j, none⟩ by unfold Addr.add; split <;> simp_all]
  exact hcell j hj
theorem no_globals5 : Try.prog.globals.size = 0 := by kernel_rfl
theorem sf_none5 (w : World) : Sf (fun _ => False) w := ⟨fun _ _ h => h.2.elim, fun _ _ _ _ h => h.2.elim, fun _ h => h.elim, fun _ _ h => h.2.elim, by rw [no_globals5]; exact Nat.zero_le _, by rw [no_globals5]; exact Nat.zero_le _⟩

set_option maxRecDepth 100000 in
theorem enter5 (v : Value) (n : Int) : Frame.enter Try.prog 5 #[v, .int .i64 n] .normal = (base 5).at (⟨#[v, .int .i64 n, undef, undef, undef, undef, undef, undef, undef, undef, undef, undef, undef, undef, undef, undef, undef, undef, undef, undef, undef, undef, undef, undef, undef, undef, undef, undef, undef, undef, undef, undef, undef, undef, undef, undef], []⟩ : Act) [.code c5] := by
  have t : (#[v, .int .i64 n] ++ Array.replicate (Try.f5.ntmps - (#[v, .int .i64 n] : Array Value).size) undef : Array Value) = #[v, .int .i64 n, undef, undef, undef, undef, undef, undef, undef, undef, undef, undef, undef, undef, undef, undef, undef, undef, undef, undef, undef, undef, undef, undef, undef, undef, undef, undef, undef, undef, undef, undef, undef, undef, undef, undef] := by kernel_rfl
  rw [enter_at _ Try.func5 body5, t]

set_option maxRecDepth 100000 in
theorem proven_good (H : Type) (enc : TypeId × Value → H) (W : World) (base' : Nat) (args : Array Value) (ds gs : List (DataW H)) (before : List MemPlace)
    (hval : ∀ (j : Nat) t v, Try.f5.params[j]? = some t → args[j]? = some v → Value.okWide Try.prog W .any base' t v)
    (hW : DataW.Whole enc Try.prog Try.f5.params.toList Rows.provenSpec.vars false W args.toList ds gs before) :
    ∃ M last o w' t', runNT Try.prog (M + 1) (solo (G (Frame.enter Try.prog 5 args .normal) []) W) #[] = (.ended o w', t') ∧ runN Try.prog M (solo (G (Frame.enter Try.prog 5 args .normal) []) W) = .next last ∧
      Go.step Try.prog last = .ended o w' ∧ Conc.Good Try.prog (fun v W' => Rows.provenSpec.post enc Try.prog Try.f5 false true false false W args v W') last o w' t' := by
  have hW' := hW
  obtain ⟨p, q, hA0, hV, rfl, hfz, hnd⟩ := hW
  have hA : DataW.TrodAll enc Try.prog W 0 (fun _ => true) true Try.f5.params.toList args.toList ds p := hA0
  rw [Try.params5] at hA hval
  obtain ⟨v0, v1, d0, d1, p0, p1, rfl, rfl, rfl, h0, h1⟩ := trodAll_two hA
  obtain ⟨rfl, rfl⟩ := trodVars_none hV
  clear hA0
  simp only [List.append_nil] at hW'
  have hlt : ∀ x ∈ p0 ++ p1, x.block < W.heap.size := fun x hx => by simpa using hW'.lt x hx
  obtain ⟨ps, hps, hn, hp⟩ := strings_wide (hval 0 22 v0 rfl rfl) h0 (fun x hx => hlt x (by simp [hx]))
  obtain ⟨n, rfl, _, _, hnn⟩ := open_int Try.underlying3 (hval 1 3 v1 rfl rfl) h1
  have hml : maxLen ≤ 9223372036854775807 := by unfold maxLen; omega
  rw [enter5]
  refine can_runs (can_proven hps (by omega) hp (slV_of5 hps) (ext_strings5 hps) (sf_none5 W) (fun W' hb => ?_) (fun v w w₁ hq hE => ?_)) (Like.refl rfl)
  · refine post_tp5 (τ := W.tape) ?_
    have hnx : Below W.heap.size W (W'.tp W.tape) := ⟨hb.os, rfl, hb.output, hb.size, hb.keep⟩
    refine ⟨_, _, _, [], p0 ++ p1, [], hW', ?_, ?_, rfl, hnx.frame _, fun h => by cases h⟩
    · exact trodAll_mk1 (shut_bool Try.underlying4 true)
    · exact trodAll_mk2 (Below.trod Try.laidA (by kernel_rfl) (of_decide_eq_true (by kernel_rfl)) h0 hnx (fun x hx => hlt x (by simp [hx]))) (Below.trod Try.laidA (by kernel_rfl) (of_decide_eq_true (by kernel_rfl)) h1 hnx (fun x hx => hlt x (by simp [hx])))
  · rw [hE.td]
    have : (w.td w₁.tape w₁.drawn).tp w.tape = { w with drawn := w₁.drawn } := rfl
    refine post_tp5 (τ := w.tape) ?_
    obtain ⟨ds, gs, before, pr, pa, pv, h1, h2, h3, h4, h5, h6⟩ := hq
    exact ⟨ds, gs, before, pr, pa, pv, h1, h2.of_heap (by rfl), h3.of_heap (by rfl), h4.of_heap (by rfl), h5, fun ha => by cases ha⟩

set_option maxRecDepth 100000 in
theorem proven_lifted (os : Os) (started : os.Started) (H : Type) (enc : TypeId × Value → H) :
    ReturnsInLeavingWide {} Try.checked os 5 .any (Rows.provenSpec.pre6 enc Try.prog Try.f5 Rows.provenRow.domain false) (Rows.provenSpec.post enc Try.prog Try.f5 false true false false) := by
  refine returnsInLeavingWide_of_change_sized (C := Try.checked) Try.ownA started Try.func5
    (ChangeSpec.witness6 (enc := enc) (C := Try.checked) false ⟨#[], #[.slice none 0 0, .int .i64 0], []⟩ 8 (by kernel_rfl) (by kernel_rfl) (by kernel_rfl) (by kernel_rfl)) ?_
  intro W base args ds gs before hval hW _ _ _
  exact proven_good H enc W base args ds gs before hval hW

theorem proven_holds : Rows.ProvenSaid :=
  OpenClaim.holds_of_wide_leaving 5 Try.f5 rfl rfl rfl rfl rfl rfl rfl ⟨rfl, rfl, rfl, rfl, rfl⟩ rfl rfl rfl rfl rfl (by kernel_rfl) Try.func5 (by kernel_rfl)
    (of_decide_eq_true (by kernel_rfl)) (by unfold Func.isWrapper; first | (rw [if_pos (by decide +kernel)]; kernel_rfl) | (rw [if_neg (by decide +kernel)]; exact ⟨rfl, rfl⟩))
    (fun os started H enc _ => proven_lifted os started H enc)
#print axioms proven_holds
end Go.Proofs.Ytlndinigbppafaa
