/-
  The law Logs, of every list of events and all numbers, on every schedule: each answer of a log, between its events, is what the document's functions say, and so are all proofs of its last version, each made by a goroutine of its own: the call returns true, without a data race, its goroutines only leaving, and the arguments read as they did.
-/
import Derived.Test.YtlndinigbppafaaJ53
import Derived.Conc.LeavingOf
import Derived.ChangeMaps5
import Derived.ChangeSlices
import Derived.SizedLaws
namespace Go.Proofs.Ytlndinigbppafaa
open Go.ChangeShapes Go.WideShapes Go.ChangeAt Go.RowKit Go.Sim Go.Conc Go.Fi

theorem post_tp4 {H : Type} {enc : TypeId × Value → H} {P : Program} {f : Func} {s : ChangeSpec} {apart fresh handsOn : Bool} {W W' : World} {args : Array Value} {v : Value} {τ : Nat → Question → Nat}
    (h : s.post enc P f apart fresh handsOn false W args v (W'.tp τ)) : s.post enc P f apart fresh handsOn false W args v W' := by
  obtain ⟨ds, gs, before, pr, pa, pv, h1, h2, h3, h4, h5, h6⟩ := h
  exact ⟨ds, gs, before, pr, pa, pv, h1, h2.of_heap (by rfl), h3.of_heap (by rfl), h4.of_heap (by rfl), h5, fun ha => by cases ha⟩

theorem no_globals4 : Try.prog.globals.size = 0 := by kernel_rfl
theorem sf_none4 (w : World) : Sf (fun _ => False) w := ⟨fun _ _ h => h.2.elim, fun _ _ _ _ h => h.2.elim, fun _ h => h.elim, fun _ _ h => h.2.elim, by rw [no_globals4]; exact Nat.zero_le _, by rw [no_globals4]; exact Nat.zero_le _⟩


theorem Try.cellsInt4 : Try.prog.cellsOf 3 = 1 := by kernel_rfl
theorem Try.bytesStr4 : Try.prog.bytesOf 9 = 16 := by kernel_rfl

set_option maxRecDepth 100000 in
/-- An argument that is a list of numbers: what it holds. -/
theorem ints_wide4 {H : Type} {enc : TypeId × Value → H} {W : World} {base : Nat} {v : Value} {d : DataW H} {p : List MemPlace}
    (hok : Value.okWide Try.prog W .any base 28 v) (h : DataW.Trod enc Try.prog W 0 (fun _ => true) true 28 v d p) (hlt : ∀ x ∈ p, x.block < W.heap.size) :
    ∃ l : List Int, IntsAt W v l ∧ l.length ≤ maxLen := by
  obtain ⟨a0, len, cap, rfl⟩ := okWide_slice Try.underlying28 hok
  obtain ⟨fuel, hf⟩ := h
  rcases open_ints Try.underlying28 Try.underlying3 Try.cellsInt4 hf with ⟨hcs, hx⟩ | ⟨a, len', cap', zs, hcs, _, hl, hm, hz, hx, hcell, hws⟩
  · simp [Value.cells] at hcs
    obtain ⟨rfl, rfl, rfl⟩ := hcs
    exact ⟨[], ⟨none, 0, rfl, fun h => by simp at h⟩, by simp⟩
  · simp [Value.cells] at hcs
    obtain ⟨rfl, rfl, rfl⟩ := hcs
    simp only [Prod.mk.injEq] at hx
    obtain ⟨rfl, rfl⟩ := hx
    simp only [if_true] at hz
    refine ⟨zs.take len, ⟨some a, cap, by rw [List.length_take]; congr 1; omega, fun h => ?_⟩, ?_⟩
    · rw [List.length_take] at h
      obtain ⟨b, off, spot⟩ := a
      have hspot : spot = none := by simpa [Addr.add] using World.cell?_spot (hcell 0 (by omega))
      subst hspot
      refine ⟨b, off, rfl, hlt (.cell b off) (MemPlace.mem_row.2 ⟨0, by omega, by simp⟩), fun j hj => ?_⟩
      rw [List.length_take] at hj
      rw [← add_plain, hcell j (by omega)]
      simp [List.getElem?_eq_getElem (show j < zs.length by omega)]
    · rw [List.length_take]; omega

set_option maxRecDepth 100000 in
/-- How its strings are counted where it is read. -/
theorem strings_count {H : Type} {enc : TypeId × Value → H} {W : World} {v : Value} {d : DataW H} {p : List MemPlace} {ps : List ByteArray}
    (h : DataW.Trod enc Try.prog W 0 (fun _ => true) true 22 v d p) (hv : StringsAt W v ps) : ps.length = 0 ∨ ∃ el sp, d = .slice el sp ∧ el.length = ps.length := by
  obtain ⟨ao, cap0, rfl, _⟩ := hv
  obtain ⟨fuel, hf⟩ := h
  rcases open_strings Try.underlying22 Try.underlying9 Try.cellsStrA hf with ⟨hcs, hx⟩ | ⟨a, len', cap', ss, hcs, _, hl, hm, hz, hx, hcell, hws⟩
  · simp [Value.cells] at hcs
    exact .inl (by have := hcs.2.1; simp [this])
  · simp [Value.cells] at hcs
    obtain ⟨_, e, _⟩ := hcs
    simp only [Prod.mk.injEq] at hx
    obtain ⟨rfl, rfl⟩ := hx
    simp only [if_true] at hz
    refine .inr ⟨_, _, rfl, ?_⟩
    unfold strs
    rw [List.length_map, List.length_take]
    omega

/-- Three slices from elsewhere. -/
def fo3 (v0 v1 v2 : Value) : FoT := fun A l c => v0 = .slice (some A) l c ∨ v1 = .slice (some A) l c ∨ v2 = .slice (some A) l c
theorem slV_str {Fo : FoT} {w : World} {v : Value} {ps : List ByteArray} (h : StringsAt w v ps) (hF : ∀ A l c, v = .slice (some A) l c → Fo A l c) : SlV Fo v := by
  obtain ⟨ao, cap, rfl, _⟩ := h
  cases ao with
  | none => exact .inr (.inl ⟨_, _, rfl⟩)
  | some A => exact .inr (.inr ⟨A, _, _, hF A _ _ rfl, rfl⟩)
theorem slV_int {Fo : FoT} {w : World} {v : Value} {ms : List Int} (h : IntsAt w v ms) (hF : ∀ A l c, v = .slice (some A) l c → Fo A l c) : SlV Fo v := by
  obtain ⟨ao, cap, rfl, _⟩ := h
  cases ao with
  | none => exact .inr (.inl ⟨_, _, rfl⟩)
  | some A => exact .inr (.inr ⟨A, _, _, hF A _ _ rfl, rfl⟩)
theorem ext_str {w : World} {v : Value} {ps : List ByteArray} (h : StringsAt w v ps) {A : Addr} {l c : Nat} (hA : v = .slice (some A) l c) (hl : 0 < l) : A.block < w.heap.size ∧ ∀ j, j < l → ∃ u, w.cell? (A.add j) = some u ∧ El u := by
  obtain ⟨ao, cap, rfl, hc⟩ := h
  simp only [Value.slice.injEq] at hA
  obtain ⟨rfl, rfl, rfl⟩ := hA
  obtain ⟨b, o, e, hb, hcell⟩ := hc hl
  cases e
  refine ⟨hb, fun j hj => ⟨.string ps[j], ?_, .inl ⟨ps[j], rfl⟩⟩⟩
  rw [show (⟨b, o, none⟩ : Addr).add j = ⟨b, o + j, none⟩ by unfold Addr.add; split <;> simp_all]
  exact hcell j hj
theorem ext_int {w : World} {v : Value} {ms : List Int} (h : IntsAt w v ms) {A : Addr} {l c : Nat} (hA : v = .slice (some A) l c) (hl : 0 < l) : A.block < w.heap.size ∧ ∀ j, j < l → ∃ u, w.cell? (A.add j) = some u ∧ El u := by
  obtain ⟨ao, cap, rfl, hc⟩ := h
  simp only [Value.slice.injEq] at hA
  obtain ⟨rfl, rfl, rfl⟩ := hA
  obtain ⟨b, o, e, hb, hcell⟩ := hc hl
  cases e
  refine ⟨hb, fun j hj => ⟨.int .i64 ms[j], ?_, .inr ⟨_, _, rfl⟩⟩⟩
  rw [show (⟨b, o, none⟩ : Addr).add j = ⟨b, o + j, none⟩ by unfold Addr.add; split <;> simp_all]
  exact hcell j hj
theorem ext3 {w : World} {v0 v1 v2 : Value} {ps : List ByteArray} {ms ns : List Int} (h0 : StringsAt w v0 ps) (h1 : IntsAt w v1 ms) (h2 : IntsAt w v2 ns) : ExtOK (fo3 v0 v1 v2) (fun _ => False) w := by
  intro A l c hA hl
  rcases hA with e | e | e
  · exact ⟨fun q => q, ext_str h0 e hl⟩
  · exact ⟨fun q => q, ext_int h1 e hl⟩
  · exact ⟨fun q => q, ext_int h2 e hl⟩

set_option maxRecDepth 100000 in
theorem enter4 (v0 v1 v2 : Value) : Frame.enter Try.prog 4 #[v0, v1, v2] .normal = (base 4).at (⟨#[v0, v1, v2, undef, undef, undef, undef, undef, undef, undef, undef, undef, undef, undef, undef, undef, undef, undef, undef, undef, undef, undef, undef, undef, undef, undef, undef, undef, undef, undef, undef, undef, undef, undef, undef, undef, undef, undef, undef, undef, undef, undef, undef, undef, undef, undef, undef, undef, undef, undef, undef, undef, undef, undef, undef, undef, undef, undef, undef, undef, undef, undef, undef, undef, undef, undef, undef, undef, undef, undef, undef, undef, undef, undef, undef, undef, undef, undef, undef, undef, undef, undef, undef, undef, undef, undef, undef, undef, undef, undef, undef, undef, undef, undef, undef, undef, undef, undef, undef, undef, undef, undef], []⟩ : Act) [.code c4] := by
  have t : (#[v0, v1, v2] ++ Array.replicate (Try.f4.ntmps - (#[v0, v1, v2] : Array Value).size) undef : Array Value) = #[v0, v1, v2, undef, undef, undef, undef, undef, undef, undef, undef, undef, undef, undef, undef, undef, undef, undef, undef, undef, undef, undef, undef, undef, undef, undef, undef, undef, undef, undef, undef, undef, undef, undef, undef, undef, undef, undef, undef, undef, undef, undef, undef, undef, undef, undef, undef, undef, undef, undef, undef, undef, undef, undef, undef, undef, undef, undef, undef, undef, undef, undef, undef, undef, undef, undef, undef, undef, undef, undef, undef, undef, undef, undef, undef, undef, undef, undef, undef, undef, undef, undef, undef, undef, undef, undef, undef, undef, undef, undef, undef, undef, undef, undef, undef, undef, undef, undef, undef, undef, undef, undef] := by kernel_rfl
  rw [enter_at _ Try.func4 body4, t]

set_option maxRecDepth 100000 in
theorem logs_good (H : Type) (enc : TypeId × Value → H) (W : World) (base' : Nat) (args : Array Value) (ds gs : List (DataW H)) (before : List MemPlace)
    (hval : ∀ (j : Nat) t v, Try.f4.params[j]? = some t → args[j]? = some v → Value.okWide Try.prog W .any base' t v)
    (hW : DataW.Whole enc Try.prog Try.f4.params.toList Rows.logsSpec.vars false W args.toList ds gs before)
    (hz : (DataW.weightsEach Try.prog (Try.f4.params.toList ++ Rows.logsSpec.plain.varTypes Try.prog) (ds ++ gs)).all (· ≤ reachBytes) = true) :
    ∃ M last o w' t', runNT Try.prog (M + 1) (solo (G (Frame.enter Try.prog 4 args .normal) []) W) #[] = (.ended o w', t') ∧ runN Try.prog M (solo (G (Frame.enter Try.prog 4 args .normal) []) W) = .next last ∧
      Go.step Try.prog last = .ended o w' ∧ Conc.Good Try.prog (fun v W' => Rows.logsSpec.post enc Try.prog Try.f4 false true false false W args v W') last o w' t' := by
  have hW' := hW
  obtain ⟨p, q, hA0, hV, rfl, hfz, hnd⟩ := hW
  have hA : DataW.TrodAll enc Try.prog W 0 (fun _ => true) true Try.f4.params.toList args.toList ds p := hA0
  rw [Try.params4] at hA hval hz
  obtain ⟨v0, v1, v2, d0, d1, d2, p0, p1, p2, rfl, rfl, rfl, h0, h1, h2⟩ := trodAll_three hA
  obtain ⟨rfl, rfl⟩ := trodVars_none hV
  clear hA0
  simp only [List.append_nil] at hW'
  have hlt : ∀ x ∈ p0 ++ p1 ++ p2, x.block < W.heap.size := fun x hx => by simpa using hW'.lt x hx
  obtain ⟨ps, hps, hn, hp⟩ := strings_wide (hval 0 22 v0 rfl rfl) h0 (fun x hx => hlt x (by simp [hx]))
  obtain ⟨ms, hms, hn1⟩ := ints_wide4 (hval 1 28 v1 rfl rfl) h1 (fun x hx => hlt x (by simp [hx]))
  obtain ⟨ns, hns, hn2⟩ := ints_wide4 (hval 2 28 v2 rfl rfl) h2 (fun x hx => hlt x (by simp [hx]))
  have hsm : ps.length ≤ 140737488355328 := by
    rcases strings_count h0 hps with e | ⟨el, sp, rfl, e⟩
    · omega
    · have := sized_slice hz (j := 0) (t := 22) rfl rfl Try.underlying22
      rw [Try.bytesStr4] at this
      unfold reachBytes at this
      omega
  have hAr : Ar4 W v0 v1 v2 ps ms ns := ⟨hps, hms, hns, hsm, hp, hn1, hn2⟩
  rw [enter4]
  refine can_runs (can_logs (Fo := fo3 v0 v1 v2) hAr (slV_str hps fun A l c e => .inl e) (slV_int hms fun A l c e => .inr (.inl e)) (slV_int hns fun A l c e => .inr (.inr e)) (ext3 hps hms hns) (sf_none4 W) (fun W' hb => ?_) (fun v w w₁ hq hE => ?_)) (Like.refl rfl)
  · refine post_tp4 (τ := W.tape) ?_
    have hnx : Below W.heap.size W (W'.tp W.tape) := ⟨hb.os, rfl, hb.output, hb.size, hb.keep⟩
    refine ⟨_, _, _, [], p0 ++ (p1 ++ p2), [], hW', ?_, ?_, rfl, hnx.frame _, fun h => by cases h⟩
    · exact trodAll_mk1 (shut_bool Try.underlying4 true)
    · exact trodAll_mk3 (Below.trod Try.laidA (by kernel_rfl) (of_decide_eq_true (by kernel_rfl)) h0 hnx (fun x hx => hlt x (by simp [hx]))) (Below.trod Try.laidA (by kernel_rfl) (of_decide_eq_true (by kernel_rfl)) h1 hnx (fun x hx => hlt x (by simp [hx]))) (Below.trod Try.laidA (by kernel_rfl) (of_decide_eq_true (by kernel_rfl)) h2 hnx (fun x hx => hlt x (by simp [hx])))
  · rw [hE.td]
    have : (w.td w₁.tape w₁.drawn).tp w.tape = { w with drawn := w₁.drawn } := rfl
    refine post_tp4 (τ := w.tape) ?_
    obtain ⟨ds, gs, before, pr, pa, pv, h1, h2, h3, h4, h5, h6⟩ := hq
    exact ⟨ds, gs, before, pr, pa, pv, h1, h2.of_heap (by rfl), h3.of_heap (by rfl), h4.of_heap (by rfl), h5, fun ha => by cases ha⟩

set_option maxRecDepth 100000 in
theorem logs_lifted (os : Os) (started : os.Started) (H : Type) (enc : TypeId × Value → H) :
    ReturnsInLeavingWide {} Try.checked os 4 .any (Rows.logsSpec.pre6 enc Try.prog Try.f4 Rows.logsRow.domain false) (Rows.logsSpec.post enc Try.prog Try.f4 false true false false) := by
  refine returnsInLeavingWide_of_change_sized (C := Try.checked) Try.ownA started Try.func4
    (ChangeSpec.witness6 (enc := enc) (C := Try.checked) false ⟨#[], #[.slice none 0 0, .slice none 0 0, .slice none 0 0], []⟩ 8 (by kernel_rfl) (by kernel_rfl) (by kernel_rfl) (by kernel_rfl)) ?_
  intro W base args ds gs before hval hW _ hz _
  exact logs_good H enc W base args ds gs before hval hW hz

theorem logs_holds : Rows.LogsSaid :=
  OpenClaim.holds_of_wide_leaving 4 Try.f4 rfl rfl rfl rfl rfl rfl rfl ⟨rfl, rfl, rfl, rfl, rfl⟩ rfl rfl rfl rfl rfl (by kernel_rfl) Try.func4 (by kernel_rfl)
    (of_decide_eq_true (by kernel_rfl)) (by unfold Func.isWrapper; first | (rw [if_pos (by decide +kernel)]; kernel_rfl) | (rw [if_neg (by decide +kernel)]; exact ⟨rfl, rfl⟩))
    (fun os started H enc _ => logs_lifted os started H enc)
#print axioms logs_holds
end Go.Proofs.Ytlndinigbppafaa
