/-
  The law Unmade: a log and an auditor that are nil, or that the caller made, are closed in every call; it has no argument, and returns true.
-/
import Derived.Test.YtlndinigbppafaaGreatCloA
import Derived.Test.YtlndinigbppafaaGreatLv
import Derived.Test.YtlndinigbppafaaGreatRows
import Derived.ProofKit
import Derived.ChangeMaps5
namespace Go.Proofs.YtlndinigbppafaaGreat
open Go.ChangeShapes Go.WideShapes Go.ChangeAt Go.RowKit

theorem Tryz.ownU : ownKnob Tryz.prog.godebug = none := by kernel_rfl
theorem Tryz.laidU : laidOutB Tryz.prog = true := by kernel_rfl

set_option maxRecDepth 100000 in
set_option maxHeartbeats 1000000 in
theorem unmade_any (w : World) :
    Calls Tryz.prog 4 #[] w fun e w' => e = .returned (.bool true) ∧ Below w.heap.size w w' := by
  go_enter Tryz.func4, Tryz.ntmps4
  go_wp2_with fail
  refine (noLog_any w (.pointer none) (.inl rfl)).mono ?_
  rintro e w0 ⟨rfl, rfl⟩
  go_wp2_with fail
  have hL : NoneL (w0.alloc (.cells #[.pointer none, .slice none 0 0] 41)) (.pointer (some ⟨w0.heap.size, 0, none⟩)) := .inr ⟨_, rfl, heap_alloc_new w0 _⟩
  have h1 : Below w0.heap.size w0 (w0.alloc (.cells #[.pointer none, .slice none 0 0] 41)) := (Below.refl _ _).alloc (Nat.le_refl _) _
  refine (noLog_any _ _ hL).mono ?_
  rintro e w1 ⟨rfl, he1⟩
  rw [← he1] at h1
  clear hL he1
  go_wp2_with fail
  refine (noAuditor_any w1 (.pointer none) (.inl rfl)).mono ?_
  rintro e w2 ⟨rfl, hb2⟩
  have h2 := below_step h1 hb2
  clear h1 hb2
  go_wp2_with fail
  have hA : NoneA (w2.alloc (.cells #[.pointer none, .int .i64 0, .slice none 0 0, .slice none 0 0, .slice none 0 0] 47)) (.pointer (some ⟨w2.heap.size, 0, none⟩)) := .inr ⟨_, rfl, heap_alloc_new w2 _⟩
  have h3 : Below w0.heap.size w0 (w2.alloc (.cells #[.pointer none, .int .i64 0, .slice none 0 0, .slice none 0 0, .slice none 0 0] 47)) := h2.alloc h2.size _
  refine (noAuditor_any _ _ hA).mono ?_
  rintro e w3 ⟨rfl, hb3⟩
  have h4 := below_step h3 hb3
  go_wp2
  go_ret
  exact ⟨rfl, h4⟩

set_option maxRecDepth 100000 in
theorem unmade_contract (H : Type) (enc : TypeId × Value → H) (W : World) (args : Array Value) (ds gs : List (DataW H)) (before : List MemPlace)
    (hW : DataW.Whole enc Tryz.prog Tryz.f4.params.toList Rows.unmadeSpec.vars false W args.toList ds gs before) :
    Calls Tryz.prog 4 args W fun e W' => ∃ v, e = .returned v ∧ Rows.unmadeSpec.post enc Tryz.prog Tryz.f4 false true false false W args v W' := by
  have hW' := hW
  obtain ⟨p, q, hA0, hV, rfl, hfz, hnd⟩ := hW
  have hA : DataW.TrodAll enc Tryz.prog W 0 (fun _ => true) true Tryz.f4.params.toList args.toList ds p := hA0
  rw [Tryz.params4] at hA
  obtain ⟨hv, rfl, rfl⟩ := trodAll_nil hA
  obtain rfl : args = #[] := Array.toList_eq_nil_iff.1 hv
  obtain ⟨rfl, rfl⟩ := trodVars_none hV
  clear hA0
  simp only [List.append_nil] at hW'
  refine (unmade_any W).mono fun e W' ⟨he, hnx⟩ => ?_
  subst he
  refine ⟨_, rfl, _, _, _, [], [], [], hW', ?_, ?_, rfl, hnx.frame _, fun h => by cases h⟩
  · exact trodAll_mk1 (shut_bool Tryz.underlying4 true)
  · exact trodAll_mk0

set_option maxRecDepth 100000 in
theorem unmade_lifted (os : Os) (started : os.Started) (H : Type) (enc : TypeId × Value → H) :
    ReturnsInHanded {} Tryz.checked os 4 .any (Rows.unmadeSpec.pre6 enc Tryz.prog Tryz.f4 Rows.unmadeRow.domain false) (Rows.unmadeSpec.post enc Tryz.prog Tryz.f4 false true false false) := by
  refine returnsInHanded_of_change_sized (C := Tryz.checked) Tryz.ownU started (by kernel_rfl) Tryz.func4
    (ChangeSpec.witness6 (enc := enc) (C := Tryz.checked) false ⟨#[], #[], []⟩ 8 (by kernel_rfl) (by kernel_rfl) (by kernel_rfl) (by kernel_rfl)) ?_
  intro W base args ds gs before hval hW _ _ _
  exact unmade_contract H enc W args ds gs before hW

theorem unmade_holds : Rows.UnmadeSaid :=
  OpenClaim.holds_of_wide_leaving 4 Tryz.f4 rfl rfl rfl rfl rfl rfl rfl ⟨rfl, rfl, rfl, rfl, rfl⟩ rfl rfl rfl rfl rfl (by kernel_rfl) Tryz.func4 (by kernel_rfl)
    (of_decide_eq_true (by kernel_rfl)) (by unfold Func.isWrapper; first | (rw [if_pos (by decide +kernel)]; kernel_rfl) | (rw [if_neg (by decide +kernel)]; exact ⟨rfl, rfl⟩))
    (fun os started H enc _ => leaving_of_handed (unmade_lifted os started H enc))
#print axioms unmade_holds
end Go.Proofs.YtlndinigbppafaaGreat
