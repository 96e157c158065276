/-
  The walks of the program's twins: Texts.Least.
-/
import Derived.Test.YtlndinigbppafaaGreatTwnB
namespace Go.Proofs.YtlndinigbppafaaGreat
open Go.RowKit Go.Deep

/-- What Least gives of the first families. -/
structure LeastOf (fs : List Fam) (a b : ByteArray) (k : Bool) : Prop where
  no : k = false → ∀ f ∈ fs, f.2.2.length < 2
  yes : k = true → ∃ f ∈ fs, f.2.2 = [a, b]

theorem LeastOf.few {L : List Fam} {a b : ByteArray} {k : Bool} (h : LeastOf L a b k) (f : Fam) (hf : f.2.2.length < 2) : LeastOf (L ++ [f]) a b k := by
  refine ⟨fun hk g hg => ?_, fun hk => ?_⟩
  · rcases List.mem_append.1 hg with hg | hg
    · exact h.no hk g hg
    · simp at hg; subst hg; exact hf
  · obtain ⟨g, hg, e⟩ := h.yes hk
    exact ⟨g, by simp [hg], e⟩
theorem LeastOf.stay {L : List Fam} {a b : ByteArray} (h : LeastOf L a b true) (f : Fam) : LeastOf (L ++ [f]) a b true := by
  refine ⟨fun hk => (by cases hk), fun hk => ?_⟩
  obtain ⟨g, hg, e⟩ := h.yes hk
  exact ⟨g, by simp [hg], e⟩
theorem LeastOf.new (L : List Fam) {a b : ByteArray} (f : Fam) (hf : f.2.2 = [a, b]) : LeastOf (L ++ [f]) a b true :=
  ⟨fun hk => (by cases hk), fun _ => ⟨f, by simp, hf⟩⟩

set_option maxRecDepth 100000 in
set_option maxHeartbeats 1000000 in
theorem least_any (A b0 : Nat) (curA : Array Value) (Vf : Value) (fs : List Fam) (w : World) (hA : w.heap[A]? = some (.cells curA 47 (0, 0))) (h4 : curA[4]? = some Vf) (hF : FamsIn w b0 Vf fs) (hl : fs.length ≤ 100000) (h2 : ∀ f ∈ fs, f.2.2.length ≤ 2) :
    Calls Tryz.prog 64 #[.pointer (some ⟨A, 4, none⟩)] w fun e w' => ∃ a b k, e = .returned (.tuple #[.string a, .string b, .bool k]) ∧ LeastOf fs a b k ∧ Below w.heap.size w w' := by
  have hc4 : w.cell? ⟨A, 4, none⟩ = some Vf := by rw [cell_of_row _ _ _ _ _ _ hA]; exact h4
  have hV := FamsV.of_owns hF.row
  obtain ⟨ao, cap, rfl, hrest⟩ := id hV
  have HF : Hid (FamsIn w b0 (.slice ao fs.length cap) fs) := hF
  have H2 : Hid (∀ f ∈ fs, f.2.2.length ≤ 2) := h2
  clear hF h2 hrest
  go_enter Tryz.func64, Tryz.ntmps64
  go_wp2
  go_loopw [5, 6, 7, 15] (fun x y z i wr => ∃ (k : Nat) (a b : ByteArray) (fd : Bool), k ≤ fs.length ∧ x = .string a ∧ y = .string b ∧ z = .bool fd ∧ i = .int .i64 k ∧ Hid (LeastOf (fs.take k) a b fd) ∧ Below w.heap.size w wr) (fun _ _ _ i _ => fs.length - (intOf i).toNat)
  case atStart => exact ⟨0, _, _, _, Nat.zero_le _, rfl, rfl, rfl, rfl, ⟨fun _ f hf => by simp at hf, fun h => by cases h⟩, Below.refl _ _⟩
  case round =>
    obtain ⟨k, a, b, fd, hk, rfl, rfl, rfl, rfl, HL, hb⟩ := hrel
    by_cases hlt : k < fs.length
    · obtain ⟨bb, oo, rfl, hbb, x0, x1⟩ := fams_get (hV.below hb) k hlt
      have HF1 := HF.out.below hb
      have hmem : fs[k] ∈ fs := List.getElem_mem hlt
      have hT := strs_of_owns (HF1.txts fs[k] hmem)
      have h2 := H2.out fs[k] hmem
      have HT : Hid (fs.take (k + 1) = fs.take k ++ [fs[k]]) := take_snoc fs k hlt
      have HM : Hid (fs[k] ∈ fs) := hmem
      clear HF1 hmem
      generalize fs[k] = f at *
      obtain ⟨fsum, ⟨fa, fn, fc⟩, ft⟩ := f
      simp only at x0 x1 h2 hT
      obtain ⟨ao', cap', e, hcs⟩ := id hT
      simp only [slV, Value.slice.injEq] at e
      obtain ⟨rfl, rfl, rfl⟩ := e
      have hbs : w.heap.size ≤ wr.heap.size := hb.size
      by_cases hl2 : ft.length < 2
      · have hl2i : (ft.length : Int) < 2 := by omega
        clear hT hcs
        go_wp2
        go_roundw
        case rel => exact ⟨k + 1, a, b, fd, by omega, rfl, rfl, rfl, by go_num, by rw [HT.out]; exact HL.out.few _ hl2, hb.alloc hbs _⟩
        case measure => simp [intOf]; omega
      · obtain ⟨x, y, rfl⟩ : ∃ x y, ft = [x, y] := by
          match ft, hl2, h2 with
          | [], hl2, _ => simp at hl2
          | [_], hl2, _ => simp at hl2
          | [x, y], _, _ => exact ⟨x, y, rfl⟩
          | _ :: _ :: _ :: _, _, h2 => simp at h2
        obtain ⟨tb, to, rfl, htb, hc⟩ := hcs (by simp)
        have c0 := hc 0 (by simp)
        have c1 := hc 1 (by simp)
        simp only [List.getElem_cons_zero, List.getElem_cons_succ, Nat.add_zero] at c0 c1
        simp only [List.length_cons, List.length_nil] at x1
        clear hc hcs hT h2 hl2
        cases fd with
        | false =>
          go_wp2
          go_quiet (fail)
          have hbq := below_drewN (hb.alloc hbs (.cells #[.int .i64 fsum, .slice (some ⟨tb, to, none⟩) 2 fc] 167)) nq
          go_wp2
          go_roundw
          case rel => exact ⟨k + 1, x, y, true, by omega, rfl, rfl, rfl, by go_num, by rw [HT.out]; exact LeastOf.new _ _ rfl, hbq⟩
          case measure => simp [intOf]; omega
        | true =>
          cases hq : Op.bytesLess x.toList a.toList with
          | false =>
            go_wp2
            go_roundw
            case rel => exact ⟨k + 1, a, b, true, by omega, rfl, rfl, rfl, by go_num, by rw [HT.out]; exact HL.out.stay _, hb.alloc hbs _⟩
            case measure => simp [intOf]; omega
          | true =>
            go_wp2
            go_quiet (fail)
            have hbq := below_drewN (hb.alloc hbs (.cells #[.int .i64 fsum, .slice (some ⟨tb, to, none⟩) 2 fc] 167)) nq
            go_wp2
            go_roundw
            case rel => exact ⟨k + 1, x, y, true, by omega, rfl, rfl, rfl, by go_num, by rw [HT.out]; exact LeastOf.new _ _ rfl, hbq⟩
            case measure => simp [intOf]; omega
    · have hkl : k = fs.length := by omega
      subst hkl
      rw [List.take_length] at HL
      go_wp2
      go_returns
      exact ⟨_, _, _, rfl, HL.out, hb⟩
end Go.Proofs.YtlndinigbppafaaGreat
