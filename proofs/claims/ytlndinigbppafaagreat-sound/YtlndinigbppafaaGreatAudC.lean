/-
  The walks of the program's auditor: NewAuditor, closed, learnVersion, learnEvent.
-/
import Derived.Test.YtlndinigbppafaaGreatAudB
import Derived.Test.YtlndinigbppafaaGreatEntD
namespace Go.Proofs.YtlndinigbppafaaGreat
open Go.RowKit Go.Deep

theorem Tryz.infoAud : (Tryz.prog.info? 47).map (fun i => i.size) = some 5 := by kernel_rfl
theorem same_ptrA (d : Nat) (w : World) (a : Addr) : (Op.equalIn (d + 1) 38 (.pointer (some a)) (.pointer (some a))).run Tryz.prog w = .ok true w := by
  obtain ⟨i, hi, _⟩ : ∃ i, Tryz.prog.info? 47 = some i ∧ i.size = 5 := by
    have h := Tryz.infoAud
    cases e : Tryz.prog.info? 47 with
    | none => rw [e] at h; cases h
    | some i => rw [e] at h; exact ⟨i, rfl, by simpa using h⟩
  simp [Op.equalIn, run_underlying Tryz.underlying38, sizeOf, typeInfo, hi, run_sameAddr_same]
theorem neq_selfA (w : World) (a : Addr) : (binOp .neq 38 (.pointer (some a)) (.pointer (some a))).run Tryz.prog w = .ok (.bool false) w := by
  have h : (Op.equal 38 (.pointer (some a)) (.pointer (some a))).run Tryz.prog w = .ok true w := same_ptrA 9999 w a
  simp only [binOp]
  simp [h]

set_option maxRecDepth 100000 in
set_option maxHeartbeats 400000 in
theorem closedA_any (w : World) (A : Nat) (c : Array Value) (fr : Nat × Nat) (h : w.heap[A]? = some (.cells c 47 fr)) (h0 : c[0]? = some (.pointer (some ⟨A, 0, none⟩))) :
    Calls Tryz.prog 58 #[.pointer (some ⟨A, 0, none⟩)] w fun e w' => e = .returned (.bool false) ∧ w' = w := by
  have hm : w.cell? ⟨A, 0, none⟩ = some (.pointer (some ⟨A, 0, none⟩)) := by rw [cell_of_row _ _ _ _ _ _ h]; exact h0
  have hne := neq_selfA w ⟨A, 0, none⟩
  go_enter Tryz.func58, Tryz.ntmps58
  go_wp2
  go_ret
  exact ⟨rfl, rfl⟩

set_option maxRecDepth 100000 in
set_option maxHeartbeats 400000 in
theorem newAuditor_any (w : World) :
    Calls Tryz.prog 21 #[] w fun e w' => ∃ A, e = .returned (.pointer (some ⟨A, 0, none⟩)) ∧ A = w.heap.size ∧ AudB w' w.heap.size A 0 (.slice none 0 0) (.slice none 0 0) (.slice none 0 0) [] [] [] [] ∧ Below w.heap.size w w' := by
  go_enter Tryz.func21, Tryz.ntmps21
  go_wp2
  go_ret
  exact ⟨_, rfl, rfl, ⟨rfl, heap_alloc_new w _, World.ownsRow_nil _ _ _ _, fun _ => rfl, World.ownsRow_nil _ _ _ _, fun _ => rfl, ⟨World.ownsRow_nil _ _ _ _, by simp, .nil⟩, FOK.nil⟩, (Below.refl _ _).alloc (Nat.le_refl _) _⟩

/-- Behind the append of a version, and its store. -/
theorem versAdded {W W1 w2 : World} {b0 A : Nat} {n : Int} {Vv Ve Vf : Value} {vs : List (Int × Int)} {es : List Ent} {fs : List Fam} {TL : List (List UInt8)} {x : Int × Int} {g cap2 : Nat} (h : AudB W b0 A n Vv Ve Vf vs es fs TL) (hb : Below W.heap.size W W1)
    (hown : w2.ownsRow b0 89 2 (.slice (some ⟨g, 0, none⟩) (vs.length + 1) cap2) (vs.length + 1) (cellsV vs ++ [.int .i64 x.1, .int .i64 x.2])) (hgrow : W1.grownBy w2 Vv.ownBlock) (hat : Vv.ownBlock = some g ∨ W1.heap.size ≤ g) :
    w2.cell? ⟨A, 2, none⟩ = some Vv ∧ w2.frozen? ⟨A, 2, none⟩ = false ∧ Hid (AudB (w2.setCell ⟨A, 2, none⟩ (.slice (some ⟨g, 0, none⟩) (vs.length + 1) cap2)) b0 A n (.slice (some ⟨g, 0, none⟩) (vs.length + 1) cap2) Ve Vf (vs ++ [x]) es fs TL ∧ KeepsA b0 W (w2.setCell ⟨A, 2, none⟩ (.slice (some ⟨g, 0, none⟩) (vs.length + 1) cap2))) := by
  have h1 := h.below hb
  have hA2 : w2.heap[A]? = _ := (hgrow.block A (lt_of_heap h1.blk) (fun e => owns_type h1.vers h1.blk (by decide) e.symm)).trans h1.blk
  refine ⟨by rw [cell_of_row _ _ _ _ _ _ hA2]; rfl, by unfold World.frozen?; rw [hA2]; rfl, ?_⟩
  have ho : Only (fun k => k = A ∨ some k = Vv.ownBlock) W1 (w2.setCell ⟨A, 2, none⟩ (.slice (some ⟨g, 0, none⟩) (vs.length + 1) cap2)) := ((Only.of_grown hgrow).mono (fun _ _ h => .inr h)).trans (Only.of_set w2 A 2 _) (fun _ _ h => .inl h)
  have hset := set_heap 2 (.slice (some ⟨g, 0, none⟩) (vs.length + 1) cap2) hA2
  have hgA : g ≠ A := fun e => owns_type hown hA2 (by decide) (by rw [← e]; rfl)
  have far : ∀ {t : TypeId} {size m : Nat} {v : Value} {xs : List Value}, t ≠ 89 → t ≠ 47 → W1.ownsRow b0 t size v m xs → ∀ b, v.ownBlock = some b → ¬ (b = A ∨ some b = Vv.ownBlock) := fun ht1 ht2 hr b hb' => by
    obtain ⟨_, _, cur, hc⟩ := owns_lt hr hb'
    rintro (e | e)
    · rw [e, h1.blk] at hc
      simp only [Option.some.injEq, Obj.cells.injEq] at hc
      exact ht2 hc.2.1.symm
    · exact owns_type h1.vers hc (fun e => ht1 e.symm) e.symm
  refine ⟨⟨h.lo, hset, ?_, fun hz => by simp at hz, owns_only h1.evs ho (far (by decide) (by decide) h1.evs), h.evsN, h1.fams.only ho (far (by decide) (by decide) h1.fams.row) (fun f hf => far (by decide) (by decide) (h1.fams.txts f hf)), h.ok⟩, ?_⟩
  · rw [List.length_append, List.length_singleton, cellsV_append]
    exact owns_only hown (Only.of_set w2 A 2 _) (fun b hb' e => by simp [Value.ownBlock] at hb'; omega)
  · have hlo := h.lo
    subst hlo
    refine KeepsA.trans (KeepsA.of_below hb) (KeepsA.of_only (Only.mono ho ?_) h1.blk hset rfl rfl ?_)
    · rintro k hk (rfl | e)
      · exact ⟨Nat.le_refl _, _, _, _, h1.blk, .inl rfl⟩
      · obtain ⟨q1, _, cur, hc⟩ := owns_lt h1.vers e.symm
        exact ⟨q1, _, _, _, hc, .inr (.inl ⟨rfl, Vv, by rw [cell_of_row _ _ _ _ _ _ h1.blk]; rfl, e.symm⟩)⟩
    · intro k hk e
      have hgk : g = k := by simpa [Value.ownBlock] using e
      rw [← hgk]
      exact hat.resolve_right (by omega)

set_option maxRecDepth 100000 in
set_option maxHeartbeats 1000000 in
theorem learnVersion_any (w : World) (b0 A : Nat) (n : Int) (Vv Ve Vf : Value) (vs : List (Int × Int)) (es : List Ent) (fs : List Fam) (TL : List (List UInt8)) (x : Int × Int) (h : AudB w b0 A n Vv Ve Vf vs es fs TL) (hb0 : b0 ≤ w.heap.size) (hl : vs.length ≤ 1000) :
    Calls Tryz.prog 122 #[.pointer (some ⟨A, 0, none⟩), .agg #[.int .i64 x.1, .int .i64 x.2]] w fun e w' => e = .returned (.tuple #[]) ∧ ∃ Vv', AudB w' b0 A n Vv' Ve Vf (vs ++ [x]) es fs TL ∧ KeepsA b0 w w' := by
  obtain ⟨i0, hi, hz0, hz1, hz2⟩ := info_parts Tryz.infoVer
  obtain ⟨ao, cap, rfl, hrest⟩ := VersAt.of_owns h.vers
  clear hrest
  have hA : Below w.heap.size w (w.alloc (.cells #[.int .i64 x.1, .int .i64 x.2] 89)) := (Below.refl _ _).alloc (Nat.le_refl _) _
  have hW := h.below hA
  have g0 := box2 (heap_new w (.cells #[.int .i64 x.1, .int .i64 x.2] 89) _ rfl)
  go_enter Tryz.func122, Tryz.ntmps122
  go_wp2
  have hbW : b0 ≤ (w.alloc (.cells #[.int .i64 x.1, .int .i64 x.2] 89)).heap.size := Nat.le_trans hb0 hA.size
  have hKW : KeepsA b0 w (w.alloc (.cells #[.int .i64 x.1, .int .i64 x.2] 89)) := KeepsA.of_below hA
  generalize w.alloc (.cells #[.int .i64 x.1, .int .i64 x.2] 89) = W at hW g0 hbW hKW ⊢
  obtain ⟨f0, f1⟩ := g0
  have hc : W.cell? ⟨A, 2, none⟩ = some (.slice ao vs.length cap) := by rw [cell_of_row _ _ _ _ _ _ hW.blk]; rfl
  have HW : Hid (AudB W b0 A n (.slice ao vs.length cap) Ve Vf vs es fs TL) := hW
  have hAW := lt_of_heap hW.blk
  clear hW h hA
  go_region_law (first
    | (refine step_append_lies _ rfl (.tmp 8) (.tmp 10) 28 rfl b0 89 i0 (.agg #[.int .i64 0, .int .i64 0]) 2 16 Tryz.underlying28 hi hz0 hz1 hz2 rfl (by decide) (.slice ao vs.length cap) vs.length (cellsV vs) (by simp [Act.eval]) (owns_below (AudB.vers HW.out) (by repeat (first | exact Below.refl _ _ | refine Below.drew ?_ | refine Below.alloc ?_ (by first | omega | (simp; omega) | simp) _))) ⟨W.heap.size, 0, none⟩ 1 1 [.int .i64 x.1, .int .i64 x.2] (by simp [Act.eval]) rfl (World.news_of_block (heap_alloc_new _ _)) (by intro u hu; simp at hu; rcases hu with rfl | rfl <;> rfl) (by decide) (by unfold maxLen; omega) (by omega) (by simp; omega) _ rfl ?_; intro g cap2 w2 hown2 hgrow hat hlt; have hR := versAdded HW.out (by repeat (first | exact Below.refl _ _ | refine Below.drew ?_ | refine Below.alloc ?_ (by first | omega | (simp; omega) | simp) _)) hown2 hgrow (hat.imp (fun h => h) (fun h => by rw [h]; first | exact Nat.le_refl _ | (simp; done) | (simp; omega))); obtain ⟨c2, z2, HR⟩ := hR))
  all_goals clear hown2 hgrow hat hlt c2 z2 HW hc f0 f1
  all_goals go_returns
  all_goals exact ⟨rfl, _, HR.out.1, hKW.trans HR.out.2⟩

theorem owned_some {w : World} {base size n : Nat} {e : TypeId} {v : Value} {xs : List Value} (h : w.ownsRow base e size v (n + 1) xs) : ∃ g cap, v = .slice (some ⟨g, 0, none⟩) (n + 1) cap := by
  rcases h.2 with ⟨_, h0⟩ | ⟨g, cap, _, rfl, _⟩
  · omega
  · exact ⟨g, cap, rfl⟩
/-- Behind the insertion of an event, and its store. -/
theorem entAdded {W W1 w2 : World} {b0 A : Nat} {n : Int} {Vv Ve Vf V' : Value} {vs : List (Int × Int)} {es es' : List Ent} {fs : List Fam} {TL : List (List UInt8)} (h : AudB W b0 A n Vv Ve Vf vs es fs TL) (hb : Below W.heap.size W W1)
    (hown : w2.ownsRow b0 82 2 V' (es.length + 1) (cellsE es')) (hgrow : W1.grownBy w2 Ve.ownBlock) :
    w2.cell? ⟨A, 3, none⟩ = some Ve ∧ w2.frozen? ⟨A, 3, none⟩ = false ∧ Hid (AudB (w2.setCell ⟨A, 3, none⟩ V') b0 A n Vv V' Vf vs es' fs TL ∧ KeepsA b0 W (w2.setCell ⟨A, 3, none⟩ V')) := by
  have h1 := h.below hb
  have hlen : es'.length = es.length + 1 := by have := hown.1; rw [cellsE_length] at this; omega
  have hA2 : w2.heap[A]? = _ := (hgrow.block A (lt_of_heap h1.blk) (fun e => owns_type h1.evs h1.blk (by decide) e.symm)).trans h1.blk
  refine ⟨by rw [cell_of_row _ _ _ _ _ _ hA2]; rfl, by unfold World.frozen?; rw [hA2]; rfl, ?_⟩
  have ho : Only (fun k => k = A ∨ some k = Ve.ownBlock) W1 (w2.setCell ⟨A, 3, none⟩ V') := ((Only.of_grown hgrow).mono (fun _ _ h => .inr h)).trans (Only.of_set w2 A 3 _) (fun _ _ h => .inl h)
  have hset := set_heap 3 V' hA2
  have far : ∀ {t : TypeId} {size m : Nat} {v : Value} {xs : List Value}, t ≠ 82 → t ≠ 47 → W1.ownsRow b0 t size v m xs → ∀ b, v.ownBlock = some b → ¬ (b = A ∨ some b = Ve.ownBlock) := fun ht1 ht2 hr b hb' => by
    obtain ⟨_, _, cur, hc⟩ := owns_lt hr hb'
    rintro (e | e)
    · rw [e, h1.blk] at hc
      simp only [Option.some.injEq, Obj.cells.injEq] at hc
      exact ht2 hc.2.1.symm
    · exact owns_type h1.evs hc (fun e => ht1 e.symm) e.symm
  refine ⟨⟨h.lo, hset, owns_only h1.vers ho (far (by decide) (by decide) h1.vers), h.versN, ?_, fun hz => by omega, h1.fams.only ho (far (by decide) (by decide) h1.fams.row) (fun f hf => far (by decide) (by decide) (h1.fams.txts f hf)), h.ok⟩, ?_⟩
  · rw [hlen]
    exact owns_only hown (Only.of_set w2 A 3 _) (fun b hb' e => owns_type hown hA2 (by decide) (by rw [← e]; exact hb'))
  · have hlo := h.lo
    subst hlo
    refine KeepsA.trans (KeepsA.of_below hb) (KeepsA.of_only (Only.mono ho ?_) h1.blk hset rfl rfl (fun _ _ h => h))
    rintro k hk (rfl | e)
    · exact ⟨Nat.le_refl _, _, _, _, h1.blk, .inl rfl⟩
    · obtain ⟨q1, _, cur, hc⟩ := owns_lt h1.evs e.symm
      exact ⟨q1, _, _, _, hc, .inr (.inr (.inl rfl))⟩

set_option maxRecDepth 100000 in
set_option maxHeartbeats 1000000 in
theorem learnEvent_any (w : World) (b0 A : Nat) (n : Int) (Vv Ve Vf : Value) (vs : List (Int × Int)) (es : List Ent) (fs : List Fam) (TL : List (List UInt8)) (x : Ent) (h : AudB w b0 A n Vv Ve Vf vs es fs TL) (hb0 : b0 ≤ w.heap.size) (hl : es.length ≤ 1000) (hs : SortE es) :
    Calls Tryz.prog 127 #[.pointer (some ⟨A, 0, none⟩), entV x] w fun e w' => e = .returned (.tuple #[]) ∧ ∃ Ve', AudB w' b0 A n Vv Ve' Vf vs (insE es x) fs TL ∧ KeepsA b0 w w' := by
  obtain ⟨xi, xs⟩ := x
  have hV := EntsAt.of_owns h.evs
  obtain ⟨ao, cap, rfl, hrest⟩ := id hV
  clear hrest
  have hA : Below w.heap.size w (w.alloc (.cells #[.int .i64 xi, .string xs] 82)) := (Below.refl _ _).alloc (Nat.le_refl _) _
  have hW := h.below hA
  have g0 := heap_new w (.cells #[.int .i64 xi, .string xs] 82) _ rfl
  have hVW := hV.below hA
  have hKW : KeepsA b0 w (w.alloc (.cells #[.int .i64 xi, .string xs] 82)) := KeepsA.of_below hA
  have hbW : b0 ≤ (w.alloc (.cells #[.int .i64 xi, .string xs] 82)).heap.size := Nat.le_trans hb0 hA.size
  have HS : Hid (SortE es) := hs
  clear h hA hV hs
  unfold entV
  go_enter Tryz.func127, Tryz.ntmps127
  go_wp2
  generalize w.alloc (.cells #[.int .i64 xi, .string xs] 82) = W at hW g0 hVW hKW hbW ⊢
  obtain ⟨f0, f1⟩ := box2 g0
  have hc : W.cell? ⟨A, 3, none⟩ = some (.slice ao es.length cap) := by rw [cell_of_row _ _ _ _ _ _ hW.blk]; rfl
  have f := And.intro hc (And.intro f0 f1)
  clear hc f0 f1
  have HVW : Hid (EntsAt W (.slice ao es.length cap) es) := hVW
  clear hVW
  go_region_held3 (fun u => u.cell? ⟨A, 3, none⟩ = some (.slice ao es.length cap) ∧ u.cell? ⟨w.heap.size, 0, none⟩ = some (.int .i64 xi) ∧ u.cell? ⟨w.heap.size, 1, none⟩ = some (.string xs)) (first | (with_reducible assumption) | exact f | fail)
    (first | (go_at_call 159; refine (bsearch_any es (xi, xs) _ _ HS.out (EntsAt.below HVW.out (Below.refl _ _).drew) (by omega)).mono ?_; rintro e w1 ⟨rfl, hb1⟩; have hk1 := cells3c f (Below.trans (Below.refl _ _).drew hb1)) | fail)
  have hb01 : Below W.heap.size W w1 := Below.trans (Below.refl _ _).drew hb1
  have hW1 := hW.below hb01
  have g1 := heap_keep g0 hb01
  have hK1 := hKW.trans (KeepsA.of_below (b0 := b0) hb01)
  have hbw1 := Nat.le_trans hbW hb01.size
  clear hW g0 hKW hbW f hb1 hk1 hb01
  obtain ⟨f0, f1⟩ := box2 g1
  have hc : w1.cell? ⟨A, 3, none⟩ = some (.slice ao es.length cap) := by rw [cell_of_row _ _ _ _ _ _ hW1.blk]; rfl
  have hpl := placeE_le es (xi, xs)
  cases hh : hasE es (xi, xs) with
  | true =>
    have HI : Hid (insE es (xi, xs) = es) := if_pos hh
    have HW1 : Hid (AudB w1 b0 A n Vv (.slice ao es.length cap) Vf vs es fs TL) := hW1
    clear hW1 hh
    go_wp2
    go_returns
    exact ⟨rfl, _, by rw [HI.out]; exact HW1.out, hK1⟩
  | false =>
    have HI : Hid (insE es (xi, xs) = es.take (placeE es (xi, xs)) ++ (xi, xs) :: es.drop (placeE es (xi, xs))) := if_neg (by rw [hh]; simp)
    generalize placeE es (xi, xs) = p at hpl HI ⊢
    clear hh
    go_wp2
    have hXV : (Value.slice ao es.length cap).ownBlock ≠ some w1.heap.size := fun e => by have := (owns_lt hW1.evs e).2.1; omega
    have HW1 : Hid (AudB w1 b0 A n Vv (.slice ao es.length cap) Vf vs es fs TL) := hW1
    have hlt1 := lt_of_heap g1
    have hAl := lt_of_heap hW1.blk
    clear hW1 g1
    go_region_with (first
      | (go_at_call 161; refine Calls.mono (insert_any es (xi, xs) _ p b0 w1.heap.size _ hpl (owns_below (AudB.evs HW1.out) (by repeat (first | exact Below.refl _ _ | refine Below.drew ?_ | refine Below.alloc ?_ (by first | omega | (simp; omega) | simp) _))) (by omega) (by simp; omega) (heap_alloc_new _ _) hXV) ?_; rintro e w2 ⟨V', rfl, hO2, hgr, hat⟩; obtain ⟨g2, cap2, rfl⟩ := owned_some hO2; obtain ⟨c2, z2, HR⟩ := entAdded HW1.out (by repeat (first | exact Below.refl _ _ | refine Below.drew ?_ | refine Below.alloc ?_ (by first | omega | (simp; omega) | simp) _)) hO2 hgr))
    all_goals clear hO2 hgr hat c2 z2 HW1 hc f0 f1
    all_goals go_returns
    all_goals exact ⟨rfl, _, by rw [HI.out]; exact HR.out.1, hK1.trans HR.out.2⟩
end Go.Proofs.YtlndinigbppafaaGreat
