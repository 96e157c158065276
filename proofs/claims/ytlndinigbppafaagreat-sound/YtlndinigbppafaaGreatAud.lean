/-
  The program's auditor, as it lies; the walks of learnTexts.
-/
import Derived.Test.YtlndinigbppafaaGreatPrnC
import Derived.Test.YtlndinigbppafaaGreatTwnC
import Derived.Test.YtlndinigbppafaaGreatEntE
import Derived.Test.YtlndinigbppafaaGreatCodJ
namespace Go.Proofs.YtlndinigbppafaaGreat
open Go.RowKit Go.Deep

/-- An auditor that NewAuditor made: so many taken, these versions, events and families; all texts TL were added. -/
structure AudB (w : World) (b0 A : Nat) (n : Int) (Vv Ve Vf : Value) (vs : List (Int × Int)) (es : List Ent) (fs : List Fam) (TL : List (List UInt8)) : Prop where
  lo : b0 = A
  blk : w.heap[A]? = some (.cells #[.pointer (some ⟨A, 0, none⟩), .int .i64 n, Vv, Ve, Vf] 47 (0, 0))
  vers : w.ownsRow b0 89 2 Vv vs.length (cellsV vs)
  versN : vs.length = 0 → Vv = .slice none 0 0
  evs : w.ownsRow b0 82 2 Ve es.length (cellsE es)
  evsN : es.length = 0 → Ve = .slice none 0 0
  fams : FamsIn w b0 Vf fs
  ok : FOK fs TL

/-- The auditor's row of versions lies in this block. -/
def HungV (w : World) (A k : Nat) : Prop := ∃ V, w.cell? ⟨A, 2, none⟩ = some V ∧ V.ownBlock = some k
/-- Blocks that a call on an auditor may change: from b0 on, of these five types; of the rows of versions its own alone. -/
def MayA (w : World) (b0 k : Nat) : Prop := b0 ≤ k ∧ ∃ cur t fr, w.heap[k]? = some (.cells cur t fr) ∧ (t = 47 ∨ (t = 89 ∧ HungV w b0 k) ∨ t = 82 ∨ t = 167 ∨ t = 9)
/-- All else is as it was; no row of versions that was there became its own. -/
structure KeepsA (b0 : Nat) (a w : World) : Prop where
  only : Only (MayA a b0) a w
  hung : b0 < a.heap.size → ∀ k, k < a.heap.size → HungV w b0 k → HungV a b0 k
/-- Each block is what it was, by its type. -/
theorem MayA.back {a b : World} {b0 k : Nat} (h : KeepsA b0 a b) (hk : k < a.heap.size) (hm : MayA b b0 k) : MayA a b0 k := by
  by_cases hs : MayA a b0 k
  · exact hs
  · obtain ⟨h1, cur, t, fr, h2, h3⟩ := hm
    rw [h.only.block k hk hs] at h2
    refine ⟨h1, cur, t, fr, h2, ?_⟩
    rcases h3 with h3 | ⟨h3, h4⟩ | h3
    · exact .inl h3
    · exact .inr (.inl ⟨h3, h.hung (by omega) k hk h4⟩)
    · exact .inr (.inr h3)
theorem KeepsA.size {b0 : Nat} {a b : World} (h : KeepsA b0 a b) : a.heap.size ≤ b.heap.size := h.only.size
theorem KeepsA.refl (b0 : Nat) (w : World) : KeepsA b0 w w := ⟨⟨rfl, rfl, rfl, Nat.le_refl _, fun _ _ _ => rfl⟩, fun _ _ _ h => h⟩
theorem KeepsA.trans {b0 : Nat} {a b c : World} (h : KeepsA b0 a b) (g : KeepsA b0 b c) : KeepsA b0 a c :=
  ⟨Only.trans h.only g.only fun _ hk hm => MayA.back h hk hm, fun hb k hk hc => h.hung hb k hk (g.hung (Nat.lt_of_lt_of_le hb h.only.size) k (Nat.lt_of_lt_of_le hk h.only.size) hc)⟩
theorem KeepsA.of_below {b0 : Nat} {a b : World} (h : Below a.heap.size a b) : KeepsA b0 a b := ⟨Only.of_below h, fun hb k _ hc => by
  obtain ⟨V, h1, h2⟩ := hc
  rw [h.cell (p := ⟨b0, 2, none⟩) hb] at h1
  exact ⟨V, h1, h2⟩⟩
theorem KeepsA.of_only {b0 : Nat} {a b : World} {cur cur' : Array Value} {t t' : TypeId} {fr fr' : Nat × Nat} {V V' : Value} (h : Only (MayA a b0) a b) (h1 : a.heap[b0]? = some (.cells cur t fr)) (h2 : b.heap[b0]? = some (.cells cur' t' fr')) (c1 : cur[2]? = some V) (c2 : cur'[2]? = some V')
    (hv : ∀ k, k < a.heap.size → V'.ownBlock = some k → V.ownBlock = some k) : KeepsA b0 a b := by
  refine ⟨h, fun _ k hk hc => ?_⟩
  obtain ⟨V0, q1, q2⟩ := hc
  rw [cell_of_row _ _ _ _ _ _ h2, c2] at q1
  cases q1
  exact ⟨V, by rw [cell_of_row _ _ _ _ _ _ h1, c1], hv k hk q2⟩
theorem KeepsA.below {b0 : Nat} {a b : World} (h : KeepsA b0 a b) (hb : b0 ≤ a.heap.size) : Below b0 a b := Only.below h.only hb fun _ hk hm => by have := hm.1; omega
theorem KeepsA.keepsT {b0 : Nat} {t : TypeId} {a b : World} (h : KeepsA b0 a b) (h1 : t ≠ 47) (h2 : t ≠ 89) (h3 : t ≠ 82) (h4 : t ≠ 167) (h5 : t ≠ 9) : KeepsT t a b :=
  Only.keepsT h.only fun k cur fr e hm => by
    obtain ⟨_, cur', t', fr', e', hx⟩ := hm
    rw [e] at e'
    simp only [Option.some.injEq, Obj.cells.injEq] at e'
    obtain ⟨_, rfl, _⟩ := e'
    rcases hx with hx | ⟨hx, _⟩ | hx | hx | hx
    · exact h1 hx
    · exact h2 hx
    · exact h3 hx
    · exact h4 hx
    · exact h5 hx

/-- A row of versions that is not the auditor's own stays. -/
theorem KeepsA.vers {b0 k : Nat} {a b : World} (h : KeepsA b0 a b) (hk : k < a.heap.size) {cur : Array Value} {fr : Nat × Nat} (e : a.heap[k]? = some (.cells cur 89 fr)) (hn : ¬ HungV a b0 k) : b.heap[k]? = some (.cells cur 89 fr) := by
  rw [h.only.block k hk ?_]
  · exact e
  · rintro ⟨_, cur', t', fr', e', hx⟩
    rw [e] at e'
    simp only [Option.some.injEq, Obj.cells.injEq] at e'
    obtain ⟨_, rfl, _⟩ := e'
    rcases hx with hx | ⟨_, hx⟩ | hx | hx | hx
    · exact absurd hx (by decide)
    · exact hn hx
    · exact absurd hx (by decide)
    · exact absurd hx (by decide)
    · exact absurd hx (by decide)

/-- What reads an auditor's blocks alone stays. -/
theorem AudB.keep {w w' : World} {b0 A : Nat} {n : Int} {Vv Ve Vf : Value} {vs : List (Int × Int)} {es : List Ent} {fs : List Fam} {TL : List (List UInt8)} (h : AudB w b0 A n Vv Ve Vf vs es fs TL)
    (h1 : KeepsT 47 w w') (h2 : KeepsT 89 w w') (h3 : KeepsT 82 w w') (h4 : KeepsT 167 w w') (h5 : KeepsT 9 w w') : AudB w' b0 A n Vv Ve Vf vs es fs TL := by
  have hk : ∀ {t : TypeId} {base size n : Nat} {v : Value} {xs : List Value}, KeepsT t w w' → w.ownsRow base t size v n xs → w'.ownsRow base t size v n xs := fun hk h => by
    refine ⟨h.1, ?_⟩
    rcases h.2 with h | ⟨g, cap, cur, rfl, q1, q2, q3⟩
    · exact .inl h
    · exact .inr ⟨g, cap, cur, rfl, q1, hk _ _ _ q2, q3⟩
  exact ⟨h.lo, h1 _ _ _ h.blk, hk h2 h.vers, h.versN, hk h3 h.evs, h.evsN, ⟨hk h4 h.fams.row, fun f hf => hk h5 (h.fams.txts f hf), h.fams.apart⟩, h.ok⟩
theorem AudB.below {w w' : World} {b0 A : Nat} {n : Int} {Vv Ve Vf : Value} {vs : List (Int × Int)} {es : List Ent} {fs : List Fam} {TL : List (List UInt8)} (h : AudB w b0 A n Vv Ve Vf vs es fs TL) (hb : Below w.heap.size w w') : AudB w' b0 A n Vv Ve Vf vs es fs TL :=
  h.keep (KeepsT.of_below hb (Nat.le_refl _)) (KeepsT.of_below hb (Nat.le_refl _)) (KeepsT.of_below hb (Nat.le_refl _)) (KeepsT.of_below hb (Nat.le_refl _)) (KeepsT.of_below hb (Nat.le_refl _))
theorem AudB.sub {w : World} {b0 A : Nat} {n : Int} {Vv Ve Vf : Value} {vs : List (Int × Int)} {es : List Ent} {fs : List Fam} {TL TL' : List (List UInt8)} (h : AudB w b0 A n Vv Ve Vf vs es fs TL) (hs : ∀ x, x ∈ TL' ↔ x ∈ TL) : AudB w b0 A n Vv Ve Vf vs es fs TL' :=
  ⟨h.lo, h.blk, h.vers, h.versN, h.evs, h.evsN, h.fams, ⟨h.ok.ord, h.ok.each, fun t ht => h.ok.cov t ((hs t).1 ht), fun f hf x hx => (hs _).2 (h.ok.src f hf x hx)⟩⟩

/-- One text more. -/
theorem audAdd_any (w : World) (b0 A : Nat) (n : Int) (Vv Ve Vf : Value) (vs : List (Int × Int)) (es : List Ent) (fs : List Fam) (TL : List (List UInt8)) (t : ByteArray) (h : AudB w b0 A n Vv Ve Vf vs es fs TL) (ht : t.size ≤ 1000000) (hb0 : b0 ≤ w.heap.size) :
    Calls Tryz.prog 158 #[.pointer (some ⟨A, 4, none⟩), .string t] w fun e w' => e = .returned (.tuple #[]) ∧ ∃ (Vf' : Value) (fs' : List Fam), AudB w' b0 A n Vv Ve Vf' vs es fs' (TL ++ [t.data.toList]) ∧ KeepsA b0 w w' := by
  refine (texAdd_any A b0 _ Vf fs TL t w h.blk rfl h.fams h.ok ht hb0).mono fun e w' ⟨he, Vf', fs', h1, h2, h3, h4⟩ => ⟨he, Vf', fs', ?_, ?_⟩
  · have hsv : ∀ b, Vv.ownBlock = some b → ¬ (b = A ∨ some b = Vf.ownBlock ∨ ∃ f ∈ fs, some b = (slV f.2.1).ownBlock) := by
      intro b hb
      obtain ⟨_, _, cur, hc⟩ := owns_lt h.vers hb
      rintro (rfl | e | ⟨f, hf, e⟩)
      · rw [h.blk] at hc; simp at hc
      · exact owns_type h.fams.row hc (by decide) e.symm
      · exact owns_type (h.fams.txts f hf) hc (by decide) e.symm
    have hse : ∀ b, Ve.ownBlock = some b → ¬ (b = A ∨ some b = Vf.ownBlock ∨ ∃ f ∈ fs, some b = (slV f.2.1).ownBlock) := by
      intro b hb
      obtain ⟨_, _, cur, hc⟩ := owns_lt h.evs hb
      rintro (rfl | e | ⟨f, hf, e⟩)
      · rw [h.blk] at hc; simp at hc
      · exact owns_type h.fams.row hc (by decide) e.symm
      · exact owns_type (h.fams.txts f hf) hc (by decide) e.symm
    exact ⟨h.lo, h3, owns_only h.vers h4 hsv, h.versN, owns_only h.evs h4 hse, h.evsN, h1, h2⟩
  · have hlo := h.lo
    subst hlo
    refine KeepsA.of_only (Only.mono h4 ?_) h.blk h3 rfl rfl (fun _ _ h => h)
    rintro k hk (rfl | e | ⟨f, hf, e⟩)
    · exact ⟨Nat.le_refl _, _, _, _, h.blk, .inl rfl⟩
    · obtain ⟨q1, _, cur, hc⟩ := owns_lt h.fams.row e.symm
      exact ⟨q1, _, _, _, hc, .inr (.inr (.inr (.inl rfl)))⟩
    · obtain ⟨q1, _, cur, hc⟩ := owns_lt (h.fams.txts f hf) e.symm
      exact ⟨q1, _, _, _, hc, .inr (.inr (.inr (.inr rfl)))⟩
end Go.Proofs.YtlndinigbppafaaGreat
