/-
  The walks of the program's twins: Texts.Add.
-/
import Derived.Test.YtlndinigbppafaaGreatTwn
namespace Go.Proofs.YtlndinigbppafaaGreat
open Go.RowKit Go.Deep

/-- The families of an auditor, as they lie. -/
structure FamsIn (w : World) (b0 : Nat) (Vf : Value) (fs : List Fam) : Prop where
  row : w.ownsRow b0 167 2 Vf fs.length (cellsF fs)
  txts : ∀ f ∈ fs, w.ownsRow b0 9 1 (slV f.2.1) f.2.2.length (cellsS f.2.2)
  apart : fs.Pairwise (fun f g => ∀ b, (slV f.2.1).ownBlock = some b → (slV g.2.1).ownBlock ≠ some b)

theorem FamsIn.only {S : Nat → Prop} {w w' : World} {b0 : Nat} {Vf : Value} {fs : List Fam} (h : FamsIn w b0 Vf fs) (ho : Only S w w') (h1 : ∀ b, Vf.ownBlock = some b → ¬ S b) (h2 : ∀ f ∈ fs, ∀ b, (slV f.2.1).ownBlock = some b → ¬ S b) : FamsIn w' b0 Vf fs :=
  ⟨owns_only h.row ho h1, fun f hf => owns_only (h.txts f hf) ho (h2 f hf), h.apart⟩
theorem FamsIn.below {w w' : World} {b0 : Nat} {Vf : Value} {fs : List Fam} (h : FamsIn w b0 Vf fs) (hb : Below w.heap.size w w') : FamsIn w' b0 Vf fs :=
  h.only (Only.of_below (S := fun _ => False) hb) (fun _ _ h => h) (fun _ _ _ _ h => h)

theorem cellsF_set (A B : List Fam) (s : Int) (sl sl' : Sl) (T T' : List ByteArray) : cellsF (A ++ (s, sl', T') :: B) = (cellsF (A ++ (s, sl, T) :: B)).set (A.length * 2 + 1) (slV sl') := by
  rw [cellsF_append, cellsF_append, cellsF_cons, cellsF_cons, List.set_append_right _ _ (by rw [cellsF_length]; omega), cellsF_length, show A.length * 2 + 1 - A.length * 2 = 1 by omega]
  rfl

theorem FamsIn.added {w w' : World} {b0 G cap : Nat} {curF : Array Value} {A B : List Fam} {s : Int} {sl sl' : Sl} {T T' : List ByteArray} {t : ByteArray} (h : FamsIn w b0 (.slice (some ⟨G, 0, none⟩) (A ++ (s, sl, T) :: B).length cap) (A ++ (s, sl, T) :: B))
    (hG : w.heap[G]? = some (.cells curF 167 (0, 0))) (hA : Added G A.length curF s sl T t b0 w w' sl' T') : FamsIn w' b0 (.slice (some ⟨G, 0, none⟩) (A ++ (s, sl, T) :: B).length cap) (A ++ (s, sl', T') :: B) := by
  obtain ⟨curF', hG', hsz', hat, hoth⟩ := hA.blk
  have hlen : (A ++ (s, sl', T') :: B).length = (A ++ (s, sl, T) :: B).length := by simp
  have hap := h.apart
  rw [List.pairwise_append] at hap
  obtain ⟨apA, apB, apAB⟩ := hap
  rw [List.pairwise_cons] at apB
  have keep : ∀ f, f ∈ A ∨ f ∈ B → w'.ownsRow b0 9 1 (slV f.2.1) f.2.2.length (cellsS f.2.2) := by
    intro f hf
    have hm : f ∈ A ++ (s, sl, T) :: B := by rcases hf with h | h <;> simp [h]
    refine owns_only (h.txts f hm) hA.only ?_
    rintro b hb (rfl | hs)
    · exact owns_type (h.txts f hm) hG (by decide) hb
    · rcases hf with hf | hf
      · exact apAB f hf (s, sl, T) (by simp) b hb hs.symm
      · exact apB.1 f hf b hs.symm hb
  have far : ∀ f, f ∈ A ∨ f ∈ B → ∀ b, (slV f.2.1).ownBlock = some b → (slV sl').ownBlock ≠ some b := by
    intro f hf b hb hs
    have hm : f ∈ A ++ (s, sl, T) :: B := by rcases hf with h | h <;> simp [h]
    rcases hA.own with e | e
    · rw [e] at hs
      rcases hf with hf | hf
      · exact apAB f hf (s, sl, T) (by simp) b hb hs
      · exact apB.1 f hf b hs hb
    · have h1 := e b hs
      have h2 := (owns_lt (h.txts f hm) hb).2.1
      omega
  refine ⟨⟨by rw [cellsF_length], .inr ?_⟩, ?_, ?_⟩
  · rcases h.row.2 with ⟨e, _⟩ | ⟨g, cp, cur, e, h1, h2, h3, h4, h5, h6⟩
    · cases e
    · simp only [Value.slice.injEq, Option.some.injEq, Addr.mk.injEq] at e
      obtain ⟨⟨rfl, -⟩, -, rfl⟩ := e
      rw [hG] at h2
      simp only [Option.some.injEq, Obj.cells.injEq] at h2
      obtain ⟨rfl, -, -⟩ := h2
      refine ⟨G, cap, curF', by rw [hlen], h1, hG', by rw [hlen]; exact h3, h4, by rw [hsz']; exact h5, ?_⟩
      rw [hlen]
      rw [cellsF_set A B s sl sl' T T', ← h6]
      apply List.ext_getElem?
      intro i
      rw [List.getElem?_set, List.getElem?_take, List.getElem?_take]
      by_cases hi : A.length * 2 + 1 = i
      · subst hi
        rw [if_pos rfl]
        have hl : A.length * 2 + 1 < (A ++ (s, sl, T) :: B).length * 2 := by simp; omega
        rw [if_pos hl]
        have hl2 : A.length * 2 + 1 < (List.take ((A ++ (s, sl, T) :: B).length * 2) curF.toList).length := by rw [h6, cellsF_length]; exact hl
        rw [if_pos hl2]
        simpa using hat
      · rw [if_neg hi]
        by_cases hl : i < (A ++ (s, sl, T) :: B).length * 2
        · rw [if_pos hl, if_pos hl]
          have := hoth i (fun e => hi e.symm)
          simpa using this
        · rw [if_neg hl, if_neg hl]
  · intro f hf
    rcases List.mem_append.1 hf with hf | hf
    · exact keep f (.inl hf)
    · rcases List.mem_cons.1 hf with rfl | hf
      · exact hA.owns
      · exact keep f (.inr hf)
  · rw [List.pairwise_append, List.pairwise_cons]
    refine ⟨apA, ⟨fun g hg b hb hs => far g (.inr hg) b hs hb, apB.2⟩, fun f hf g hg => ?_⟩
    rcases List.mem_cons.1 hg with rfl | hg
    · exact fun b hb => far f (.inl hf) b hb
    · exact apAB f hf g (by simp [hg])

theorem rowsOne (w : World) (b : Nat) (u0 : Value) (l0 : List UInt8) (hb : b = w.heap.size) (h0 : BytesAt w u0 l0) : RowsAt (w.alloc (.cells #[u0] 27)) (.slice (some ⟨b, 0, none⟩) 1 1) [l0] := by
  refine RowsAt.lit rfl (heap_new w _ b hb) fun j hj => ?_
  match j, hj with
  | 0, _ => exact ⟨u0, rfl, h0.keep (keepA _ _)⟩
theorem take_at {α : Type} (l : List α) (p : Nat) (h : p < l.length) : l = l.take p ++ l[p] :: l.drop (p + 1) := by
  rw [← List.drop_eq_getElem_cons h, List.take_append_drop]

theorem set_same {c : Array Value} {i : Nat} {v : Value} (h : c[i]? = some v) : c.setIfInBounds i v = c := by
  apply Array.ext_getElem?
  intro j
  rw [Array.getElem?_setIfInBounds]
  split
  · rename_i e
    subst e
    rw [if_pos (Array.getElem?_eq_some_iff.1 h).1, h]
  · rfl
theorem two_stay {s : Int} {T T' : List ByteArray} (h : TOK s T) (h2 : T.length = 2) (q1 : T'.length ≤ 2) (q4 : ∀ x ∈ T, x ∈ T' ∨ T'.length = 2) : T'.length = 2 := by
  match T, h2, h, q4 with
  | [x, y], _, h, q4 =>
    have hxy := h.ord
    have hne : x ≠ y := fun e => by subst e; simp at hxy; exact ltB_irrefl _ hxy
    rcases q4 x (by simp) with hx | hx
    · rcases q4 y (by simp) with hy | hy
      · match T', hx, hy, q1 with
        | [z], hx, hy, _ => simp at hx hy; exact absurd (hx.trans hy.symm) hne
        | [z, z'], _, _, _ => rfl
      · exact hy
    · exact hx
theorem srchF_split {fs : List Fam} {s : Int} {p : Nat} (h : SrchF fs s p true) (ho : fs.Pairwise (fun f g => f.1 < g.1)) : ∃ A B sl T, fs = A ++ (s, sl, T) :: B ∧ A.length = p ∧ (∀ f ∈ A, f.1 < s) ∧ (∀ f ∈ B, s < f.1) := by
  obtain ⟨hp, he⟩ := h.known.1 rfl
  have e := take_at fs p hp
  generalize fs[p] = f at e he
  obtain ⟨f1, f2, f3⟩ := f
  simp only at he
  subst he
  refine ⟨fs.take p, fs.drop (p + 1), f2, f3, e, by rw [List.length_take]; omega, fun f hf => ?_, fun f hf => ?_⟩
  · obtain ⟨i, hi, rfl⟩ := List.getElem_of_mem hf
    rw [List.length_take] at hi
    rw [List.getElem_take]
    exact h.below i (by omega) (by omega)
  · rw [e, List.pairwise_append, List.pairwise_cons] at ho
    exact ho.2.1.1 f hf
theorem srchF_none {fs : List Fam} {s : Int} {p : Nat} (h : SrchF fs s p false) : (∀ f ∈ fs.take p, f.1 < s) ∧ (∀ f ∈ fs.drop p, s < f.1) ∨ ¬ fs.Pairwise (fun f g => f.1 < g.1) := by
  by_cases ho : fs.Pairwise (fun f g => f.1 < g.1)
  · left
    constructor
    · intro f hf
      obtain ⟨i, hi, rfl⟩ := List.getElem_of_mem hf
      rw [List.length_take] at hi
      rw [List.getElem_take]
      exact h.below i (by omega) (by omega)
    · intro f hf
      obtain ⟨i, hi, rfl⟩ := List.getElem_of_mem hf
      rw [List.length_drop] at hi
      rw [List.getElem_drop]
      have h1 := h.above (p + i) (by omega) (by omega)
      have h2 : fs[p + i].1 ≠ s := by
        intro e
        by_cases h0 : i = 0
        · subst h0
          exact absurd (h.known.2 ⟨by omega, e⟩) (by simp)
        · have h3 := List.pairwise_iff_getElem.1 ho p (p + i) (by omega) (by omega) (by omega)
          have h4 := h.above p (by omega) (by omega)
          omega
      omega
  · exact .inr ho

set_option maxRecDepth 100000 in
set_option maxHeartbeats 1000000 in
theorem texAdd_any (A b0 : Nat) (curA : Array Value) (Vf : Value) (fs : List Fam) (TL : List (List UInt8)) (t : ByteArray) (w : World) (hA : w.heap[A]? = some (.cells curA 47 (0, 0))) (h4 : curA[4]? = some Vf) (hF : FamsIn w b0 Vf fs) (hK : FOK fs TL) (ht : t.size ≤ 1000000) (hb0 : b0 ≤ w.heap.size) :
    Calls Tryz.prog 158 #[.pointer (some ⟨A, 4, none⟩), .string t] w fun e w' => e = .returned (.tuple #[]) ∧ ∃ (Vf' : Value) (fs' : List Fam), FamsIn w' b0 Vf' fs' ∧ FOK fs' (TL ++ [t.data.toList]) ∧ w'.heap[A]? = some (.cells (curA.setIfInBounds 4 Vf') 47 (0, 0)) ∧
      Only (fun k => k = A ∨ some k = Vf.ownBlock ∨ ∃ f ∈ fs, some k = (slV f.2.1).ownBlock) w w' := by
  have hcv := fun u s => @run_bytes_of_string Tryz.prog u 9 27 5 s Tryz.underlying9 Tryz.underlying27 Tryz.underlying5
  have e0 : t.data.toList.length = t.size := by rw [Array.length_toList]; rfl
  have HK : Hid (FOK fs TL) := hK
  have hlen := hK.len
  clear hK
  go_enter Tryz.func158, Tryz.ntmps158
  go_wp2_with fail
  have hR : RowsAt ((w.alloc (.cells (bytesRow t (grownCap w t.size 0 5)) 5 ((bytesRow t (grownCap w t.size 0 5)).size, (bytesRow t (grownCap w t.size 0 5)).size + 1))).alloc (.cells #[.slice (some ⟨w.heap.size, 0, none⟩) t.size (grownCap w t.size 0 5)] 27)).drew (.slice (some ⟨w.heap.size + 1, 0, none⟩) 1 1) [t.data.toList] := (rowsOne _ _ _ _ (by simp) (made_at _ _ _ _ _ _ rfl rfl)).keep (keepD _) (keepD _)
  have hW : Below w.heap.size w ((w.alloc (.cells (bytesRow t (grownCap w t.size 0 5)) 5 ((bytesRow t (grownCap w t.size 0 5)).size, (bytesRow t (grownCap w t.size 0 5)).size + 1))).alloc (.cells #[.slice (some ⟨w.heap.size, 0, none⟩) t.size (grownCap w t.size 0 5)] 27)).drew := (((Below.refl _ _).alloc (Nat.le_refl _) _).alloc (by simp) _).drew
  generalize ((w.alloc (.cells (bytesRow t (grownCap w t.size 0 5)) 5 ((bytesRow t (grownCap w t.size 0 5)).size, (bytesRow t (grownCap w t.size 0 5)).size + 1))).alloc (.cells #[.slice (some ⟨w.heap.size, 0, none⟩) t.size (grownCap w t.size 0 5)] 27)).drew = W at hR hW ⊢
  generalize grownCap w t.size 0 5 = gc
  clear hcv
  refine (sumOf_any [t.data.toList] _ _ hR (by simp) (by intro l hl; simp at hl; subst hl; omega)).mono ?_
  rintro e w1 ⟨rfl, rfl⟩
  rw [show [t.data.toList].flatten = t.data.toList by simp]
  clear hR
  have hA1 := heap_keep hA hW
  have hF1 := hF.below hW
  have hS := sm_bd t.data.toList
  obtain ⟨s, HSM⟩ : ∃ s, Hid (sm t.data.toList = s) := ⟨_, rfl⟩
  rw [HSM.out] at hS ⊢
  have hc4 : w1.cell? ⟨A, 4, none⟩ = some Vf := by rw [cell_of_row _ _ _ _ _ _ hA1]; exact h4
  obtain ⟨ao, cap, eV, hrest⟩ : ∃ ao cap, Vf = .slice ao fs.length cap ∧ FamsV w1 Vf fs := by
    obtain ⟨ao, cap, e, h⟩ := FamsV.of_owns hF1.row
    exact ⟨ao, cap, e, ao, cap, e, h⟩
  subst eV
  go_wp2_with fail
  refine (bsearchF_any fs s _ _ HK.out.ord HK.out.bd hS hrest (by omega)).mono ?_
  rintro e w2 ⟨p, k, rfl, hP, hb2⟩
  have hA2 := heap_keep hA1 hb2
  have hF2 := hF1.below hb2
  have hw2 := below_step hW hb2
  have hc2 : w2.cell? ⟨A, 4, none⟩ = some (.slice ao fs.length cap) := by rw [cell_of_row _ _ _ _ _ _ hA2]; exact h4
  have hf2 : w2.frozen? ⟨A, 4, none⟩ = false := by unfold World.frozen?; rw [hA2]; rfl
  clear hc4 hrest hb2 hF1 hA1 hW hF
  have HP : Hid (SrchF fs s p k) := hP
  have hpl := hP.le
  clear hP
  cases k with
  | true =>
    obtain ⟨A0, B0, sl, T, rfl, hpA, hlo, hhi⟩ := srchF_split HP.out HK.out.ord
    clear HP
    obtain ⟨G, cp, curF, eR, hbG, hG, hcl, hcm, hcs, hct⟩ : ∃ g cp cur, Value.slice ao (A0 ++ (s, sl, T) :: B0).length cap = .slice (some ⟨g, 0, none⟩) (A0 ++ (s, sl, T) :: B0).length cp ∧ b0 ≤ g ∧ w2.heap[g]? = some (.cells cur 167 (0, 0)) ∧ (A0 ++ (s, sl, T) :: B0).length ≤ cp ∧ cp ≤ maxLen ∧ cur.size = cp * 2 ∧ cur.toList.take ((A0 ++ (s, sl, T) :: B0).length * 2) = cellsF (A0 ++ (s, sl, T) :: B0) := by
      rcases hF2.row.2 with ⟨_, h0⟩ | h
      · simp at h0
      · exact h
    simp only [Value.slice.injEq, true_and] at eR
    obtain ⟨rfl, rfl⟩ := eR
    subst hpA
    have hcell : curF[A0.length * 2 + 1]? = some (slV sl) := by
      have := (cellsF_get (A0 ++ (s, sl, T) :: B0) A0.length (by simp)).2
      rw [← hct, List.getElem?_take, if_pos (by simp; omega)] at this
      simpa [slV] using this
    have hTK := HK.out.each (s, sl, T) (by simp)
    have hTX := hF2.txts (s, sl, T) (by simp)
    have hlt : (A0.length : Int) < ((A0 ++ (s, sl, T) :: B0).length : Int) := by simp; omega
    have hdone : ∀ w' sl' T', Added G A0.length curF s sl T t b0 w2 w' sl' T' → ∃ (Vf' : Value) (fs' : List Fam), FamsIn w' b0 Vf' fs' ∧ FOK fs' (TL ++ [t.data.toList]) ∧ w'.heap[A]? = some (.cells (curA.setIfInBounds 4 Vf') 47 (0, 0)) ∧
      Only (fun k => k = A ∨ some k = (Value.slice (some ⟨G, 0, none⟩) (A0 ++ (s, sl, T) :: B0).length cap).ownBlock ∨ ∃ f ∈ A0 ++ (s, sl, T) :: B0, some k = (slV f.2.1).ownBlock) w w' := by
      intro w' sl' T' hAd
      obtain ⟨q1, q2, q3, q4, q5⟩ := hAd.ok
      refine ⟨_, _, hF2.added hG hAd, FOK.add (M := [(s, sl, T)]) (by simpa using HK.out) hlo hhi q1 q2 HSM.out q3 (by intro f hf; simp at hf; subst hf; exact ⟨rfl, q4⟩) (by
        intro f hf h2
        simp at hf
        subst hf
        exact two_stay hTK.1 h2 q1.len q4) (fun x hx => (q5 x hx).symm.imp id fun h => ⟨(s, sl, T), by simp, h⟩), ?_, ?_⟩
      · rw [set_same h4, hAd.only.block A (lt_of_heap hA2) ?_]
        · exact hA2
        · rintro (e | e)
          · rw [e, hG] at hA2; simp at hA2
          · exact owns_type hTX hA2 (by decide) e.symm
      · refine (Only.of_below hw2).trans hAd.only ?_
        rintro k hk (e | e)
        · exact .inr (.inl (by rw [e]; rfl))
        · exact .inr (.inr ⟨(s, sl, T), by simp, e⟩)
    have HD : Hid _ := hdone
    have HTK : Hid _ := hTK
    clear hdone hcs hct hF2 HK hlo hhi hTK hA2 hA h4
    go_wp2_with fail
    refine (famAdd_any G A0.length curF s sl T t b0 w2 hG hcell hTX HTK.out.1 HSM.out ht (Nat.le_trans hb0 hw2.size)).mono ?_
    rintro e w3 ⟨rfl, sl', T', hAd⟩
    have HR : Hid _ := HD.out w3 sl' T' hAd
    clear HD hAd
    go_wp2
    go_returns
    exact ⟨rfl, HR.out⟩
  | false =>
    obtain ⟨hlo, hhi⟩ := (srchF_none HP.out).resolve_right (fun h => h HK.out.ord)
    clear HP
    have hAl : Below w2.heap.size w2 (w2.alloc (.cells #[.int .i64 s, .slice none 0 0] 167)) := (Below.refl _ _).alloc (Nat.le_refl _) _
    have hXV : (Value.slice ao fs.length cap).ownBlock ≠ some w2.heap.size := fun e => by have := (owns_lt hF2.row e).2.1; omega
    have hF2' := hF2.below hAl
    have hA2' := heap_keep hA2 hAl
    have hb02 := Nat.le_trans hb0 hw2.size
    go_wp2_with fail
    refine (insF_any fs (s, (none, 0, 0), []) _ p b0 w2.heap.size _ hpl hF2'.row (by omega) (by simp; omega) (heap_alloc_new w2 _) hXV).mono ?_
    rintro e w3 ⟨V', rfl, hO3, hgr, hat⟩
    have hfl : (fs.take p ++ (s, ((none, 0, 0) : Sl), ([] : List ByteArray)) :: fs.drop p).length = fs.length + 1 := by simp; omega
    have hpA : (fs.take p).length = p := by rw [List.length_take]; omega
    obtain ⟨G, cp, curF, rfl, hbG, hG3, hcl, hcm, hcs, hct⟩ : ∃ g cp cur, V' = .slice (some ⟨g, 0, none⟩) (fs.length + 1) cp ∧ b0 ≤ g ∧ w3.heap[g]? = some (.cells cur 167 (0, 0)) ∧ fs.length + 1 ≤ cp ∧ cp ≤ maxLen ∧ cur.size = cp * 2 ∧ cur.toList.take ((fs.length + 1) * 2) = cellsF (fs.take p ++ (s, ((none, 0, 0) : Sl), ([] : List ByteArray)) :: fs.drop p) := by
      rcases hO3.2 with ⟨_, h0⟩ | h
      · omega
      · exact h
    have hA3 : w3.heap[A]? = some (.cells curA 47 (0, 0)) := by rw [hgr.block A (lt_of_heap hA2') (fun e => owns_type hF2'.row hA2' (by decide) e.symm)]; exact hA2'
    have hF3 : FamsIn w3 b0 (.slice (some ⟨G, 0, none⟩) (fs.length + 1) cp) (fs.take p ++ (s, ((none, 0, 0) : Sl), ([] : List ByteArray)) :: fs.drop p) := by
      have hold : ∀ f ∈ fs, w3.ownsRow b0 9 1 (slV f.2.1) f.2.2.length (cellsS f.2.2) := fun f hf => owns_only (hF2'.txts f hf) (Only.of_grown hgr) (fun b hb e => by
        obtain ⟨_, _, cur, hc⟩ := owns_lt (hF2'.txts f hf) hb
        exact owns_type hF2'.row hc (by decide) e.symm)
      have hap := hF2'.apart
      rw [← List.take_append_drop p fs, List.pairwise_append] at hap
      refine ⟨by rw [hfl]; exact hO3, fun f hf => ?_, ?_⟩
      · rcases List.mem_append.1 hf with hf | hf
        · exact hold f (List.mem_of_mem_take hf)
        · rcases List.mem_cons.1 hf with rfl | hf
          · exact World.ownsRow_nil _ _ _ _
          · exact hold f (List.mem_of_mem_drop hf)
      · rw [List.pairwise_append, List.pairwise_cons]
        refine ⟨hap.1, ⟨fun g _ b hb => by simp [slV, Value.ownBlock] at hb, hap.2.1⟩, fun f hf g hg => ?_⟩
        rcases List.mem_cons.1 hg with rfl | hg
        · intro b _ hb
          simp [slV, Value.ownBlock] at hb
        · exact hap.2.2 f hf g hg
    have hGA : G ≠ A := fun e => by rw [e, hA3] at hG3; simp at hG3
    have hc3 : w3.cell? ⟨A, 4, none⟩ = some (.slice ao fs.length cap) := by rw [cell_of_row _ _ _ _ _ _ hA3]; exact h4
    have hf3 : w3.frozen? ⟨A, 4, none⟩ = false := by unfold World.frozen?; rw [hA3]; rfl
    have hA4 := set_heap 4 (.slice (some ⟨G, 0, none⟩) (fs.length + 1) cp) hA3
    have hG4 : (w3.setCell ⟨A, 4, none⟩ (.slice (some ⟨G, 0, none⟩) (fs.length + 1) cp)).heap[G]? = some (.cells curF 167 (0, 0)) := by rw [blk_setCell_other _ _ _ _ hGA]; exact hG3
    have hoS := Only.of_set w3 A 4 (.slice (some ⟨G, 0, none⟩) (fs.length + 1) cp)
    have hF4 := hF3.only hoS (fun b hb e => by simp [Value.ownBlock] at hb; omega) (fun f hf b hb e => by
      rw [e] at hb
      exact owns_type (hF3.txts f hf) hA3 (by decide) hb)
    have ho4 : Only (fun k => k = A ∨ some k = (Value.slice ao fs.length cap).ownBlock ∨ ∃ f ∈ fs, some k = (slV f.2.1).ownBlock) w (w3.setCell ⟨A, 4, none⟩ (.slice (some ⟨G, 0, none⟩) (fs.length + 1) cp)) :=
      (((Only.of_below hw2).trans (Only.of_below (S := fun _ => False) hAl) (fun _ _ h => h.elim)).trans (Only.of_grown hgr) (fun _ _ h => .inr (.inl h))).trans hoS (fun _ _ h => .inl h)
    have hown4 : G < w.heap.size → some G = (Value.slice ao fs.length cap).ownBlock := by
      intro hlt
      rcases hat with h | h
      · exact h
      · simp [Value.ownBlock] at h
        have := hw2.size
        omega
    have hb04 : b0 ≤ (w3.setCell ⟨A, 4, none⟩ (.slice (some ⟨G, 0, none⟩) (fs.length + 1) cp)).heap.size := by rw [nblk_setCell]; have := hgr.size; simp at this; omega
    have hcell : curF[p * 2 + 1]? = some (slV (none, 0, 0)) := by
      have := (cellsF_get (fs.take p ++ (s, ((none, 0, 0) : Sl), ([] : List ByteArray)) :: fs.drop p) p (by simp; omega)).2
      rw [← hct, List.getElem?_take, if_pos (by omega)] at this
      simp only [List.getElem_append_right (show (fs.take p).length ≤ p by omega), hpA, Nat.sub_self, List.getElem_cons_zero] at this
      simpa [slV] using this
    have hTX := hF4.txts (s, (none, 0, 0), []) (by simp)
    have hlt : (p : Int) < (fs.length : Int) + 1 := by omega
    have hsl : curA[4]? = some (Value.slice ao fs.length cap) := h4
    generalize hw4 : w3.setCell ⟨A, 4, none⟩ (.slice (some ⟨G, 0, none⟩) (fs.length + 1) cp) = w4 at hA4 hG4 hF4 ho4 hb04 hTX
    have hc4 : w4.cell? ⟨A, 4, none⟩ = some (.slice (some ⟨G, 0, none⟩) (fs.length + 1) cp) := by
      rw [cell_of_row _ _ _ _ _ _ hA4]; simp [(Array.getElem?_eq_some_iff.1 h4).1]
    have hdone : ∀ w' sl' T', Added G p curF s (none, 0, 0) [] t b0 w4 w' sl' T' → ∃ (Vf' : Value) (fs' : List Fam), FamsIn w' b0 Vf' fs' ∧ FOK fs' (TL ++ [t.data.toList]) ∧ w'.heap[A]? = some (.cells (curA.setIfInBounds 4 Vf') 47 (0, 0)) ∧
      Only (fun k => k = A ∨ some k = (Value.slice ao fs.length cap).ownBlock ∨ ∃ f ∈ fs, some k = (slV f.2.1).ownBlock) w w' := by
      intro w' sl' T' hAd
      obtain ⟨q1, q2, q3, q4, q5⟩ := hAd.ok
      rw [← hfl] at hF4
      have hF5 := hF4.added hG4 (by rw [hpA]; exact hAd)
      refine ⟨_, _, hF5, FOK.add (M := []) (by rw [List.nil_append, List.take_append_drop]; exact HK.out) hlo hhi q1 q2 HSM.out q3 (by simp) (by simp) (fun x hx => .inl ((q5 x hx).resolve_left (by simp))), ?_, ?_⟩
      · rw [hfl, hAd.only.block A (lt_of_heap hA4) ?_]
        · exact hA4
        · rintro (e | e)
          · exact hGA e.symm
          · simp [slV, Value.ownBlock] at e
      · refine ho4.trans hAd.only ?_
        rintro k hk (e | e)
        · exact .inr (.inl (by rw [e]; exact hown4 (by omega)))
        · simp [slV, Value.ownBlock] at e
    have HD : Hid _ := hdone
    clear hdone hcs hct hF2 HK hlo hhi hA2 hA h4 hF3 hF4 ho4 hown4 hoS hO3 hgr hat hA3 hF2' hA2' hAl hXV
    go_wp2_with fail
    refine (famAdd_any G p curF s (none, 0, 0) [] t b0 w4 hG4 hcell hTX ⟨by simp, by simp, by simp, by simp⟩ HSM.out ht hb04).mono ?_
    rintro e w5 ⟨rfl, sl', T', hAd⟩
    have HR : Hid _ := HD.out w5 sl' T' hAd
    clear HD hAd
    go_wp2
    go_returns
    exact ⟨rfl, HR.out⟩
end Go.Proofs.YtlndinigbppafaaGreat
