/-
  The walks of the program's auditor: Take, Versions, Events, Collision.
-/
import Derived.Test.YtlndinigbppafaaGreatAudI
namespace Go.Proofs.YtlndinigbppafaaGreat
open Go.RowKit Go.Deep

/-- An auditor that NewAuditor made and that took these messages. -/
def AudAt (w : World) (b0 A : Nat) (ts : List Msg) : Prop := Took ts ∧ ∃ Vv Ve Vf fs, AudB w b0 A ts.length Vv Ve Vf (versL ts) (evL ts) fs (txL ts)
theorem AudAt.lt {w : World} {b0 A : Nat} {ts : List Msg} (h : AudAt w b0 A ts) : b0 ≤ A ∧ A < w.heap.size := by
  obtain ⟨_, _, _, _, _, h⟩ := h
  exact ⟨Nat.le_of_eq h.lo, lt_of_heap h.blk⟩
theorem AudAt.keep {w w' : World} {b0 A : Nat} {ts : List Msg} (h : AudAt w b0 A ts) (h1 : KeepsT 47 w w') (h2 : KeepsT 89 w w') (h3 : KeepsT 82 w w') (h4 : KeepsT 167 w w') (h5 : KeepsT 9 w w') : AudAt w' b0 A ts := by
  obtain ⟨ht, a, b, c, d, h⟩ := h
  exact ⟨ht, a, b, c, d, h.keep h1 h2 h3 h4 h5⟩
theorem AudAt.below {w w' : World} {b0 A : Nat} {ts : List Msg} (h : AudAt w b0 A ts) (hb : Below w.heap.size w w') : AudAt w' b0 A ts := by
  obtain ⟨ht, a, b, c, d, h⟩ := h
  exact ⟨ht, a, b, c, d, h.below hb⟩
theorem Took.few {ts : List Msg} (h : Took ts) : ts.length ≤ 300 := by
  cases h with
  | nil => simp
  | snoc ts x _ _ _ hl => simp; omega

set_option maxRecDepth 100000 in
set_option maxHeartbeats 400000 in
theorem newAud_any (w : World) :
    Calls Tryz.prog 21 #[] w fun e w' => e = .returned (.pointer (some ⟨w.heap.size, 0, none⟩)) ∧ AudAt w' w.heap.size w.heap.size [] ∧ Below w.heap.size w w' := by
  refine (newAuditor_any w).mono ?_
  rintro e w' ⟨A, he, rfl, hA, hb⟩
  exact ⟨he, ⟨.nil, _, _, _, _, hA⟩, hb⟩

/-- The count is raised. -/
theorem AudB.count {w : World} {b0 A : Nat} {n : Int} {Vv Ve Vf : Value} {vs : List (Int × Int)} {es : List Ent} {fs : List Fam} {TL : List (List UInt8)} (h : AudB w b0 A n Vv Ve Vf vs es fs TL) (m : Int) :
    AudB (w.setCell ⟨A, 1, none⟩ (.int .i64 m)) b0 A m Vv Ve Vf vs es fs TL ∧ KeepsA b0 w (w.setCell ⟨A, 1, none⟩ (.int .i64 m)) := by
  have ho := Only.of_set w A 1 (.int .i64 m)
  have far : ∀ {t : TypeId} {size k : Nat} {v : Value} {xs : List Value}, t ≠ 47 → w.ownsRow b0 t size v k xs → ∀ b, v.ownBlock = some b → ¬ b = A := fun ht hr b hb e => by
    obtain ⟨_, _, cur, hc⟩ := owns_lt hr hb
    rw [e, h.blk] at hc
    simp only [Option.some.injEq, Obj.cells.injEq] at hc
    exact ht hc.2.1.symm
  refine ⟨⟨h.lo, set_heap 1 _ h.blk, owns_only h.vers ho (far (by decide) h.vers), h.versN, owns_only h.evs ho (far (by decide) h.evs), h.evsN, h.fams.only ho (far (by decide) h.fams.row) (fun f hf => far (by decide) (h.fams.txts f hf)), h.ok⟩, ?_⟩
  have hlo := h.lo
  subst hlo
  refine KeepsA.of_only (Only.mono ho ?_) h.blk (set_heap 1 _ h.blk) rfl rfl (fun _ _ h => h)
  rintro k _ rfl
  exact ⟨Nat.le_refl _, _, _, _, h.blk, .inl rfl⟩

set_option maxRecDepth 100000 in
set_option maxHeartbeats 1000000 in
theorem take_any (w : World) (b0 A : Nat) (ts : List Msg) (v : Value) (s : List UInt8) (h : AudAt w b0 A ts) (hv : BytesC w v s) :
    Calls Tryz.prog 24 #[.pointer (some ⟨A, 0, none⟩), v] w fun e w' => e = .returned (.int .i64 (tkE ts s)) ∧ AudAt w' b0 A (tkL ts s) ∧ KeepsA b0 w w' := by
  obtain ⟨hlo, hlA⟩ := h.lt
  obtain ⟨hT, Vv, Ve, Vf, fs, hB⟩ := h
  have hfew := hT.few
  have HT : Hid (Took ts) := hT
  have HB : Hid (AudB w b0 A ts.length Vv Ve Vf (versL ts) (evL ts) fs (txL ts)) := hB
  obtain ⟨_, vao, vcap, rfl, _⟩ := id hv
  have hblk := hB.blk
  clear hT hB
  go_enter Tryz.func24, Tryz.ntmps24
  go_wp2_with fail
  refine (closedA_any w A _ _ hblk rfl).mono ?_
  rintro e w0 ⟨rfl, rfl⟩
  go_wp2_with fail
  refine (decode_cap _ s w0 hv).mono ?_
  rintro e w1 ⟨hb1, hout⟩
  have HB1 : Hid (AudB w1 b0 A ts.length Vv Ve Vf (versL ts) (evL ts) fs (txL ts)) := HB.out.below hb1
  have hK1 : KeepsA b0 w0 w1 := KeepsA.of_below hb1
  have hlA1 := Nat.lt_of_lt_of_le hlA hb1.size
  clear HB hv hblk hlA hb1
  cases hd : decS s with
  | error y =>
    obtain ⟨f, q⟩ := y
    rw [hd] at hout
    obtain ⟨hf, rfl⟩ := hout
    have HE : Hid (tkE ts s = f) := by show tkE ts s = f; unfold tkE; rw [hd]
    have HL : Hid (tkL ts s = ts) := by show tkL ts s = ts; unfold tkL; rw [hd]
    have hfn : (f != 0) = true := by simp [hf]
    have hA2 : Below w1.heap.size w1 (w1.alloc (.cells #[.int .i64 0, .int .i64 0, .int .i64 0, .int .i64 0, .slice none 0 0] 63)) := (Below.refl _ _).alloc (Nat.le_refl _) _
    clear hd hf
    go_wp2
    go_ret
    exact ⟨ret_int HE.out.symm, by rw [HL.out]; exact ⟨HT.out, _, _, _, _, HB1.out.below hA2⟩, hK1.trans (KeepsA.of_below hA2)⟩
  | ok x =>
    rw [hd] at hout
    obtain ⟨ao, c, rfl, hN, hcap⟩ := hout
    have hx := (decS_ok hd).1
    have HX : Hid (ValidM x) := hx
    have HNC : Hid (NodesC w1 (.slice ao x.tree.length c) x.tree) := ⟨hN, ao, c, rfl, hcap⟩
    have HE : Hid (tkE ts s = if 300 ≤ ts.length then 3 else acc ts x) := by show tkE ts s = _; unfold tkE; rw [hd]
    have HL : Hid (tkL ts s = if 300 ≤ ts.length ∨ acc ts x ≠ 0 then ts else ts ++ [x]) := by show tkL ts s = _; unfold tkL; rw [hd]
    clear hd hN hcap hx
    have hA2 : Below w1.heap.size w1 (w1.alloc (.cells #[.int .i64 x.kind, .int .i64 x.m, .int .i64 x.n, .int .i64 x.root, .slice ao x.tree.length c] 63)) := (Below.refl _ _).alloc (Nat.le_refl _) _
    have g2 := heap_new w1 (.cells #[.int .i64 x.kind, .int .i64 x.m, .int .i64 x.n, .int .i64 x.root, .slice ao x.tree.length c] 63) _ rfl
    have hc1 : w1.cell? ⟨A, 1, none⟩ = some (.int .i64 ts.length) := by rw [cell_of_row _ _ _ _ _ _ HB1.out.blk]; rfl
    by_cases h300 : 300 ≤ ts.length
    · have h300i : (300 : Int) ≤ (ts.length : Int) := by omega
      have HE2 : Hid (tkE ts s = 3) := HE.out.trans (if_pos h300)
      have HL2 : Hid (tkL ts s = ts) := HL.out.trans (if_pos (.inl h300))
      clear h300 HE HL
      go_wp2
      go_ret
      exact ⟨ret_int HE2.out.symm, by rw [HL2.out]; exact ⟨HT.out, _, _, _, _, HB1.out.below hA2⟩, hK1.trans (KeepsA.of_below hA2)⟩
    · have h300i : ¬ (300 : Int) ≤ (ts.length : Int) := by omega
      have HE2 : Hid (tkE ts s = acc ts x) := HE.out.trans (if_neg h300)
      have HL2 : Hid (tkL ts s = if acc ts x ≠ 0 then ts else ts ++ [x]) := by
        show tkL ts s = _
        rw [HL.out]
        by_cases ha : acc ts x ≠ 0
        · rw [if_pos (.inr ha), if_pos ha]
        · rw [if_neg (by omega), if_neg ha]
      have hlt3 : ts.length < 300 := by omega
      clear h300 HE HL
      have hK2 := hK1.trans (KeepsA.of_below (b0 := b0) hA2)
      have HB2 : Hid (AudB (w1.alloc (.cells #[.int .i64 x.kind, .int .i64 x.m, .int .i64 x.n, .int .i64 x.root, .slice ao x.tree.length c] 63)) b0 A ts.length Vv Ve Vf (versL ts) (evL ts) fs (txL ts)) := HB1.out.below hA2
      have HN2 : Hid (NodesC (w1.alloc (.cells #[.int .i64 x.kind, .int .i64 x.m, .int .i64 x.n, .int .i64 x.root, .slice ao x.tree.length c] 63)) (.slice ao x.tree.length c) x.tree) := HNC.out.below hA2
      have hbw2 : b0 ≤ (w1.alloc (.cells #[.int .i64 x.kind, .int .i64 x.m, .int .i64 x.n, .int .i64 x.root, .slice ao x.tree.length c] 63)).heap.size := Nat.le_trans (by omega) hA2.size
      clear HB1 HNC hA2 g2 hK1
      go_wp2_with fail
      refine (weigh_any _ b0 A ts.length Vv Ve Vf ts fs x _ HB2.out hbw2 hfew HX.out HN2.out).mono ?_
      intro e w3 hP
      clear HB2 HN2 hc1
      by_cases ha : acc ts x = 0
      · obtain ⟨Vv3, Ve3, Vf3, fs3, rfl, hB3, hK3⟩ := hP.2 ha
        have hc3 : w3.cell? ⟨A, 1, none⟩ = some (.int .i64 ts.length) := by rw [cell_of_row _ _ _ _ _ _ hB3.blk]; rfl
        have hf3 : w3.frozen? ⟨A, 1, none⟩ = false := by unfold World.frozen?; rw [hB3.blk]; rfl
        have HR : Hid (tkE ts s = 0 ∧ AudAt (w3.setCell ⟨A, 1, none⟩ (.int .i64 ((ts.length : Int) + 1))) b0 A (tkL ts s) ∧ KeepsA b0 w0 (w3.setCell ⟨A, 1, none⟩ (.int .i64 ((ts.length : Int) + 1)))) := by
          obtain ⟨q1, q2⟩ := hB3.count ((ts.length : Int) + 1)
          refine ⟨HE2.out.trans ha, ?_, (hK2.trans hK3).trans q2⟩
          rw [HL2.out, if_neg (by simp [ha])]
          refine ⟨.snoc ts x HT.out HX.out ha hlt3, Vv3, Ve3, Vf3, fs3, ?_⟩
          have el : ((ts ++ [x]).length : Int) = (ts.length : Int) + 1 := by simp
          rw [el]
          exact q1
        clear hP ha hB3 hK3 hK2 HE2 HL2 HT HX
        go_wp2
        go_ret
        exact ⟨ret_int HR.out.1.symm, HR.out.2⟩
      · obtain ⟨Vv3, Ve3, Vf3, fs3, rfl, hB3, hK3⟩ := hP.1 ha
        have HR : Hid (AudAt w3 b0 A (tkL ts s) ∧ KeepsA b0 w0 w3) := by
          refine ⟨?_, hK2.trans hK3⟩
          rw [HL2.out, if_pos ha]
          exact ⟨HT.out, Vv3, Ve3, Vf3, fs3, hB3⟩
        have hab : (acc ts x == 0) = false := by simp [ha]
        generalize acc ts x = r at *
        clear hP ha hB3 hK3 hK2 HL2 HT HX
        go_wp2
        go_ret
        exact ⟨ret_int HE2.out.symm, HR.out⟩

set_option maxRecDepth 100000 in
set_option maxHeartbeats 400000 in
theorem versions_any (w : World) (b0 A : Nat) (ts : List Msg) (h : AudAt w b0 A ts) :
    Calls Tryz.prog 34 #[.pointer (some ⟨A, 0, none⟩)] w fun e w' => ∃ V, e = .returned V ∧ VersAt w' V (versL ts) ∧ Below w.heap.size w w' := by
  obtain ⟨hT, Vv, Ve, Vf, fs, hB⟩ := h
  have hfew := hT.few
  have hvl := versL_len ts
  have hblk := hB.blk
  have HV : Hid _ := hB.vers
  have HN : Hid _ := hB.versN
  have hc : w.cell? ⟨A, 2, none⟩ = some Vv := by rw [cell_of_row _ _ _ _ _ _ hblk]; rfl
  obtain ⟨va, vc, rfl, -⟩ := VersAt.of_owns hB.vers
  clear hB hT
  go_enter Tryz.func34, Tryz.ntmps34
  go_wp2_with fail
  refine (closedA_any w A _ _ hblk rfl).mono ?_
  rintro e w0 ⟨rfl, rfl⟩
  go_wp2_with fail
  refine (cloneV_any (versL ts) _ b0 w0 HV.out (by omega) HN.out).mono ?_
  rintro e w1 ⟨V, rfl, hV, hb⟩
  go_wp2
  go_ret
  exact ⟨_, rfl, hV, hb⟩

set_option maxRecDepth 100000 in
set_option maxHeartbeats 400000 in
theorem events_any (w : World) (b0 A : Nat) (ts : List Msg) (h : AudAt w b0 A ts) :
    Calls Tryz.prog 29 #[.pointer (some ⟨A, 0, none⟩)] w fun e w' => ∃ V, e = .returned V ∧ EntsAt w' V (evL ts) ∧ Below w.heap.size w w' := by
  obtain ⟨hT, Vv, Ve, Vf, fs, hB⟩ := h
  have hfew := hT.few
  have hel := (evL_inv ts).2
  have hblk := hB.blk
  have HV : Hid _ := hB.evs
  have HN : Hid _ := hB.evsN
  have hc : w.cell? ⟨A, 3, none⟩ = some Ve := by rw [cell_of_row _ _ _ _ _ _ hblk]; rfl
  obtain ⟨va, vc, rfl, -⟩ := EntsAt.of_owns hB.evs
  clear hB hT
  go_enter Tryz.func29, Tryz.ntmps29
  go_wp2_with fail
  refine (closedA_any w A _ _ hblk rfl).mono ?_
  rintro e w0 ⟨rfl, rfl⟩
  go_wp2_with fail
  refine (cloneE_any (evL ts) _ b0 w0 HV.out (by omega) HN.out).mono ?_
  rintro e w1 ⟨V, rfl, hV, hb⟩
  go_wp2
  go_ret
  exact ⟨_, rfl, hV, hb⟩

/-- What Collision shows. -/
inductive Shows (ts : List Msg) (w : World) : Value → Value → Bool → Prop
  | no : (∀ a ∈ txL ts, ∀ b ∈ txL ts, sm a = sm b → a = b) → Shows ts w (.slice none 0 0) (.slice none 0 0) false
  | yes (a b : ByteArray) (ax ay : Addr) (cx cy : Nat) : ltB a b → sm a.data.toList = sm b.data.toList → a.size ≤ 1000000 → b.size ≤ 1000000 → a.data.toList ∈ txL ts → b.data.toList ∈ txL ts → BytesC w (.slice (some ax) a.data.toList.length cx) a.data.toList → BytesC w (.slice (some ay) b.data.toList.length cy) b.data.toList → Shows ts w (.slice (some ax) a.data.toList.length cx) (.slice (some ay) b.data.toList.length cy) true

theorem shows_two (ts : List Msg) (w1 : World) (a b : ByteArray) (c1 c2 : Nat) (f1 f2 : Nat × Nat) (h1 : a.size ≤ c1 ∧ c1 ≤ maxLen) (h2 : b.size ≤ c2 ∧ c2 ≤ maxLen) (hab : ltB a b) (hsm : sm a.data.toList = sm b.data.toList) (hsa : a.size ≤ 1000000) (hsb : b.size ≤ 1000000) (hia : a.data.toList ∈ txL ts) (hib : b.data.toList ∈ txL ts) :
    Shows ts ((w1.alloc (.cells (bytesRow a c1) 5 f1)).alloc (.cells (bytesRow b c2) 5 f2)).drew.drew (.slice (some ⟨w1.heap.size, 0, none⟩) a.size c1) (.slice (some ⟨w1.heap.size + 1, 0, none⟩) b.size c2) true := by
  have ea : a.data.toList.length = a.size := by rw [Array.length_toList]; rfl
  have eb : b.data.toList.length = b.size := by rw [Array.length_toList]; rfl
  have hx : BytesAt ((w1.alloc (.cells (bytesRow a c1) 5 f1)).alloc (.cells (bytesRow b c2) 5 f2)).drew.drew (.slice (some ⟨w1.heap.size, 0, none⟩) a.size c1) a.data.toList := (((made_at w1 a _ _ _ _ rfl rfl).keep (keepA _ _)).keep (keepD _)).keep (keepD _)
  have hy : BytesAt ((w1.alloc (.cells (bytesRow a c1) 5 f1)).alloc (.cells (bytesRow b c2) 5 f2)).drew.drew (.slice (some ⟨w1.heap.size + 1, 0, none⟩) b.size c2) b.data.toList := (((made_at _ b _ _ _ _ (by simp) rfl)).keep (keepD _)).keep (keepD _)
  rw [← ea] at hx ⊢
  rw [← eb] at hy ⊢
  exact .yes a b _ _ c1 c2 hab hsm hsa hsb hia hib ⟨hx, _, _, rfl, by omega, h1.2⟩ ⟨hy, _, _, rfl, by omega, h2.2⟩

set_option maxRecDepth 100000 in
set_option maxHeartbeats 1000000 in
theorem collision_any (w : World) (b0 A : Nat) (ts : List Msg) (h : AudAt w b0 A ts) :
    Calls Tryz.prog 30 #[.pointer (some ⟨A, 0, none⟩)] w fun e w' => ∃ x y k, e = .returned (.tuple #[x, y, .bool k]) ∧ Shows ts w' x y k ∧ Below w.heap.size w w' := by
  obtain ⟨hT, Vv, Ve, Vf, fs, hB⟩ := h
  have hblk := hB.blk
  have HF : Hid _ := hB.fams
  have HK : Hid _ := hB.ok
  have hfl := hB.ok.len
  clear hB hT
  go_enter Tryz.func30, Tryz.ntmps30
  go_wp2_with fail
  refine (closedA_any w A _ _ hblk rfl).mono ?_
  rintro e w0 ⟨rfl, rfl⟩
  go_wp2_with fail
  refine (least_any A b0 _ Vf fs w0 hblk rfl HF.out (by omega) (fun f hf => (HK.out.each f hf).1.len)).mono ?_
  rintro e w1 ⟨a, b, k, rfl, hL, hb⟩
  cases k with
  | false =>
    have HS : Hid (Shows ts w1 (.slice none 0 0) (.slice none 0 0) false) := .no (HK.out.inj (hL.no rfl))
    go_wp2
    go_returns
    exact ⟨_, _, _, rfl, HS.out, hb⟩
  | true =>
    obtain ⟨f, hf, hfe⟩ := hL.yes rfl
    have hTO := (HK.out.each f hf).1
    have hab : ltB a b := by have := hTO.ord; rw [hfe] at this; simpa using this
    have hsm : sm a.data.toList = sm b.data.toList := by rw [hTO.sums a (by rw [hfe]; simp), hTO.sums b (by rw [hfe]; simp)]
    have hsa := hTO.short a (by rw [hfe]; simp)
    have hsb := hTO.short b (by rw [hfe]; simp)
    have hia := HK.out.src f hf a (by rw [hfe]; simp)
    have hib := HK.out.src f hf b (by rw [hfe]; simp)
    have hcv := fun u s => @run_bytes_of_string Tryz.prog u 9 27 5 s Tryz.underlying9 Tryz.underlying27 Tryz.underlying5
    clear hTO hf hfe hL HF HK hblk
    have HG : Hid (∀ (u : World) (s : ByteArray), s.size ≤ 1000000 → s.size ≤ grownCap u s.size 0 5 ∧ grownCap u s.size 0 5 ≤ maxLen) := fun u s h => ⟨grownCap_ge u s.size 0 5, grownCap_le_maxLen u s.size 0 5 (by unfold maxLen; omega)⟩
    go_wp2
    go_returns
    refine ⟨_, _, _, rfl, shows_two ts w1 a b _ _ _ _ (HG.out _ _ hsa) (HG.out _ _ hsb) hab hsm hsa hsb hia hib, ?_⟩
    have hs := hb.size
    exact (((hb.alloc hs _).alloc (by simp; omega) _).drew).drew
end Go.Proofs.YtlndinigbppafaaGreat
