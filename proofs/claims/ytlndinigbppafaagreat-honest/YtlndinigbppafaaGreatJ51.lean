/-
  Texts of ours, joined: AudI, AudJ, LogA, LogB.
-/
import Derived.Test.YtlndinigbppafaaGreatAudF
import Derived.Test.YtlndinigbppafaaGreatAudG
import Derived.Test.YtlndinigbppafaaGreatAudH
import Derived.Test.YtlndinigbppafaaGreatTreeH
import Derived.LaidEql
/-
  The walk of the program's weigh: what is answered to a message, and what is known then.
-/
namespace Go.Proofs.YtlndinigbppafaaGreat
open Go.RowKit Go.Deep

/-- The events that are known once these messages were taken. -/
def evL (ts : List Msg) : List Ent := ts.foldl (fun l x => if x.kind = 3 then insE l (x.m, lastL x.tree) else l) []
theorem evL_snoc (ts : List Msg) (x : Msg) : evL (ts ++ [x]) = if x.kind = 3 then insE (evL ts) (x.m, lastL x.tree) else evL ts := by
  unfold evL; rw [List.foldl_append]; rfl
theorem insE_len (l : List Ent) (t : Ent) : (insE l t).length ≤ l.length + 1 := by
  unfold insE
  split
  · omega
  · have := placeE_le l t
    simp
    omega
theorem evL_inv (ts : List Msg) : SortE (evL ts) ∧ (evL ts).length ≤ ts.length := by
  have h : ∀ (l : List Msg) (es : List Ent), SortE es → SortE (l.foldl (fun l x => if x.kind = 3 then insE l (x.m, lastL x.tree) else l) es) ∧ (l.foldl (fun l x => if x.kind = 3 then insE l (x.m, lastL x.tree) else l) es).length ≤ es.length + l.length := by
    intro l
    induction l with
    | nil => intro es h; exact ⟨h, by simp⟩
    | cons x l ih =>
      intro es h
      simp only [List.foldl_cons, List.length_cons]
      split
      · have h1 := ih _ (ins_sort h (x.m, lastL x.tree))
        have h2 := insE_len es (x.m, lastL x.tree)
        exact ⟨h1.1, by omega⟩
      · have h1 := ih _ h
        exact ⟨h1.1, by omega⟩
  have := h ts [] SortE.nil
  exact ⟨this.1, by unfold evL; have := this.2; simpa using this⟩
theorem versL_len (ts : List Msg) : (versL ts).length ≤ ts.length := List.length_filterMap_le _ _

/-- What weighing of the message x leaves. -/
def WP (b0 A : Nat) (n : Int) (ts : List Msg) (x : Msg) (w : World) (e : Ending) (w' : World) : Prop :=
  (acc ts x ≠ 0 → WeighP b0 A n (acc ts x) (versL ts) (evL ts) (txL ts) w e w') ∧ (acc ts x = 0 → WeighP b0 A n 0 (versL (ts ++ [x])) (evL (ts ++ [x])) (txL (ts ++ [x])) w e w')

theorem WeighP.sub {b0 A : Nat} {n r : Int} {vs : List (Int × Int)} {es : List Ent} {TL TL' : List (List UInt8)} {w : World} {e : Ending} {w' : World} (h : WeighP b0 A n r vs es TL w e w') (hs : ∀ x, x ∈ TL' ↔ x ∈ TL) : WeighP b0 A n r vs es TL' w e w' := by
  obtain ⟨Vv, Ve, Vf, fs, h1, h2, h3⟩ := h
  exact ⟨Vv, Ve, Vf, fs, h1, h2.sub hs, h3⟩

/-- Growth. -/
theorem weighG_msg (w : World) (b0 A : Nat) (n : Int) (Vv Ve Vf : Value) (ts : List Msg) (fs : List Fam) (x : Msg) (T : Value) (h : AudB w b0 A n Vv Ve Vf (versL ts) (evL ts) fs (txL ts)) (hb0 : b0 ≤ w.heap.size) (hl : ts.length ≤ 300) (hx : ValidM x) (hk : x.kind = 2) (hN : NodesC w T x.tree) :
    Calls Tryz.prog 96 #[.pointer (some ⟨A, 0, none⟩), .agg #[.int .i64 x.kind, .int .i64 x.m, .int .i64 x.n, .int .i64 x.root, T]] w fun e w' => WP b0 A n ts x w e w' := by
  obtain ⟨hm1, hm2⟩ := hx.g hk
  obtain ⟨hn1, hn2⟩ := hx.n
  obtain ⟨hsh, htree⟩ := hx.pt (by omega)
  rw [hk] at hsh
  have hvl := versL_len ts
  obtain ⟨mm, hmm⟩ : ∃ mm : Nat, x.m = mm := ⟨x.m.toNat, by omega⟩
  obtain ⟨nn, hnn⟩ : ∃ nn : Nat, x.n = nn := ⟨x.n.toNat, by omega⟩
  obtain ⟨c1, c2⟩ := growth_cut hx hk
  obtain ⟨o1, o2⟩ := proof_own hx (by omega)
  rw [hmm, hnn] at c1 c2
  rw [hnn] at o1 o2
  simp only [Int.toNat_natCast] at c1 c2
  have hG : ∀ e w', GP b0 A n (versL ts) (evL ts) (txL ts) mm nn x.root x.pt w e w' → WP b0 A n ts x w e w' := by
    intro e w' ⟨g1, g2⟩
    have ha : acc ts x = resG (versL ts) mm x.root (x.pt.cut mm (dep nn) 0).dS x.pt.dS := by
      unfold acc resG
      rw [if_neg (by omega), if_pos hk, c1, o1, hmm, hnn]
      cases (versL ts).getLast? <;> rfl
    refine ⟨fun hz => by rw [ha] at hz ⊢; exact g1 hz, fun hz => ?_⟩
    rw [ha] at hz
    have hv : versL (ts ++ [x]) = versL ts ++ (if mm < nn then [((nn : Int), x.root)] else []) := by
      rw [versL_snoc]
      congr 1
      by_cases hmn : mm < nn
      · rw [if_pos hmn, if_pos (.inr ⟨hk, by omega⟩), hnn]
      · rw [if_neg hmn, if_neg (by omega)]
    have he : evL (ts ++ [x]) = evL ts := by rw [evL_snoc, if_neg (by omega)]
    rw [hv, he]
    refine (g2 hz).sub fun y => ?_
    rw [txL_snoc]
    unfold txM
    rw [if_neg (by omega), if_pos hk, hmm, hnn]
    simp only [List.mem_append, List.flatten_cons, List.flatten_nil, List.append_nil, o2 y, c2 y]
    constructor
    · rintro (h | h | h)
      · exact .inl h
      · exact .inr (.inr h)
      · exact .inr (.inl h)
    · rintro (h | h | h)
      · exact .inl h
      · exact .inr (.inr h)
      · exact .inr (.inl h)
  rw [hmm, hnn] at hsh
  simp only [Int.toNat_natCast] at hsh
  rw [htree] at hN
  rw [hmm, hnn]
  rcases List.eq_nil_or_concat (versL ts) with hv | ⟨v0, v, hv⟩
  · rw [hv] at h hG
    exact (weighG_nil w b0 A n Vv Ve Vf (evL ts) fs (txL ts) x.kind x.root mm nn x.pt T h).mono hG
  · rw [List.concat_eq_append] at hv
    rw [hv] at h hG
    have hv0 : v0.length ≤ 900 := by rw [hv, List.length_append] at hvl; omega
    by_cases hvm : v.1 = mm
    · by_cases hcd : (x.pt.cut mm (dep nn) 0).dS = v.2
      · exact (weighG_good w b0 A n Vv Ve Vf v0 v (evL ts) fs (txL ts) x.kind x.root mm nn x.pt T h hb0 (by omega) hsh (by omega) (by omega) (by omega) hN hvm hcd).mono hG
      · exact (weighG_bad w b0 A n Vv Ve Vf v0 v (evL ts) fs (txL ts) x.kind x.root mm nn x.pt T h hb0 (by omega) hsh (by omega) (by omega) (by omega) hN hvm hcd).mono hG
    · exact (weighG_other w b0 A n Vv Ve Vf v0 v (evL ts) fs (txL ts) x.kind x.root mm nn x.pt T h hb0 (by omega) hsh (by omega) hN hvm).mono hG

/-- A member. -/
theorem weighM_msg (w : World) (b0 A : Nat) (n : Int) (Vv Ve Vf : Value) (ts : List Msg) (fs : List Fam) (x : Msg) (T : Value) (h : AudB w b0 A n Vv Ve Vf (versL ts) (evL ts) fs (txL ts)) (hb0 : b0 ≤ w.heap.size) (hl : ts.length ≤ 300) (hx : ValidM x) (hk : x.kind = 3) (hN : NodesC w T x.tree) :
    Calls Tryz.prog 97 #[.pointer (some ⟨A, 0, none⟩), .agg #[.int .i64 x.kind, .int .i64 x.m, .int .i64 x.n, .int .i64 x.root, T]] w fun e w' => WP b0 A n ts x w e w' := by
  obtain ⟨hn1, hn2⟩ := hx.n
  obtain ⟨hsh, htree⟩ := hx.pt (by omega)
  rw [hk] at hsh
  have hvl := versL_len ts
  have hel := evL_inv ts
  obtain ⟨nn, hnn⟩ : ∃ nn : Nat, x.n = nn := ⟨x.n.toNat, by omega⟩
  obtain ⟨o1, o2⟩ := proof_own hx (by omega)
  rw [hnn] at o1 o2
  have hG : ∀ e w', MP b0 A n (versL ts) (evL ts) (txL ts) x.m nn x.pt w e w' → WP b0 A n ts x w e w' := by
    intro e w' ⟨g1, g2⟩
    have ha : acc ts x = resM (versL ts) nn x.pt.dS := by
      unfold acc resM
      rw [if_neg (by omega), if_neg (by omega), o1, hnn]
      cases rootOf (versL ts) nn <;> rfl
    refine ⟨fun hz => by rw [ha] at hz ⊢; exact g1 hz, fun hz => ?_⟩
    rw [ha] at hz
    have hv : versL (ts ++ [x]) = versL ts := by rw [versL_snoc, if_neg (by omega), List.append_nil]
    rw [hv, evL_snoc, if_pos hk, htree]
    refine (g2 hz).sub fun y => ?_
    rw [txL_snoc]
    unfold txM
    rw [if_neg (by omega), if_neg (by omega), hnn, List.append_nil]
    simp only [List.mem_append, List.flatten_cons, List.flatten_nil, List.append_nil, o2 y]
  rw [hnn] at hsh
  simp only [Int.toNat_natCast] at hsh
  rw [htree] at hN
  rw [hnn]
  exact (weighM_any w b0 A n Vv Ve Vf (versL ts) (evL ts) fs (txL ts) x.kind x.m x.root nn x.pt T h hb0 (by omega) (by omega) hel.1 hsh (by omega) (by omega) hN).mono hG

/-- A commitment. -/
theorem weighC_msg (w : World) (b0 A : Nat) (n : Int) (Vv Ve Vf : Value) (ts : List Msg) (fs : List Fam) (x : Msg) (T : Value) (h : AudB w b0 A n Vv Ve Vf (versL ts) (evL ts) fs (txL ts)) (hb0 : b0 ≤ w.heap.size) (hl : ts.length ≤ 300) (hk : x.kind = 1) :
    Calls Tryz.prog 95 #[.pointer (some ⟨A, 0, none⟩), .agg #[.int .i64 x.kind, .int .i64 x.m, .int .i64 x.n, .int .i64 x.root, T]] w fun e w' => WP b0 A n ts x w e w' := by
  have hvl := versL_len ts
  refine (weighC_any w b0 A n Vv Ve Vf (versL ts) (evL ts) fs (txL ts) x.kind x.m x.n x.root T h hb0 (by omega)).mono ?_
  rintro e w' ⟨he, Vv', hA, hK⟩
  have ha : acc ts x = if versL ts = [] then 0 else 8 := by unfold acc; rw [if_pos hk]
  by_cases hv : versL ts = []
  · rw [if_pos hv] at ha he hA
    refine ⟨fun hz => absurd ha hz, fun _ => ⟨Vv', Ve, Vf, fs, he, ?_, hK⟩⟩
    rw [versL_snoc, if_pos (.inl hk), hv, List.nil_append, evL_snoc, if_neg (by omega)]
    refine hA.sub fun y => ?_
    rw [txL_snoc]
    unfold txM
    rw [if_pos hk, List.append_nil]
  · rw [if_neg hv] at ha he hA
    exact ⟨fun _ => ⟨_, _, _, _, by rw [ha]; exact he, hA, hK⟩, fun hz => by rw [ha] at hz; cases hz⟩

set_option maxRecDepth 100000 in
set_option maxHeartbeats 1000000 in
theorem weigh_any (w : World) (b0 A : Nat) (n : Int) (Vv Ve Vf : Value) (ts : List Msg) (fs : List Fam) (x : Msg) (T : Value) (h : AudB w b0 A n Vv Ve Vf (versL ts) (evL ts) fs (txL ts)) (hb0 : b0 ≤ w.heap.size) (hl : ts.length ≤ 300) (hx : ValidM x) (hN : NodesC w T x.tree) :
    Calls Tryz.prog 60 #[.pointer (some ⟨A, 0, none⟩), .agg #[.int .i64 x.kind, .int .i64 x.m, .int .i64 x.n, .int .i64 x.root, T]] w fun e w' => WP b0 A n ts x w e w' := by
  have hA : Below w.heap.size w (w.alloc (.cells #[.int .i64 x.kind, .int .i64 x.m, .int .i64 x.n, .int .i64 x.root, T] 63)) := (Below.refl _ _).alloc (Nat.le_refl _) _
  have g0 := heap_new w (.cells #[.int .i64 x.kind, .int .i64 x.m, .int .i64 x.n, .int .i64 x.root, T] 63) _ rfl
  have hW := h.below hA
  have hNW := hN.below hA
  have hbW := Nat.le_trans hb0 hA.size
  have hKW : KeepsA b0 w (w.alloc (.cells #[.int .i64 x.kind, .int .i64 x.m, .int .i64 x.n, .int .i64 x.root, T] 63)) := KeepsA.of_below hA
  generalize hW0 : w.alloc (.cells #[.int .i64 x.kind, .int .i64 x.m, .int .i64 x.n, .int .i64 x.root, T] 63) = W at g0 hW hNW hbW hKW
  have HT : Hid (∀ e w', WP b0 A n ts x W e w' → WP b0 A n ts x w e w' ∧ ∃ r, e = .returned (.int .i64 r)) := fun e w' ⟨p1, p2⟩ => by
    have tr : ∀ {r vs es TL}, WeighP b0 A n r vs es TL W e w' → WeighP b0 A n r vs es TL w e w' := fun ⟨a, b, c, d, q1, q2, q3⟩ => ⟨a, b, c, d, q1, q2, hKW.trans q3⟩
    refine ⟨⟨fun hz => tr (p1 hz), fun hz => tr (p2 hz)⟩, ?_⟩
    by_cases hz : acc ts x = 0
    · obtain ⟨_, _, _, _, q, _⟩ := p2 hz
      exact ⟨_, q⟩
    · obtain ⟨_, _, _, _, q, _⟩ := p1 hz
      exact ⟨_, q⟩
  have HC : Hid (x.kind = 1 → Calls Tryz.prog 95 #[.pointer (some ⟨A, 0, none⟩), .agg #[.int .i64 x.kind, .int .i64 x.m, .int .i64 x.n, .int .i64 x.root, T]] W fun e w' => WP b0 A n ts x W e w') := fun hk => weighC_msg W b0 A n Vv Ve Vf ts fs x T hW hbW hl hk
  have HG : Hid (x.kind = 2 → Calls Tryz.prog 96 #[.pointer (some ⟨A, 0, none⟩), .agg #[.int .i64 x.kind, .int .i64 x.m, .int .i64 x.n, .int .i64 x.root, T]] W fun e w' => WP b0 A n ts x W e w') := fun hk => weighG_msg W b0 A n Vv Ve Vf ts fs x T hW hbW hl hx hk hNW
  have HM : Hid (x.kind = 3 → Calls Tryz.prog 97 #[.pointer (some ⟨A, 0, none⟩), .agg #[.int .i64 x.kind, .int .i64 x.m, .int .i64 x.n, .int .i64 x.root, T]] W fun e w' => WP b0 A n ts x W e w') := fun hk => weighM_msg W b0 A n Vv Ve Vf ts fs x T hW hbW hl hx hk hNW
  obtain ⟨m0, m1, m2, m3, m4⟩ := msg_box g0
  have hkk := hx.k
  clear h hN hA hW hNW hKW g0 hx
  generalize x.kind = kk at *
  rcases hkk with hk | hk | hk
  · have HCC : Hid _ := HC.out hk
    subst hk
    clear HC HG HM
    go_enter Tryz.func60, Tryz.ntmps60
    go_wp2_with fail
    refine Calls.mono HCC.out ?_
    intro e w2 hP
    obtain ⟨hP2, r, rfl⟩ := HT.out e w2 hP
    have HP : Hid _ := hP2
    clear hP hP2 HT HCC
    go_wp2
    go_ret
    exact HP.out
  · have HCC : Hid _ := HG.out hk
    subst hk
    clear HC HG HM
    go_enter Tryz.func60, Tryz.ntmps60
    go_wp2_with fail
    refine Calls.mono HCC.out ?_
    intro e w2 hP
    obtain ⟨hP2, r, rfl⟩ := HT.out e w2 hP
    have HP : Hid _ := hP2
    clear hP hP2 HT HCC
    go_wp2
    go_ret
    exact HP.out
  · have HCC : Hid _ := HM.out hk
    subst hk
    clear HC HG HM
    go_enter Tryz.func60, Tryz.ntmps60
    go_wp2_with fail
    refine Calls.mono HCC.out ?_
    intro e w2 hP
    obtain ⟨hP2, r, rfl⟩ := HT.out e w2 hP
    have HP : Hid _ := hP2
    clear hP hP2 HT HCC
    go_wp2
    go_ret
    exact HP.out
end Go.Proofs.YtlndinigbppafaaGreat

/-
  The walks of the program's auditor: Take, Versions, Events, Collision.
-/
namespace Go.Proofs.YtlndinigbppafaaGreat
open Go.RowKit Go.Deep

/-- An auditor that NewAuditor made and that took these messages. -/
def AudAt (w : World) (b0 A : Nat) (ts : List Msg) : Prop := Took ts ∧ ∃ Vv Ve Vf fs, AudB w b0 A ts.length Vv Ve Vf (versL ts) (evL ts) fs (txL ts)
theorem AudAt.lt {w : World} {b0 A : Nat} {ts : List Msg} (h : AudAt w b0 A ts) : b0 ≤ A ∧ A < w.heap.size := by
  obtain ⟨_, _, _, _, _, h⟩ := h
  exact ⟨Nat.le_of_eq h.lo, lt_of_heap h.blk⟩
theorem AudAt.keep {w w' : World} {b0 A : Nat} {ts : List Msg} (h : AudAt w b0 A ts) (h1 : KeepsT 47 w w') (h2 : KeepsT 89 w w') (h3 : KeepsT 82 w w') (h4 : KeepsT 167 w w') (h5 : KeepsT 9 w w') : AudAt w' b0 A ts := by
  obtain ⟨ht, a, b, c, d, h⟩ := h
  exact ⟨ht, a, b, c, d, h.keep h1 h2 h3 h4 h5⟩
theorem AudAt.below {w w' : World} {b0 A : Nat} {ts : List Msg} (h : AudAt w b0 A ts) (hb : Below w.heap.size w w') : AudAt w' b0 A ts := by
  obtain ⟨ht, a, b, c, d, h⟩ := h
  exact ⟨ht, a, b, c, d, h.below hb⟩
theorem Took.few {ts : List Msg} (h : Took ts) : ts.length ≤ 300 := by
  cases h with
  | nil => simp
  | snoc ts x _ _ _ hl => simp; omega

set_option maxRecDepth 100000 in
set_option maxHeartbeats 400000 in
theorem newAud_any (w : World) :
    Calls Tryz.prog 21 #[] w fun e w' => e = .returned (.pointer (some ⟨w.heap.size, 0, none⟩)) ∧ AudAt w' w.heap.size w.heap.size [] ∧ Below w.heap.size w w' := by
  refine (newAuditor_any w).mono ?_
  rintro e w' ⟨A, he, rfl, hA, hb⟩
  exact ⟨he, ⟨.nil, _, _, _, _, hA⟩, hb⟩

/-- The count is raised. -/
theorem AudB.count {w : World} {b0 A : Nat} {n : Int} {Vv Ve Vf : Value} {vs : List (Int × Int)} {es : List Ent} {fs : List Fam} {TL : List (List UInt8)} (h : AudB w b0 A n Vv Ve Vf vs es fs TL) (m : Int) :
    AudB (w.setCell ⟨A, 1, none⟩ (.int .i64 m)) b0 A m Vv Ve Vf vs es fs TL ∧ KeepsA b0 w (w.setCell ⟨A, 1, none⟩ (.int .i64 m)) := by
  have ho := Only.of_set w A 1 (.int .i64 m)
  have far : ∀ {t : TypeId} {size k : Nat} {v : Value} {xs : List Value}, t ≠ 47 → w.ownsRow b0 t size v k xs → ∀ b, v.ownBlock = some b → ¬ b = A := fun ht hr b hb e => by
    obtain ⟨_, _, cur, hc⟩ := owns_lt hr hb
    rw [e, h.blk] at hc
    simp only [Option.some.injEq, Obj.cells.injEq] at hc
    exact ht hc.2.1.symm
  refine ⟨⟨h.lo, set_heap 1 _ h.blk, owns_only h.vers ho (far (by decide) h.vers), h.versN, owns_only h.evs ho (far (by decide) h.evs), h.evsN, h.fams.only ho (far (by decide) h.fams.row) (fun f hf => far (by decide) (h.fams.txts f hf)), h.ok⟩, ?_⟩
  have hlo := h.lo
  subst hlo
  refine KeepsA.of_only (Only.mono ho ?_) h.blk (set_heap 1 _ h.blk) rfl rfl (fun _ _ h => h)
  rintro k _ rfl
  exact ⟨Nat.le_refl _, _, _, _, h.blk, .inl rfl⟩

set_option maxRecDepth 100000 in
set_option maxHeartbeats 1000000 in
theorem take_any (w : World) (b0 A : Nat) (ts : List Msg) (v : Value) (s : List UInt8) (h : AudAt w b0 A ts) (hv : BytesC w v s) :
    Calls Tryz.prog 24 #[.pointer (some ⟨A, 0, none⟩), v] w fun e w' => e = .returned (.int .i64 (tkE ts s)) ∧ AudAt w' b0 A (tkL ts s) ∧ KeepsA b0 w w' := by
  obtain ⟨hlo, hlA⟩ := h.lt
  obtain ⟨hT, Vv, Ve, Vf, fs, hB⟩ := h
  have hfew := hT.few
  have HT : Hid (Took ts) := hT
  have HB : Hid (AudB w b0 A ts.length Vv Ve Vf (versL ts) (evL ts) fs (txL ts)) := hB
  obtain ⟨_, vao, vcap, rfl, _⟩ := id hv
  have hblk := hB.blk
  clear hT hB
  go_enter Tryz.func24, Tryz.ntmps24
  go_wp2_with fail
  refine (closedA_any w A _ _ hblk rfl).mono ?_
  rintro e w0 ⟨rfl, rfl⟩
  go_wp2_with fail
  refine (decode_cap _ s w0 hv).mono ?_
  rintro e w1 ⟨hb1, hout⟩
  have HB1 : Hid (AudB w1 b0 A ts.length Vv Ve Vf (versL ts) (evL ts) fs (txL ts)) := HB.out.below hb1
  have hK1 : KeepsA b0 w0 w1 := KeepsA.of_below hb1
  have hlA1 := Nat.lt_of_lt_of_le hlA hb1.size
  clear HB hv hblk hlA hb1
  cases hd : decS s with
  | error y =>
    obtain ⟨f, q⟩ := y
    rw [hd] at hout
    obtain ⟨hf, rfl⟩ := hout
    have HE : Hid (tkE ts s = f) := by show tkE ts s = f; unfold tkE; rw [hd]
    have HL : Hid (tkL ts s = ts) := by show tkL ts s = ts; unfold tkL; rw [hd]
    have hfn : (f != 0) = true := by simp [hf]
    have hA2 : Below w1.heap.size w1 (w1.alloc (.cells #[.int .i64 0, .int .i64 0, .int .i64 0, .int .i64 0, .slice none 0 0] 63)) := (Below.refl _ _).alloc (Nat.le_refl _) _
    clear hd hf
    go_wp2
    go_ret
    exact ⟨ret_int HE.out.symm, by rw [HL.out]; exact ⟨HT.out, _, _, _, _, HB1.out.below hA2⟩, hK1.trans (KeepsA.of_below hA2)⟩
  | ok x =>
    rw [hd] at hout
    obtain ⟨ao, c, rfl, hN, hcap⟩ := hout
    have hx := (decS_ok hd).1
    have HX : Hid (ValidM x) := hx
    have HNC : Hid (NodesC w1 (.slice ao x.tree.length c) x.tree) := ⟨hN, ao, c, rfl, hcap⟩
    have HE : Hid (tkE ts s = if 300 ≤ ts.length then 3 else acc ts x) := by show tkE ts s = _; unfold tkE; rw [hd]
    have HL : Hid (tkL ts s = if 300 ≤ ts.length ∨ acc ts x ≠ 0 then ts else ts ++ [x]) := by show tkL ts s = _; unfold tkL; rw [hd]
    clear hd hN hcap hx
    have hA2 : Below w1.heap.size w1 (w1.alloc (.cells #[.int .i64 x.kind, .int .i64 x.m, .int .i64 x.n, .int .i64 x.root, .slice ao x.tree.length c] 63)) := (Below.refl _ _).alloc (Nat.le_refl _) _
    have g2 := heap_new w1 (.cells #[.int .i64 x.kind, .int .i64 x.m, .int .i64 x.n, .int .i64 x.root, .slice ao x.tree.length c] 63) _ rfl
    have hc1 : w1.cell? ⟨A, 1, none⟩ = some (.int .i64 ts.length) := by rw [cell_of_row _ _ _ _ _ _ HB1.out.blk]; rfl
    by_cases h300 : 300 ≤ ts.length
    · have h300i : (300 : Int) ≤ (ts.length : Int) := by omega
      have HE2 : Hid (tkE ts s = 3) := HE.out.trans (if_pos h300)
      have HL2 : Hid (tkL ts s = ts) := HL.out.trans (if_pos (.inl h300))
      clear h300 HE HL
      go_wp2
      go_ret
      exact ⟨ret_int HE2.out.symm, by rw [HL2.out]; exact ⟨HT.out, _, _, _, _, HB1.out.below hA2⟩, hK1.trans (KeepsA.of_below hA2)⟩
    · have h300i : ¬ (300 : Int) ≤ (ts.length : Int) := by omega
      have HE2 : Hid (tkE ts s = acc ts x) := HE.out.trans (if_neg h300)
      have HL2 : Hid (tkL ts s = if acc ts x ≠ 0 then ts else ts ++ [x]) := by
        show tkL ts s = _
        rw [HL.out]
        by_cases ha : acc ts x ≠ 0
        · rw [if_pos (.inr ha), if_pos ha]
        · rw [if_neg (by omega), if_neg ha]
      have hlt3 : ts.length < 300 := by omega
      clear h300 HE HL
      have hK2 := hK1.trans (KeepsA.of_below (b0 := b0) hA2)
      have HB2 : Hid (AudB (w1.alloc (.cells #[.int .i64 x.kind, .int .i64 x.m, .int .i64 x.n, .int .i64 x.root, .slice ao x.tree.length c] 63)) b0 A ts.length Vv Ve Vf (versL ts) (evL ts) fs (txL ts)) := HB1.out.below hA2
      have HN2 : Hid (NodesC (w1.alloc (.cells #[.int .i64 x.kind, .int .i64 x.m, .int .i64 x.n, .int .i64 x.root, .slice ao x.tree.length c] 63)) (.slice ao x.tree.length c) x.tree) := HNC.out.below hA2
      have hbw2 : b0 ≤ (w1.alloc (.cells #[.int .i64 x.kind, .int .i64 x.m, .int .i64 x.n, .int .i64 x.root, .slice ao x.tree.length c] 63)).heap.size := Nat.le_trans (by omega) hA2.size
      clear HB1 HNC hA2 g2 hK1
      go_wp2_with fail
      refine (weigh_any _ b0 A ts.length Vv Ve Vf ts fs x _ HB2.out hbw2 hfew HX.out HN2.out).mono ?_
      intro e w3 hP
      clear HB2 HN2 hc1
      by_cases ha : acc ts x = 0
      · obtain ⟨Vv3, Ve3, Vf3, fs3, rfl, hB3, hK3⟩ := hP.2 ha
        have hc3 : w3.cell? ⟨A, 1, none⟩ = some (.int .i64 ts.length) := by rw [cell_of_row _ _ _ _ _ _ hB3.blk]; rfl
        have hf3 : w3.frozen? ⟨A, 1, none⟩ = false := by unfold World.frozen?; rw [hB3.blk]; rfl
        have HR : Hid (tkE ts s = 0 ∧ AudAt (w3.setCell ⟨A, 1, none⟩ (.int .i64 ((ts.length : Int) + 1))) b0 A (tkL ts s) ∧ KeepsA b0 w0 (w3.setCell ⟨A, 1, none⟩ (.int .i64 ((ts.length : Int) + 1)))) := by
          obtain ⟨q1, q2⟩ := hB3.count ((ts.length : Int) + 1)
          refine ⟨HE2.out.trans ha, ?_, (hK2.trans hK3).trans q2⟩
          rw [HL2.out, if_neg (by simp [ha])]
          refine ⟨.snoc ts x HT.out HX.out ha hlt3, Vv3, Ve3, Vf3, fs3, ?_⟩
          have el : ((ts ++ [x]).length : Int) = (ts.length : Int) + 1 := by simp
          rw [el]
          exact q1
        clear hP ha hB3 hK3 hK2 HE2 HL2 HT HX
        go_wp2
        go_ret
        exact ⟨ret_int HR.out.1.symm, HR.out.2⟩
      · obtain ⟨Vv3, Ve3, Vf3, fs3, rfl, hB3, hK3⟩ := hP.1 ha
        have HR : Hid (AudAt w3 b0 A (tkL ts s) ∧ KeepsA b0 w0 w3) := by
          refine ⟨?_, hK2.trans hK3⟩
          rw [HL2.out, if_pos ha]
          exact ⟨HT.out, Vv3, Ve3, Vf3, fs3, hB3⟩
        have hab : (acc ts x == 0) = false := by simp [ha]
        generalize acc ts x = r at *
        clear hP ha hB3 hK3 hK2 HL2 HT HX
        go_wp2
        go_ret
        exact ⟨ret_int HE2.out.symm, HR.out⟩

set_option maxRecDepth 100000 in
set_option maxHeartbeats 400000 in
theorem versions_any (w : World) (b0 A : Nat) (ts : List Msg) (h : AudAt w b0 A ts) :
    Calls Tryz.prog 34 #[.pointer (some ⟨A, 0, none⟩)] w fun e w' => ∃ V, e = .returned V ∧ VersAt w' V (versL ts) ∧ Below w.heap.size w w' := by
  obtain ⟨hT, Vv, Ve, Vf, fs, hB⟩ := h
  have hfew := hT.few
  have hvl := versL_len ts
  have hblk := hB.blk
  have HV : Hid _ := hB.vers
  have HN : Hid _ := hB.versN
  have hc : w.cell? ⟨A, 2, none⟩ = some Vv := by rw [cell_of_row _ _ _ _ _ _ hblk]; rfl
  obtain ⟨va, vc, rfl, -⟩ := VersAt.of_owns hB.vers
  clear hB hT
  go_enter Tryz.func34, Tryz.ntmps34
  go_wp2_with fail
  refine (closedA_any w A _ _ hblk rfl).mono ?_
  rintro e w0 ⟨rfl, rfl⟩
  go_wp2_with fail
  refine (cloneV_any (versL ts) _ b0 w0 HV.out (by omega) HN.out).mono ?_
  rintro e w1 ⟨V, rfl, hV, hb⟩
  go_wp2
  go_ret
  exact ⟨_, rfl, hV, hb⟩

set_option maxRecDepth 100000 in
set_option maxHeartbeats 400000 in
theorem events_any (w : World) (b0 A : Nat) (ts : List Msg) (h : AudAt w b0 A ts) :
    Calls Tryz.prog 29 #[.pointer (some ⟨A, 0, none⟩)] w fun e w' => ∃ V, e = .returned V ∧ EntsAt w' V (evL ts) ∧ Below w.heap.size w w' := by
  obtain ⟨hT, Vv, Ve, Vf, fs, hB⟩ := h
  have hfew := hT.few
  have hel := (evL_inv ts).2
  have hblk := hB.blk
  have HV : Hid _ := hB.evs
  have HN : Hid _ := hB.evsN
  have hc : w.cell? ⟨A, 3, none⟩ = some Ve := by rw [cell_of_row _ _ _ _ _ _ hblk]; rfl
  obtain ⟨va, vc, rfl, -⟩ := EntsAt.of_owns hB.evs
  clear hB hT
  go_enter Tryz.func29, Tryz.ntmps29
  go_wp2_with fail
  refine (closedA_any w A _ _ hblk rfl).mono ?_
  rintro e w0 ⟨rfl, rfl⟩
  go_wp2_with fail
  refine (cloneE_any (evL ts) _ b0 w0 HV.out (by omega) HN.out).mono ?_
  rintro e w1 ⟨V, rfl, hV, hb⟩
  go_wp2
  go_ret
  exact ⟨_, rfl, hV, hb⟩

/-- What Collision shows. -/
inductive Shows (ts : List Msg) (w : World) : Value → Value → Bool → Prop
  | no : (∀ a ∈ txL ts, ∀ b ∈ txL ts, sm a = sm b → a = b) → Shows ts w (.slice none 0 0) (.slice none 0 0) false
  | yes (a b : ByteArray) (ax ay : Addr) (cx cy : Nat) : ltB a b → sm a.data.toList = sm b.data.toList → a.size ≤ 1000000 → b.size ≤ 1000000 → a.data.toList ∈ txL ts → b.data.toList ∈ txL ts → BytesC w (.slice (some ax) a.data.toList.length cx) a.data.toList → BytesC w (.slice (some ay) b.data.toList.length cy) b.data.toList → Shows ts w (.slice (some ax) a.data.toList.length cx) (.slice (some ay) b.data.toList.length cy) true

theorem shows_two (ts : List Msg) (w1 : World) (a b : ByteArray) (c1 c2 : Nat) (f1 f2 : Nat × Nat) (h1 : a.size ≤ c1 ∧ c1 ≤ maxLen) (h2 : b.size ≤ c2 ∧ c2 ≤ maxLen) (hab : ltB a b) (hsm : sm a.data.toList = sm b.data.toList) (hsa : a.size ≤ 1000000) (hsb : b.size ≤ 1000000) (hia : a.data.toList ∈ txL ts) (hib : b.data.toList ∈ txL ts) :
    Shows ts ((w1.alloc (.cells (bytesRow a c1) 5 f1)).alloc (.cells (bytesRow b c2) 5 f2)).drew.drew (.slice (some ⟨w1.heap.size, 0, none⟩) a.size c1) (.slice (some ⟨w1.heap.size + 1, 0, none⟩) b.size c2) true := by
  have ea : a.data.toList.length = a.size := by rw [Array.length_toList]; rfl
  have eb : b.data.toList.length = b.size := by rw [Array.length_toList]; rfl
  have hx : BytesAt ((w1.alloc (.cells (bytesRow a c1) 5 f1)).alloc (.cells (bytesRow b c2) 5 f2)).drew.drew (.slice (some ⟨w1.heap.size, 0, none⟩) a.size c1) a.data.toList := (((made_at w1 a _ _ _ _ rfl rfl).keep (keepA _ _)).keep (keepD _)).keep (keepD _)
  have hy : BytesAt ((w1.alloc (.cells (bytesRow a c1) 5 f1)).alloc (.cells (bytesRow b c2) 5 f2)).drew.drew (.slice (some ⟨w1.heap.size + 1, 0, none⟩) b.size c2) b.data.toList := (((made_at _ b _ _ _ _ (by simp) rfl)).keep (keepD _)).keep (keepD _)
  rw [← ea] at hx ⊢
  rw [← eb] at hy ⊢
  exact .yes a b _ _ c1 c2 hab hsm hsa hsb hia hib ⟨hx, _, _, rfl, by omega, h1.2⟩ ⟨hy, _, _, rfl, by omega, h2.2⟩

set_option maxRecDepth 100000 in
set_option maxHeartbeats 1000000 in
theorem collision_any (w : World) (b0 A : Nat) (ts : List Msg) (h : AudAt w b0 A ts) :
    Calls Tryz.prog 30 #[.pointer (some ⟨A, 0, none⟩)] w fun e w' => ∃ x y k, e = .returned (.tuple #[x, y, .bool k]) ∧ Shows ts w' x y k ∧ Below w.heap.size w w' := by
  obtain ⟨hT, Vv, Ve, Vf, fs, hB⟩ := h
  have hblk := hB.blk
  have HF : Hid _ := hB.fams
  have HK : Hid _ := hB.ok
  have hfl := hB.ok.len
  clear hB hT
  go_enter Tryz.func30, Tryz.ntmps30
  go_wp2_with fail
  refine (closedA_any w A _ _ hblk rfl).mono ?_
  rintro e w0 ⟨rfl, rfl⟩
  go_wp2_with fail
  refine (least_any A b0 _ Vf fs w0 hblk rfl HF.out (by omega) (fun f hf => (HK.out.each f hf).1.len)).mono ?_
  rintro e w1 ⟨a, b, k, rfl, hL, hb⟩
  cases k with
  | false =>
    have HS : Hid (Shows ts w1 (.slice none 0 0) (.slice none 0 0) false) := .no (HK.out.inj (hL.no rfl))
    go_wp2
    go_returns
    exact ⟨_, _, _, rfl, HS.out, hb⟩
  | true =>
    obtain ⟨f, hf, hfe⟩ := hL.yes rfl
    have hTO := (HK.out.each f hf).1
    have hab : ltB a b := by have := hTO.ord; rw [hfe] at this; simpa using this
    have hsm : sm a.data.toList = sm b.data.toList := by rw [hTO.sums a (by rw [hfe]; simp), hTO.sums b (by rw [hfe]; simp)]
    have hsa := hTO.short a (by rw [hfe]; simp)
    have hsb := hTO.short b (by rw [hfe]; simp)
    have hia := HK.out.src f hf a (by rw [hfe]; simp)
    have hib := HK.out.src f hf b (by rw [hfe]; simp)
    have hcv := fun u s => @run_bytes_of_string Tryz.prog u 9 27 5 s Tryz.underlying9 Tryz.underlying27 Tryz.underlying5
    clear hTO hf hfe hL HF HK hblk
    have HG : Hid (∀ (u : World) (s : ByteArray), s.size ≤ 1000000 → s.size ≤ grownCap u s.size 0 5 ∧ grownCap u s.size 0 5 ≤ maxLen) := fun u s h => ⟨grownCap_ge u s.size 0 5, grownCap_le_maxLen u s.size 0 5 (by unfold maxLen; omega)⟩
    go_wp2
    go_returns
    refine ⟨_, _, _, rfl, shows_two ts w1 a b _ _ _ _ (HG.out _ _ hsa) (HG.out _ _ hsb) hab hsm hsa hsb hia hib, ?_⟩
    have hs := hb.size
    exact (((hb.alloc hs _).alloc (by simp; omega) _).drew).drew
end Go.Proofs.YtlndinigbppafaaGreat

/-
  The walks of the program's member and growth: the proofs of a version.
-/
namespace Go.Proofs.YtlndinigbppafaaGreat
open Go.RowKit

theorem evAt_le (evs : List ByteArray) (p m : Nat) (h : ∀ s ∈ evs, s.size ≤ m) : (evAt evs p).size ≤ m := by
  unfold evAt
  rcases Nat.lt_or_ge p evs.length with hp | hp
  · rw [List.getElem?_eq_getElem hp]; exact h _ (List.getElem_mem hp)
  · rw [List.getElem?_eq_none hp]; exact Nat.zero_le _
theorem pruneN_small (evs : List ByteArray) (f : Nat → Nat → Bool) (h : ∀ s ∈ evs, s.size ≤ 255) (d p : Nat) : ∀ x ∈ pruneN evs f d p, (0 ≤ x.kind ∧ x.kind ≤ 255) ∧ (0 ≤ x.dig ∧ x.dig ≤ 65535) ∧ x.ev.size ≤ 255 := by
  have e0 : ByteArray.empty.size = 0 := rfl
  induction d generalizing p with
  | zero =>
    intro x hx
    have h1 := dig_bd evs 0 p
    have h2 := evAt_le evs p 255 h
    unfold pruneN at hx
    split at hx
    · simp at hx; subst hx; exact ⟨by simp, h1, by show ByteArray.empty.size ≤ 255; omega⟩
    · simp at hx; subst hx; exact ⟨by simp, by simp, h2⟩
  | succ d ih =>
    intro x hx
    have h1 := dig_bd evs (d + 1) p
    unfold pruneN at hx
    split at hx
    · simp at hx; subst hx; exact ⟨by simp, h1, by show ByteArray.empty.size ≤ 255; omega⟩
    · split at hx
      · simp only [List.mem_cons, List.mem_append] at hx
        rcases hx with rfl | hx | hx
        · exact ⟨by simp, by simp, by show ByteArray.empty.size ≤ 255; omega⟩
        · exact ih p x hx
        · exact ih _ x hx
      · simp only [List.mem_cons] at hx
        rcases hx with rfl | hx
        · exact ⟨by simp, by simp, by show ByteArray.empty.size ≤ 255; omega⟩
        · exact ih p x hx

/-- A member proof's bytes. -/
def memberB (evs : List ByteArray) (i : Int) : List UInt8 := encM 3 i evs.length 0 (pruneN evs (ruleM i) (dep evs.length) 0)
/-- A growth proof's bytes. -/
def growthB (evs : List ByteArray) (m : Int) : List UInt8 := encM 2 m evs.length (dig evs (dep evs.length) 0) (pruneN evs (ruleG m) (dep evs.length) 0)
/-- A commitment's bytes. -/
def commitB (evs : List ByteArray) : List UInt8 := encM 1 0 evs.length (dig evs (dep evs.length) 0) []

theorem small_prune (evs : List ByteArray) (f : Nat → Nat → Bool) (k M R : Int) (hk : 0 ≤ k ∧ k ≤ 255) (hM : 0 ≤ M ∧ M ≤ 65535) (hR : 0 ≤ R ∧ R ≤ 65535) (hn : evs.length ≤ 65535) (hs : ∀ s ∈ evs, s.size ≤ 255) : SmallM k M evs.length R (pruneN evs f (dep evs.length) 0) := by
  refine ⟨hk, hM, ⟨by omega, by omega⟩, hR, ?_, pruneN_small evs f hs _ _⟩
  have h1 := pruneN_len evs f (dep evs.length) 0
  have h2 : pw (dep evs.length) ≤ 65536 := pw_le (e := 16) (dep_le _ 16 (by rw [pw_16]; omega))
  omega

set_option maxRecDepth 100000 in
set_option maxHeartbeats 1000000 in
theorem member_any (evs : List ByteArray) (V : Value) (i n : Int) (w : World) (hV : Prunes V (fun f => pruneN evs f (dep evs.length) 0)) (hi : 0 ≤ i ∧ i ≤ 65535) (en : n = evs.length) (hn : evs.length ≤ 65535) (hs : ∀ s ∈ evs, s.size ≤ 255) :
    Calls Tryz.prog 62 #[V, .int .i64 i, .int .i64 n] w fun e w' => ∃ v', e = .returned v' ∧ w'.ownsRow w.heap.size 5 1 v' (memberB evs i).length (bytes8 (memberB evs i)) ∧ Below w.heap.size w w' := by
  obtain ⟨t, a, F, rfl, hm, hE, hA, hC⟩ := hV
  subst en
  go_enter Tryz.func62, Tryz.ntmps62
  go_wp2
  go_region_held3 (fun _ => True) (trivial)
    (first
      | (go_at_call 99; refine (memberRule_any _ _).mono ?_; rintro e w1 ⟨R, rfl, hR1, hb1⟩; have hq1 : Below w.heap.size w w1 := below_step ((Below.refl _ _).drew) hb1)
      | (refine Calls.mono (hC.out (ruleM i) R _ hR1) ?_; rintro e w2 ⟨v2, rfl, hN2, hb2⟩; obtain ⟨x2, y2, rfl, hrest⟩ := id hN2; clear hrest; have hq2 : Below w.heap.size w w2 := below_step hq1 hb2))
  all_goals go_wp2_with fail
  all_goals refine (wireMessage_any 3 i evs.length 0 _ _ _ hN2 (small_prune evs (ruleM i) 3 i 0 (by omega) hi (by omega) hn hs) (by omega)).mono ?_
  all_goals rintro e w3 ⟨v3, rfl, hO3, hb3⟩
  all_goals go_wp2
  all_goals go_ret
  all_goals exact ⟨_, rfl, owns_base hO3 hq2.size, hq2.trans (hb3.mono hq2.size)⟩

set_option maxRecDepth 100000 in
set_option maxHeartbeats 1000000 in
theorem growth_any (evs : List ByteArray) (V : Value) (m n : Int) (w : World) (hV : Prunes V (fun f => pruneN evs f (dep evs.length) 0)) (hD : NodeV (dig evs (dep evs.length) 0) V) (hm' : 0 ≤ m ∧ m ≤ 65535) (en : n = evs.length) (hn : evs.length ≤ 65535) (hs : ∀ s ∈ evs, s.size ≤ 255) :
    Calls Tryz.prog 61 #[V, .int .i64 m, .int .i64 n] w fun e w' => ∃ v', e = .returned v' ∧ w'.ownsRow w.heap.size 5 1 v' (growthB evs m).length (bytes8 (growthB evs m)) ∧ Below w.heap.size w w' := by
  have hdb := dig_bd evs (dep evs.length) 0
  have HM : Hid (growthB evs m = encM 2 m evs.length (dig evs (dep evs.length) 0) (pruneN evs (ruleG m) (dep evs.length) 0)) := rfl
  generalize dig evs (dep evs.length) 0 = g at *
  obtain ⟨t, a, F, rfl, hm, hE, hA, hC⟩ := hV
  subst en
  go_enter Tryz.func61, Tryz.ntmps61
  go_wp2
  go_region_held3 (fun _ => True) (trivial)
    (first
      | (go_at_call 98; refine (growthRule_any _ _).mono ?_; rintro e w1 ⟨R, rfl, hR1, hb1⟩; have hq1 : Below w.heap.size w w1 := below_step ((Below.refl _ _).drew) hb1)
      | (refine Calls.mono (hC.out (ruleG m) R _ hR1) ?_; rintro e w2 ⟨v2, rfl, hN2, hb2⟩; obtain ⟨x2, y2, rfl, hrest⟩ := id hN2; clear hrest; have hq2 : Below w.heap.size w w2 := below_step hq1 hb2))
  all_goals have hs2 := hq2.size
  all_goals clear hm hE hA hC hR1
  all_goals rcases digest_call hD with ⟨x, y, z, hVe⟩ | ⟨x, y, z, hVe⟩ | ⟨x, y, z, u, hVe⟩
  all_goals simp only [Value.iface.injEq] at hVe
  all_goals obtain ⟨rfl, rfl⟩ := hVe
  all_goals go_wp2_with (first
    | (go_at_call 227; refine (leafDigest_any _ _ _ _ _).mono ?_; rintro e w' ⟨rfl, rfl⟩)
    | (go_at_call 232; refine (aloneDigest_any _ _ _ _ _).mono ?_; rintro e w' ⟨rfl, rfl⟩)
    | (go_at_call 240; refine (twoDigest_any _ _ _ _ _ _).mono ?_; rintro e w' ⟨rfl, rfl⟩))
  all_goals refine (wireMessage_any 2 m evs.length g _ _ _ (hN2.keep (keepA _ _)) (small_prune evs (ruleG m) 2 m g (by omega) hm' hdb hn hs) (by omega)).mono ?_
  all_goals rintro e w3 ⟨v3, rfl, hO3, hb3⟩
  all_goals rw [← HM.out] at hO3
  all_goals go_wp2
  all_goals go_ret
  all_goals exact ⟨_, rfl, owns_base hO3 (by simp; omega), (hq2.alloc hs2 _).trans (hb3.mono (by simp; omega))⟩
end Go.Proofs.YtlndinigbppafaaGreat

/-
  The walks of the program's log: what is read of it.
-/
namespace Go.Proofs.YtlndinigbppafaaGreat
open Go.RowKit

/-- Strings as cells. -/
def strs8 (evs : List ByteArray) : List Value := evs.map Value.string
/-- A log that NewLog made, with these events: its own block, its row of events. -/
def LogAt (w : World) (b0 B : Nat) (S : Value) (evs : List ByteArray) : Prop :=
  b0 ≤ B ∧ w.heap[B]? = some (.cells #[.pointer (some ⟨B, 0, none⟩), S] 41 (0, 0)) ∧ w.ownsRow b0 9 1 S evs.length (strs8 evs)

theorem LogAt.below {w w' : World} {b0 B : Nat} {S : Value} {evs : List ByteArray} (h : LogAt w b0 B S evs) (hb : Below w.heap.size w w') : LogAt w' b0 B S evs := by
  obtain ⟨h0, h1, h2⟩ := h
  exact ⟨h0, by rw [hb.block B (lt_of_heap h1)]; exact h1, owns_below h2 hb⟩
theorem LogAt.made {w : World} {b0 B : Nat} {S : Value} {evs : List ByteArray} (h : LogAt w b0 B S evs) : w.cell? ⟨B, 0, none⟩ = some (.pointer (some ⟨B, 0, none⟩)) := by
  rw [cell_of_row _ _ _ _ _ _ h.2.1]; rfl
theorem LogAt.evs {w : World} {b0 B : Nat} {S : Value} {evs : List ByteArray} (h : LogAt w b0 B S evs) : w.cell? ⟨B, 1, none⟩ = some S := by
  rw [cell_of_row _ _ _ _ _ _ h.2.1]; rfl
/-- Its events, and the first n of them. -/
theorem LogAt.slice {w : World} {b0 B : Nat} {S : Value} {evs : List ByteArray} (h : LogAt w b0 B S evs) : ∃ ao cap, S = .slice ao evs.length cap ∧ evs.length ≤ cap ∧ cap ≤ maxLen ∧ ∀ n, n ≤ evs.length → StringsAt w (.slice ao n cap) (evs.take n) := by
  obtain ⟨_, _, h2, h3⟩ := h
  rcases h3 with ⟨rfl, h0⟩ | ⟨g, cap, cur, rfl, _, hgg, hle, hmax, _, htake⟩
  · refine ⟨none, 0, by rw [h0], by omega, by decide, fun n hn => ⟨none, 0, by rw [List.length_take]; congr 1; omega, fun hl => ?_⟩⟩
    rw [List.length_take] at hl; omega
  · refine ⟨_, cap, rfl, hle, hmax, fun n hn => ⟨_, cap, by rw [List.length_take]; congr 1; omega, fun _ => ⟨g, 0, rfl, lt_of_heap hgg, fun j hj => ?_⟩⟩⟩
    rw [List.length_take] at hj
    rw [cell_of_row _ _ _ _ _ _ hgg, Nat.zero_add]
    have h1 : (strs8 evs)[j]? = some (.string evs[j]) := by simp [strs8, show j < evs.length by omega]
    rw [← htake, List.getElem?_take, if_pos (by omega)] at h1
    simpa using h1

theorem Tryz.infoLog : (Tryz.prog.info? 41).map (fun i => i.size) = some 2 := by kernel_rfl
theorem same_ptr (d : Nat) (w : World) (a : Addr) : (Op.equalIn (d + 1) 37 (.pointer (some a)) (.pointer (some a))).run Tryz.prog w = .ok true w := by
  obtain ⟨i, hi, _⟩ : ∃ i, Tryz.prog.info? 41 = some i ∧ i.size = 2 := by
    have h := Tryz.infoLog
    cases e : Tryz.prog.info? 41 with
    | none => rw [e] at h; cases h
    | some i => rw [e] at h; exact ⟨i, rfl, by simpa using h⟩
  simp [Op.equalIn, run_underlying Tryz.underlying37, sizeOf, typeInfo, hi, run_sameAddr_same]
theorem neq_self (w : World) (a : Addr) : (binOp .neq 37 (.pointer (some a)) (.pointer (some a))).run Tryz.prog w = .ok (.bool false) w := by
  have h : (Op.equal 37 (.pointer (some a)) (.pointer (some a))).run Tryz.prog w = .ok true w := same_ptr 9999 w a
  simp only [binOp]
  simp [h]

set_option maxRecDepth 100000 in
set_option maxHeartbeats 400000 in
theorem closed_any (w : World) (b0 B : Nat) (S : Value) (evs : List ByteArray) (h : LogAt w b0 B S evs) :
    Calls Tryz.prog 72 #[.pointer (some ⟨B, 0, none⟩)] w fun e w' => e = .returned (.bool false) ∧ w' = w := by
  have hm := h.made
  have hne := neq_self w ⟨B, 0, none⟩
  go_enter Tryz.func72, Tryz.ntmps72
  go_wp2
  go_ret
  exact ⟨rfl, rfl⟩

set_option maxRecDepth 100000 in
set_option maxHeartbeats 400000 in
theorem len_log (w : World) (b0 B : Nat) (S : Value) (evs : List ByteArray) (h : LogAt w b0 B S evs) :
    Calls Tryz.prog 42 #[.pointer (some ⟨B, 0, none⟩)] w fun e w' => e = .returned (.int .i64 evs.length) ∧ w' = w := by
  have hm := h.evs
  obtain ⟨ao, cap, rfl, hc, _⟩ := h.slice
  go_enter Tryz.func42, Tryz.ntmps42
  go_wp2_with (go_at_call 72; refine (closed_any _ _ _ _ _ h).mono ?_; rintro e w' ⟨rfl, rfl⟩)
  go_ret
  exact ⟨rfl, rfl⟩

set_option maxRecDepth 100000 in
set_option maxHeartbeats 400000 in
theorem check_ok (w : World) (b0 B : Nat) (S : Value) (evs : List ByteArray) (n : Int) (h : LogAt w b0 B S evs) (h1 : 1 ≤ n) (h2 : n ≤ evs.length) :
    Calls Tryz.prog 55 #[.pointer (some ⟨B, 0, none⟩), .int .i64 n] w fun e w' => e = .returned (.int .i64 0) ∧ w' = w := by
  have hm := h.evs
  obtain ⟨ao, cap, rfl, hc, _⟩ := h.slice
  go_enter Tryz.func55, Tryz.ntmps55
  go_wp2_with (go_at_call 72; refine (closed_any _ _ _ _ _ h).mono ?_; rintro e w' ⟨rfl, rfl⟩)
  go_ret
  exact ⟨rfl, rfl⟩

set_option maxRecDepth 100000 in
set_option maxHeartbeats 400000 in
theorem check_no (w : World) (b0 B : Nat) (S : Value) (evs : List ByteArray) (n : Int) (h : LogAt w b0 B S evs) (h1 : n < 1 ∨ (evs.length : Int) < n) :
    Calls Tryz.prog 55 #[.pointer (some ⟨B, 0, none⟩), .int .i64 n] w fun e w' => e = .returned (.int .i64 1) ∧ w' = w := by
  have hm := h.evs
  obtain ⟨ao, cap, rfl, hc, _⟩ := h.slice
  by_cases hn : n < 1
  · go_enter Tryz.func55, Tryz.ntmps55
    go_wp2_with (go_at_call 72; refine (closed_any _ _ _ _ _ h).mono ?_; rintro e w' ⟨rfl, rfl⟩)
    go_ret
    exact ⟨rfl, rfl⟩
  · have hn2 : (evs.length : Int) < n := by omega
    have hn3 : 1 ≤ n := by omega
    go_enter Tryz.func55, Tryz.ntmps55
    go_wp2_with (go_at_call 72; refine (closed_any _ _ _ _ _ h).mono ?_; rintro e w' ⟨rfl, rfl⟩)
    go_ret
    exact ⟨rfl, rfl⟩

set_option maxRecDepth 100000 in
set_option maxHeartbeats 400000 in
theorem version_any (w : World) (b0 B : Nat) (S : Value) (evs : List ByteArray) (n : Nat) (N : Int) (eN : N = n) (h : LogAt w b0 B S evs) (h1 : 1 ≤ n) (h2 : n ≤ evs.length) (hn : evs.length ≤ 65535) (hs : ∀ s ∈ evs, s.size ≤ 255) :
    Calls Tryz.prog 56 #[.pointer (some ⟨B, 0, none⟩), .int .i64 N] w fun e w' => e = .returned (treeV (evs.take n) (dep n) 0) ∧ Below w.heap.size w w' := by
  subst eN
  have hm := h.evs
  obtain ⟨ao, cap, rfl, hc, hmax, hS⟩ := h.slice
  have hv := hS n h2
  have hnc : (n : Int) ≤ (cap : Int) := by omega
  have hl : (evs.take n).length = n := by rw [List.length_take]; omega
  clear hS
  go_enter Tryz.func56, Tryz.ntmps56
  go_wp2_with fail
  refine (Build_any (evs.take n) _ _ (by omega) (by omega) (fun s hm => by have := hs s (List.mem_of_mem_take hm); omega) hv).mono ?_
  rintro e w1 ⟨rfl, hb⟩
  rw [hl]
  go_wp2
  go_ret
  exact ⟨rfl, hb⟩
end Go.Proofs.YtlndinigbppafaaGreat

/-
  The walks of the program's log: Root, Commitment, Member, Growth.
-/
namespace Go.Proofs.YtlndinigbppafaaGreat
open Go.RowKit

theorem take_small {evs : List ByteArray} {n m : Nat} (hs : ∀ s ∈ evs, s.size ≤ m) : ∀ s ∈ evs.take n, s.size ≤ m := fun s h => hs s (List.mem_of_mem_take h)

set_option maxRecDepth 100000 in
set_option maxHeartbeats 400000 in
theorem root_no (w : World) (b0 B : Nat) (S : Value) (evs : List ByteArray) (n : Int) (h : LogAt w b0 B S evs) (hn : n < 1 ∨ (evs.length : Int) < n) :
    Calls Tryz.prog 33 #[.pointer (some ⟨B, 0, none⟩), .int .i64 n] w fun e w' => e = .returned (.tuple #[.int .i64 0, .int .i64 1]) ∧ w' = w := by
  go_enter Tryz.func33, Tryz.ntmps33
  go_wp2_with (go_at_call 55; refine (check_no _ _ _ _ _ _ h hn).mono ?_; rintro e w' ⟨rfl, rfl⟩)
  go_ret2
  exact ⟨rfl, rfl⟩

set_option maxRecDepth 100000 in
set_option maxHeartbeats 1000000 in
theorem root_ok (w : World) (b0 B : Nat) (S : Value) (evs : List ByteArray) (n : Nat) (h : LogAt w b0 B S evs) (h1 : 1 ≤ n) (h2 : n ≤ evs.length) (hn : evs.length ≤ 65535) (hs : ∀ s ∈ evs, s.size ≤ 255) :
    Calls Tryz.prog 33 #[.pointer (some ⟨B, 0, none⟩), .int .i64 n] w fun e w' => e = .returned (.tuple #[.int .i64 (dig (evs.take n) (dep n) 0), .int .i64 0]) ∧ Below w.heap.size w w' := by
  have hV := treeV_node (evs.take n) (dep n) 0
  generalize dig (evs.take n) (dep n) 0 = g at hV ⊢
  go_enter Tryz.func33, Tryz.ntmps33
  go_wp2_with fail
  refine (check_ok _ _ _ _ _ n h (by omega) (by omega)).mono ?_
  rintro e w' ⟨rfl, rfl⟩
  go_wp2_with fail
  refine (version_any _ _ _ _ _ n _ rfl h h1 h2 hn hs).mono ?_
  rintro e w1 ⟨rfl, hb1⟩
  rcases digest_call hV with ⟨x, y, z, hVe⟩ | ⟨x, y, z, hVe⟩ | ⟨x, y, z, u, hVe⟩
  all_goals rw [hVe]
  all_goals clear hVe hV
  all_goals go_wp2_with (first
    | (go_at_call 227; refine (leafDigest_any _ _ _ _ _).mono ?_; rintro e w' ⟨rfl, rfl⟩)
    | (go_at_call 232; refine (aloneDigest_any _ _ _ _ _).mono ?_; rintro e w' ⟨rfl, rfl⟩)
    | (go_at_call 240; refine (twoDigest_any _ _ _ _ _ _).mono ?_; rintro e w' ⟨rfl, rfl⟩))
  all_goals go_ret2
  all_goals exact ⟨rfl, hb1.alloc hb1.size _⟩

set_option maxRecDepth 100000 in
set_option maxHeartbeats 400000 in
theorem commit_no (w : World) (b0 B : Nat) (S : Value) (evs : List ByteArray) (n : Int) (h : LogAt w b0 B S evs) (hn : n < 1 ∨ (evs.length : Int) < n) :
    Calls Tryz.prog 23 #[.pointer (some ⟨B, 0, none⟩), .int .i64 n] w fun e w' => e = .returned (.tuple #[.slice none 0 0, .int .i64 1]) ∧ w' = w := by
  go_enter Tryz.func23, Tryz.ntmps23
  go_wp2_with (go_at_call 55; refine (check_no _ _ _ _ _ _ h hn).mono ?_; rintro e w' ⟨rfl, rfl⟩)
  go_ret2
  exact ⟨rfl, rfl⟩
set_option maxRecDepth 100000 in
set_option maxHeartbeats 400000 in
theorem member_no (w : World) (b0 B : Nat) (S : Value) (evs : List ByteArray) (i n : Int) (h : LogAt w b0 B S evs) (hn : n < 1 ∨ (evs.length : Int) < n) :
    Calls Tryz.prog 26 #[.pointer (some ⟨B, 0, none⟩), .int .i64 i, .int .i64 n] w fun e w' => e = .returned (.tuple #[.slice none 0 0, .int .i64 1]) ∧ w' = w := by
  go_enter Tryz.func26, Tryz.ntmps26
  go_wp2_with (go_at_call 55; refine (check_no _ _ _ _ _ _ h hn).mono ?_; rintro e w' ⟨rfl, rfl⟩)
  go_ret2
  exact ⟨rfl, rfl⟩
set_option maxRecDepth 100000 in
set_option maxHeartbeats 400000 in
theorem growth_no (w : World) (b0 B : Nat) (S : Value) (evs : List ByteArray) (m n : Int) (h : LogAt w b0 B S evs) (hn : n < 1 ∨ (evs.length : Int) < n) :
    Calls Tryz.prog 25 #[.pointer (some ⟨B, 0, none⟩), .int .i64 m, .int .i64 n] w fun e w' => e = .returned (.tuple #[.slice none 0 0, .int .i64 1]) ∧ w' = w := by
  go_enter Tryz.func25, Tryz.ntmps25
  go_wp2_with (go_at_call 55; refine (check_no _ _ _ _ _ _ h hn).mono ?_; rintro e w' ⟨rfl, rfl⟩)
  go_ret2
  exact ⟨rfl, rfl⟩
set_option maxRecDepth 100000 in
set_option maxHeartbeats 400000 in
theorem member_no2 (w : World) (b0 B : Nat) (S : Value) (evs : List ByteArray) (i n : Int) (h : LogAt w b0 B S evs) (h1 : 1 ≤ n) (h2 : n ≤ evs.length) (hi : i < 0 ∨ n ≤ i) :
    Calls Tryz.prog 26 #[.pointer (some ⟨B, 0, none⟩), .int .i64 i, .int .i64 n] w fun e w' => e = .returned (.tuple #[.slice none 0 0, .int .i64 1]) ∧ w' = w := by
  by_cases hi0 : i < 0
  · go_enter Tryz.func26, Tryz.ntmps26
    go_wp2_with (go_at_call 55; refine (check_ok _ _ _ _ _ _ h h1 h2).mono ?_; rintro e w' ⟨rfl, rfl⟩)
    go_ret2
    exact ⟨rfl, rfl⟩
  · have hi1 : n ≤ i := by omega
    have hi2 : 0 ≤ i := by omega
    go_enter Tryz.func26, Tryz.ntmps26
    go_wp2_with (go_at_call 55; refine (check_ok _ _ _ _ _ _ h h1 h2).mono ?_; rintro e w' ⟨rfl, rfl⟩)
    go_ret2
    exact ⟨rfl, rfl⟩
set_option maxRecDepth 100000 in
set_option maxHeartbeats 400000 in
theorem growth_no2 (w : World) (b0 B : Nat) (S : Value) (evs : List ByteArray) (m n : Int) (h : LogAt w b0 B S evs) (h1 : 1 ≤ n) (h2 : n ≤ evs.length) (hi : m < 1 ∨ n < m) :
    Calls Tryz.prog 25 #[.pointer (some ⟨B, 0, none⟩), .int .i64 m, .int .i64 n] w fun e w' => e = .returned (.tuple #[.slice none 0 0, .int .i64 1]) ∧ w' = w := by
  by_cases hi0 : m < 1
  · go_enter Tryz.func25, Tryz.ntmps25
    go_wp2_with (go_at_call 55; refine (check_ok _ _ _ _ _ _ h h1 h2).mono ?_; rintro e w' ⟨rfl, rfl⟩)
    go_ret2
    exact ⟨rfl, rfl⟩
  · have hi1 : n < m := by omega
    have hi2 : 1 ≤ m := by omega
    go_enter Tryz.func25, Tryz.ntmps25
    go_wp2_with (go_at_call 55; refine (check_ok _ _ _ _ _ _ h h1 h2).mono ?_; rintro e w' ⟨rfl, rfl⟩)
    go_ret2
    exact ⟨rfl, rfl⟩

set_option maxRecDepth 100000 in
set_option maxHeartbeats 1000000 in
theorem member_ok (w : World) (b0 B : Nat) (S : Value) (evs : List ByteArray) (i : Int) (n : Nat) (h : LogAt w b0 B S evs) (h1 : 1 ≤ n) (h2 : n ≤ evs.length) (hi0 : 0 ≤ i) (hi1 : i < n) (hn : evs.length ≤ 65535) (hs : ∀ s ∈ evs, s.size ≤ 255) :
    Calls Tryz.prog 26 #[.pointer (some ⟨B, 0, none⟩), .int .i64 i, .int .i64 n] w fun e w' => ∃ v', e = .returned (.tuple #[v', .int .i64 0]) ∧ w'.ownsRow w.heap.size 5 1 v' (memberB (evs.take n) i).length (bytes8 (memberB (evs.take n) i)) ∧ Below w.heap.size w w' := by
  have hl : (evs.take n).length = n := by rw [List.length_take]; omega
  have hP := prunes_tree (evs.take n) (dep n) (dep_le _ 16 (by rw [pw_16]; omega)) 0 (by have : pw (dep n) ≤ 65536 := pw_le (e := 16) (dep_le _ 16 (by rw [pw_16]; omega)); omega)
  have HP : Hid (Prunes (treeV (evs.take n) (dep n) 0) (fun f => pruneN (evs.take n) f (dep (evs.take n).length) 0)) := by rw [hl]; exact hP
  clear hP
  have HL : Hid ((evs.take n).length = n) := hl
  clear hl
  go_enter Tryz.func26, Tryz.ntmps26
  go_wp2_with fail
  refine (check_ok _ _ _ _ _ n h (by omega) (by omega)).mono ?_
  rintro e w' ⟨rfl, rfl⟩
  go_wp2_with fail
  refine (version_any _ _ _ _ _ n _ rfl h h1 h2 hn hs).mono ?_
  rintro e w1 ⟨rfl, hb1⟩
  go_wp2_with fail
  refine (member_any (evs.take n) _ i n _ HP.out ⟨hi0, by omega⟩ (by rw [HL.out]) (by rw [HL.out]; omega) (take_small hs)).mono ?_
  rintro e w2 ⟨v2, rfl, hO2, hb2⟩
  go_wp2
  go_ret2
  exact ⟨_, rfl, owns_base hO2 hb1.size, hb1.trans (hb2.mono hb1.size)⟩

set_option maxRecDepth 100000 in
set_option maxHeartbeats 1000000 in
theorem growth_ok (w : World) (b0 B : Nat) (S : Value) (evs : List ByteArray) (m : Int) (n : Nat) (h : LogAt w b0 B S evs) (h1 : 1 ≤ n) (h2 : n ≤ evs.length) (hi0 : 1 ≤ m) (hi1 : m ≤ n) (hn : evs.length ≤ 65535) (hs : ∀ s ∈ evs, s.size ≤ 255) :
    Calls Tryz.prog 25 #[.pointer (some ⟨B, 0, none⟩), .int .i64 m, .int .i64 n] w fun e w' => ∃ v', e = .returned (.tuple #[v', .int .i64 0]) ∧ w'.ownsRow w.heap.size 5 1 v' (growthB (evs.take n) m).length (bytes8 (growthB (evs.take n) m)) ∧ Below w.heap.size w w' := by
  have hl : (evs.take n).length = n := by rw [List.length_take]; omega
  have hP := prunes_tree (evs.take n) (dep n) (dep_le _ 16 (by rw [pw_16]; omega)) 0 (by have : pw (dep n) ≤ 65536 := pw_le (e := 16) (dep_le _ 16 (by rw [pw_16]; omega)); omega)
  have HP : Hid (Prunes (treeV (evs.take n) (dep n) 0) (fun f => pruneN (evs.take n) f (dep (evs.take n).length) 0)) := by rw [hl]; exact hP
  have HV : Hid (NodeV (dig (evs.take n) (dep (evs.take n).length) 0) (treeV (evs.take n) (dep n) 0)) := by rw [hl]; exact treeV_node _ _ _
  clear hP
  have HL : Hid ((evs.take n).length = n) := hl
  clear hl
  go_enter Tryz.func25, Tryz.ntmps25
  go_wp2_with fail
  refine (check_ok _ _ _ _ _ n h (by omega) (by omega)).mono ?_
  rintro e w' ⟨rfl, rfl⟩
  go_wp2_with fail
  refine (version_any _ _ _ _ _ n _ rfl h h1 h2 hn hs).mono ?_
  rintro e w1 ⟨rfl, hb1⟩
  go_wp2_with fail
  refine (growth_any (evs.take n) _ m n _ HP.out HV.out ⟨by omega, by omega⟩ (by rw [HL.out]) (by rw [HL.out]; omega) (take_small hs)).mono ?_
  rintro e w2 ⟨v2, rfl, hO2, hb2⟩
  go_wp2
  go_ret2
  exact ⟨_, rfl, owns_base hO2 hb1.size, hb1.trans (hb2.mono hb1.size)⟩

set_option maxRecDepth 100000 in
set_option maxHeartbeats 1000000 in
theorem commit_ok (w : World) (b0 B : Nat) (S : Value) (evs : List ByteArray) (n : Nat) (h : LogAt w b0 B S evs) (h1 : 1 ≤ n) (h2 : n ≤ evs.length) (hn : evs.length ≤ 65535) (hs : ∀ s ∈ evs, s.size ≤ 255) :
    Calls Tryz.prog 23 #[.pointer (some ⟨B, 0, none⟩), .int .i64 n] w fun e w' => ∃ v', e = .returned (.tuple #[v', .int .i64 0]) ∧ w'.ownsRow w.heap.size 5 1 v' (commitB (evs.take n)).length (bytes8 (commitB (evs.take n))) ∧ Below w.heap.size w w' := by
  have hl : (evs.take n).length = n := by rw [List.length_take]; omega
  have HM : Hid (commitB (evs.take n) = encM 1 0 n (dig (evs.take n) (dep n) 0) []) := by show commitB _ = _; unfold commitB; rw [hl]
  have hV := treeV_node (evs.take n) (dep n) 0
  have hd := dig_bd (evs.take n) (dep n) 0
  clear hl
  generalize dig (evs.take n) (dep n) 0 = g at hV hd HM
  go_enter Tryz.func23, Tryz.ntmps23
  go_wp2_with fail
  refine (check_ok _ _ _ _ _ n h (by omega) (by omega)).mono ?_
  rintro e w' ⟨rfl, rfl⟩
  go_wp2_with fail
  refine (version_any _ _ _ _ _ n _ rfl h h1 h2 hn hs).mono ?_
  rintro e w1 ⟨rfl, hb1⟩
  have hs1 := hb1.size
  rcases digest_call hV with ⟨x, y, z, hVe⟩ | ⟨x, y, z, hVe⟩ | ⟨x, y, z, u, hVe⟩
  all_goals rw [hVe]
  all_goals clear hVe hV
  all_goals go_wp2_with (first
    | (go_at_call 227; refine (leafDigest_any _ _ _ _ _).mono ?_; rintro e w' ⟨rfl, rfl⟩)
    | (go_at_call 232; refine (aloneDigest_any _ _ _ _ _).mono ?_; rintro e w' ⟨rfl, rfl⟩)
    | (go_at_call 240; refine (twoDigest_any _ _ _ _ _ _).mono ?_; rintro e w' ⟨rfl, rfl⟩))
  all_goals refine (wireMessage_any 1 0 n g _ [] _ ⟨none, 0, rfl, fun _ => rfl, fun hl => (by simp at hl)⟩ ⟨by omega, by omega, by omega, hd, by simp, fun x hx => (by cases hx)⟩ (by omega)).mono ?_
  all_goals rintro e w3 ⟨v3, rfl, hO3, hb3⟩
  all_goals rw [← HM.out] at hO3
  all_goals go_wp2
  all_goals go_ret2
  all_goals exact ⟨_, rfl, owns_base hO3 (by simp; omega), ((hb1.alloc hs1 _).alloc (by simp; omega) _).trans (hb3.mono (by simp; omega))⟩
end Go.Proofs.YtlndinigbppafaaGreat
