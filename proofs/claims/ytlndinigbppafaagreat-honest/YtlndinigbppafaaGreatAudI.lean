/-
  The walk of the program's weigh: what is answered to a message, and what is known then.
-/
import Derived.Test.YtlndinigbppafaaGreatAudF
import Derived.Test.YtlndinigbppafaaGreatAudG
import Derived.Test.YtlndinigbppafaaGreatAudH
namespace Go.Proofs.YtlndinigbppafaaGreat
open Go.RowKit Go.Deep

/-- The events that are known once these messages were taken. -/
def evL (ts : List Msg) : List Ent := ts.foldl (fun l x => if x.kind = 3 then insE l (x.m, lastL x.tree) else l) []
theorem evL_snoc (ts : List Msg) (x : Msg) : evL (ts ++ [x]) = if x.kind = 3 then insE (evL ts) (x.m, lastL x.tree) else evL ts := by
  unfold evL; rw [List.foldl_append]; rfl
theorem insE_len (l : List Ent) (t : Ent) : (insE l t).length ≤ l.length + 1 := by
  unfold insE
  split
  · omega
  · have := placeE_le l t
    simp
    omega
theorem evL_inv (ts : List Msg) : SortE (evL ts) ∧ (evL ts).length ≤ ts.length := by
  have h : ∀ (l : List Msg) (es : List Ent), SortE es → SortE (l.foldl (fun l x => if x.kind = 3 then insE l (x.m, lastL x.tree) else l) es) ∧ (l.foldl (fun l x => if x.kind = 3 then insE l (x.m, lastL x.tree) else l) es).length ≤ es.length + l.length := by
    intro l
    induction l with
    | nil => intro es h; exact ⟨h, by simp⟩
    | cons x l ih =>
      intro es h
      simp only [List.foldl_cons, List.length_cons]
      split
      · have h1 := ih _ (ins_sort h (x.m, lastL x.tree))
        have h2 := insE_len es (x.m, lastL x.tree)
        exact ⟨h1.1, by omega⟩
      · have h1 := ih _ h
        exact ⟨h1.1, by omega⟩
  have := h ts [] SortE.nil
  exact ⟨this.1, by unfold evL; have := this.2; simpa using this⟩
theorem versL_len (ts : List Msg) : (versL ts).length ≤ ts.length := List.length_filterMap_le _ _

/-- What weighing of the message x leaves. -/
def WP (b0 A : Nat) (n : Int) (ts : List Msg) (x : Msg) (w : World) (e : Ending) (w' : World) : Prop :=
  (acc ts x ≠ 0 → WeighP b0 A n (acc ts x) (versL ts) (evL ts) (txL ts) w e w') ∧ (acc ts x = 0 → WeighP b0 A n 0 (versL (ts ++ [x])) (evL (ts ++ [x])) (txL (ts ++ [x])) w e w')

theorem WeighP.sub {b0 A : Nat} {n r : Int} {vs : List (Int × Int)} {es : List Ent} {TL TL' : List (List UInt8)} {w : World} {e : Ending} {w' : World} (h : WeighP b0 A n r vs es TL w e w') (hs : ∀ x, x ∈ TL' ↔ x ∈ TL) : WeighP b0 A n r vs es TL' w e w' := by
  obtain ⟨Vv, Ve, Vf, fs, h1, h2, h3⟩ := h
  exact ⟨Vv, Ve, Vf, fs, h1, h2.sub hs, h3⟩

/-- Growth. -/
theorem weighG_msg (w : World) (b0 A : Nat) (n : Int) (Vv Ve Vf : Value) (ts : List Msg) (fs : List Fam) (x : Msg) (T : Value) (h : AudB w b0 A n Vv Ve Vf (versL ts) (evL ts) fs (txL ts)) (hb0 : b0 ≤ w.heap.size) (hl : ts.length ≤ 300) (hx : ValidM x) (hk : x.kind = 2) (hN : NodesC w T x.tree) :
    Calls Tryz.prog 96 #[.pointer (some ⟨A, 0, none⟩), .agg #[.int .i64 x.kind, .int .i64 x.m, .int .i64 x.n, .int .i64 x.root, T]] w fun e w' => WP b0 A n ts x w e w' := by
  obtain ⟨hm1, hm2⟩ := hx.g hk
  obtain ⟨hn1, hn2⟩ := hx.n
  obtain ⟨hsh, htree⟩ := hx.pt (by omega)
  rw [hk] at hsh
  have hvl := versL_len ts
  obtain ⟨mm, hmm⟩ : ∃ mm : Nat, x.m = mm := ⟨x.m.toNat, by omega⟩
  obtain ⟨nn, hnn⟩ : ∃ nn : Nat, x.n = nn := ⟨x.n.toNat, by omega⟩
  obtain ⟨c1, c2⟩ := growth_cut hx hk
  obtain ⟨o1, o2⟩ := proof_own hx (by omega)
  rw [hmm, hnn] at c1 c2
  rw [hnn] at o1 o2
  simp only [Int.toNat_natCast] at c1 c2
  have hG : ∀ e w', GP b0 A n (versL ts) (evL ts) (txL ts) mm nn x.root x.pt w e w' → WP b0 A n ts x w e w' := by
    intro e w' ⟨g1, g2⟩
    have ha : acc ts x = resG (versL ts) mm x.root (x.pt.cut mm (dep nn) 0).dS x.pt.dS := by
      unfold acc resG
      rw [if_neg (by omega), if_pos hk, c1, o1, hmm, hnn]
      cases (versL ts).getLast? <;> rfl
    refine ⟨fun hz => by rw [ha] at hz ⊢; exact g1 hz, fun hz => ?_⟩
    rw [ha] at hz
    have hv : versL (ts ++ [x]) = versL ts ++ (if mm < nn then [((nn : Int), x.root)] else []) := by
      rw [versL_snoc]
      congr 1
      by_cases hmn : mm < nn
      · rw [if_pos hmn, if_pos (.inr ⟨hk, by omega⟩), hnn]
      · rw [if_neg hmn, if_neg (by omega)]
    have he : evL (ts ++ [x]) = evL ts := by rw [evL_snoc, if_neg (by omega)]
    rw [hv, he]
    refine (g2 hz).sub fun y => ?_
    rw [txL_snoc]
    unfold txM
    rw [if_neg (by omega), if_pos hk, hmm, hnn]
    simp only [List.mem_append, List.flatten_cons, List.flatten_nil, List.append_nil, o2 y, c2 y]
    constructor
    · rintro (h | h | h)
      · exact .inl h
      · exact .inr (.inr h)
      · exact .inr (.inl h)
    · rintro (h | h | h)
      · exact .inl h
      · exact .inr (.inr h)
      · exact .inr (.inl h)
  rw [hmm, hnn] at hsh
  simp only [Int.toNat_natCast] at hsh
  rw [htree] at hN
  rw [hmm, hnn]
  rcases List.eq_nil_or_concat (versL ts) with hv | ⟨v0, v, hv⟩
  · rw [hv] at h hG
    exact (weighG_nil w b0 A n Vv Ve Vf (evL ts) fs (txL ts) x.kind x.root mm nn x.pt T h).mono hG
  · rw [List.concat_eq_append] at hv
    rw [hv] at h hG
    have hv0 : v0.length ≤ 900 := by rw [hv, List.length_append] at hvl; omega
    by_cases hvm : v.1 = mm
    · by_cases hcd : (x.pt.cut mm (dep nn) 0).dS = v.2
      · exact (weighG_good w b0 A n Vv Ve Vf v0 v (evL ts) fs (txL ts) x.kind x.root mm nn x.pt T h hb0 (by omega) hsh (by omega) (by omega) (by omega) hN hvm hcd).mono hG
      · exact (weighG_bad w b0 A n Vv Ve Vf v0 v (evL ts) fs (txL ts) x.kind x.root mm nn x.pt T h hb0 (by omega) hsh (by omega) (by omega) (by omega) hN hvm hcd).mono hG
    · exact (weighG_other w b0 A n Vv Ve Vf v0 v (evL ts) fs (txL ts) x.kind x.root mm nn x.pt T h hb0 (by omega) hsh (by omega) hN hvm).mono hG

/-- A member. -/
theorem weighM_msg (w : World) (b0 A : Nat) (n : Int) (Vv Ve Vf : Value) (ts : List Msg) (fs : List Fam) (x : Msg) (T : Value) (h : AudB w b0 A n Vv Ve Vf (versL ts) (evL ts) fs (txL ts)) (hb0 : b0 ≤ w.heap.size) (hl : ts.length ≤ 300) (hx : ValidM x) (hk : x.kind = 3) (hN : NodesC w T x.tree) :
    Calls Tryz.prog 97 #[.pointer (some ⟨A, 0, none⟩), .agg #[.int .i64 x.kind, .int .i64 x.m, .int .i64 x.n, .int .i64 x.root, T]] w fun e w' => WP b0 A n ts x w e w' := by
  obtain ⟨hn1, hn2⟩ := hx.n
  obtain ⟨hsh, htree⟩ := hx.pt (by omega)
  rw [hk] at hsh
  have hvl := versL_len ts
  have hel := evL_inv ts
  obtain ⟨nn, hnn⟩ : ∃ nn : Nat, x.n = nn := ⟨x.n.toNat, by omega⟩
  obtain ⟨o1, o2⟩ := proof_own hx (by omega)
  rw [hnn] at o1 o2
  have hG : ∀ e w', MP b0 A n (versL ts) (evL ts) (txL ts) x.m nn x.pt w e w' → WP b0 A n ts x w e w' := by
    intro e w' ⟨g1, g2⟩
    have ha : acc ts x = resM (versL ts) nn x.pt.dS := by
      unfold acc resM
      rw [if_neg (by omega), if_neg (by omega), o1, hnn]
      cases rootOf (versL ts) nn <;> rfl
    refine ⟨fun hz => by rw [ha] at hz ⊢; exact g1 hz, fun hz => ?_⟩
    rw [ha] at hz
    have hv : versL (ts ++ [x]) = versL ts := by rw [versL_snoc, if_neg (by omega), List.append_nil]
    rw [hv, evL_snoc, if_pos hk, htree]
    refine (g2 hz).sub fun y => ?_
    rw [txL_snoc]
    unfold txM
    rw [if_neg (by omega), if_neg (by omega), hnn, List.append_nil]
    simp only [List.mem_append, List.flatten_cons, List.flatten_nil, List.append_nil, o2 y]
  rw [hnn] at hsh
  simp only [Int.toNat_natCast] at hsh
  rw [htree] at hN
  rw [hnn]
  exact (weighM_any w b0 A n Vv Ve Vf (versL ts) (evL ts) fs (txL ts) x.kind x.m x.root nn x.pt T h hb0 (by omega) (by omega) hel.1 hsh (by omega) (by omega) hN).mono hG

/-- A commitment. -/
theorem weighC_msg (w : World) (b0 A : Nat) (n : Int) (Vv Ve Vf : Value) (ts : List Msg) (fs : List Fam) (x : Msg) (T : Value) (h : AudB w b0 A n Vv Ve Vf (versL ts) (evL ts) fs (txL ts)) (hb0 : b0 ≤ w.heap.size) (hl : ts.length ≤ 300) (hk : x.kind = 1) :
    Calls Tryz.prog 95 #[.pointer (some ⟨A, 0, none⟩), .agg #[.int .i64 x.kind, .int .i64 x.m, .int .i64 x.n, .int .i64 x.root, T]] w fun e w' => WP b0 A n ts x w e w' := by
  have hvl := versL_len ts
  refine (weighC_any w b0 A n Vv Ve Vf (versL ts) (evL ts) fs (txL ts) x.kind x.m x.n x.root T h hb0 (by omega)).mono ?_
  rintro e w' ⟨he, Vv', hA, hK⟩
  have ha : acc ts x = if versL ts = [] then 0 else 8 := by unfold acc; rw [if_pos hk]
  by_cases hv : versL ts = []
  · rw [if_pos hv] at ha he hA
    refine ⟨fun hz => absurd ha hz, fun _ => ⟨Vv', Ve, Vf, fs, he, ?_, hK⟩⟩
    rw [versL_snoc, if_pos (.inl hk), hv, List.nil_append, evL_snoc, if_neg (by omega)]
    refine hA.sub fun y => ?_
    rw [txL_snoc]
    unfold txM
    rw [if_pos hk, List.append_nil]
  · rw [if_neg hv] at ha he hA
    exact ⟨fun _ => ⟨_, _, _, _, by rw [ha]; exact he, hA, hK⟩, fun hz => by rw [ha] at hz; cases hz⟩

set_option maxRecDepth 100000 in
set_option maxHeartbeats 1000000 in
theorem weigh_any (w : World) (b0 A : Nat) (n : Int) (Vv Ve Vf : Value) (ts : List Msg) (fs : List Fam) (x : Msg) (T : Value) (h : AudB w b0 A n Vv Ve Vf (versL ts) (evL ts) fs (txL ts)) (hb0 : b0 ≤ w.heap.size) (hl : ts.length ≤ 300) (hx : ValidM x) (hN : NodesC w T x.tree) :
    Calls Tryz.prog 60 #[.pointer (some ⟨A, 0, none⟩), .agg #[.int .i64 x.kind, .int .i64 x.m, .int .i64 x.n, .int .i64 x.root, T]] w fun e w' => WP b0 A n ts x w e w' := by
  have hA : Below w.heap.size w (w.alloc (.cells #[.int .i64 x.kind, .int .i64 x.m, .int .i64 x.n, .int .i64 x.root, T] 63)) := (Below.refl _ _).alloc (Nat.le_refl _) _
  have g0 := heap_new w (.cells #[.int .i64 x.kind, .int .i64 x.m, .int .i64 x.n, .int .i64 x.root, T] 63) _ rfl
  have hW := h.below hA
  have hNW := hN.below hA
  have hbW := Nat.le_trans hb0 hA.size
  have hKW : KeepsA b0 w (w.alloc (.cells #[.int .i64 x.kind, .int .i64 x.m, .int .i64 x.n, .int .i64 x.root, T] 63)) := KeepsA.of_below hA
  generalize hW0 : w.alloc (.cells #[.int .i64 x.kind, .int .i64 x.m, .int .i64 x.n, .int .i64 x.root, T] 63) = W at g0 hW hNW hbW hKW
  have HT : Hid (∀ e w', WP b0 A n ts x W e w' → WP b0 A n ts x w e w' ∧ ∃ r, e = .returned (.int .i64 r)) := fun e w' ⟨p1, p2⟩ => by
    have tr : ∀ {r vs es TL}, WeighP b0 A n r vs es TL W e w' → WeighP b0 A n r vs es TL w e w' := fun ⟨a, b, c, d, q1, q2, q3⟩ => ⟨a, b, c, d, q1, q2, hKW.trans q3⟩
    refine ⟨⟨fun hz => tr (p1 hz), fun hz => tr (p2 hz)⟩, ?_⟩
    by_cases hz : acc ts x = 0
    · obtain ⟨_, _, _, _, q, _⟩ := p2 hz
      exact ⟨_, q⟩
    · obtain ⟨_, _, _, _, q, _⟩ := p1 hz
      exact ⟨_, q⟩
  have HC : Hid (x.kind = 1 → Calls Tryz.prog 95 #[.pointer (some ⟨A, 0, none⟩), .agg #[.int .i64 x.kind, .int .i64 x.m, .int .i64 x.n, .int .i64 x.root, T]] W fun e w' => WP b0 A n ts x W e w') := fun hk => weighC_msg W b0 A n Vv Ve Vf ts fs x T hW hbW hl hk
  have HG : Hid (x.kind = 2 → Calls Tryz.prog 96 #[.pointer (some ⟨A, 0, none⟩), .agg #[.int .i64 x.kind, .int .i64 x.m, .int .i64 x.n, .int .i64 x.root, T]] W fun e w' => WP b0 A n ts x W e w') := fun hk => weighG_msg W b0 A n Vv Ve Vf ts fs x T hW hbW hl hx hk hNW
  have HM : Hid (x.kind = 3 → Calls Tryz.prog 97 #[.pointer (some ⟨A, 0, none⟩), .agg #[.int .i64 x.kind, .int .i64 x.m, .int .i64 x.n, .int .i64 x.root, T]] W fun e w' => WP b0 A n ts x W e w') := fun hk => weighM_msg W b0 A n Vv Ve Vf ts fs x T hW hbW hl hx hk hNW
  obtain ⟨m0, m1, m2, m3, m4⟩ := msg_box g0
  have hkk := hx.k
  clear h hN hA hW hNW hKW g0 hx
  generalize x.kind = kk at *
  rcases hkk with hk | hk | hk
  · have HCC : Hid _ := HC.out hk
    subst hk
    clear HC HG HM
    go_enter Tryz.func60, Tryz.ntmps60
    go_wp2_with fail
    refine Calls.mono HCC.out ?_
    intro e w2 hP
    obtain ⟨hP2, r, rfl⟩ := HT.out e w2 hP
    have HP : Hid _ := hP2
    clear hP hP2 HT HCC
    go_wp2
    go_ret
    exact HP.out
  · have HCC : Hid _ := HG.out hk
    subst hk
    clear HC HG HM
    go_enter Tryz.func60, Tryz.ntmps60
    go_wp2_with fail
    refine Calls.mono HCC.out ?_
    intro e w2 hP
    obtain ⟨hP2, r, rfl⟩ := HT.out e w2 hP
    have HP : Hid _ := hP2
    clear hP hP2 HT HCC
    go_wp2
    go_ret
    exact HP.out
  · have HCC : Hid _ := HM.out hk
    subst hk
    clear HC HG HM
    go_enter Tryz.func60, Tryz.ntmps60
    go_wp2_with fail
    refine Calls.mono HCC.out ?_
    intro e w2 hP
    obtain ⟨hP2, r, rfl⟩ := HT.out e w2 hP
    have HP : Hid _ := hP2
    clear hP hP2 HT HCC
    go_wp2
    go_ret
    exact HP.out
end Go.Proofs.YtlndinigbppafaaGreat
