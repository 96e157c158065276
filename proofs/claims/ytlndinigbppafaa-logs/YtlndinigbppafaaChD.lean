/-
  A child of Proofs, from its birth to its send: the whole.
-/
import Derived.Test.YtlndinigbppafaaChC
namespace Go.Proofs.Ytlndinigbppafaa
open Go.Sim Go.Conc

section
variable {bc bv bi bn c : Nat} {ver : Value} {i n : Int} {Post : Value → World → Prop}

/-- The call of member, in company. -/
structure MemberC (bc bv bi bn c : Nat) (ver : Value) (i n : Int) (Post : Value → World → Prop) : Prop where
  call : ∀ {O : Nat → Prop} {W : World} {k : Frame} {ks : List Frame}, (∀ b, RdB bc bv bi bn b → b < W.heap.size ∧ ¬ O b) → Try.prog.globals.size ≤ W.heap.size →
    (∀ {O' : Nat → Prop} {Fr' : Frame} {V : Value} {W' : World}, (∀ W₁, stepG Try.prog false (G Fr' (k :: ks)) W₁ = .go (G (k.finish V) ks) W₁) → (∀ b, O b → O' b) → RelyC (fun _ => False) (RdB bc bv bi bn) W W' → (∀ b, RdB bc bv bi bn b → ¬ O' b) → PostAt Post O' V W' → Ch Try.prog c (RdB bc bv bi bn) Post (Sent bc) O' (G Fr' (k :: ks)) W') →
    Ch Try.prog c (RdB bc bv bi bn) Post (Sent bc) O (G (Frame.enter Try.prog 45 #[ver, .int .i64 i, .int .i64 n] .normal) (k :: ks)) W

theorem PostAt.rely {O : Nat → Prop} {V : Value} {W W₁ : World} (h : PostAt Post O V W) (hr : RelyC O (RdB bc bv bi bn) W W₁) : PostAt Post O V W₁ :=
  fun W' h' => h W' fun b hb => (h' b hb).trans (hr.keep b (.inl hb))

theorem lin_all {l : Array Bool} (h : ∀ j, j < 6 → l.getD j true = true) (fuel t : Nat) : lin fuel t l = [] := by
  have hr : Region.ready .any ops80 l = [] := by
    apply List.eq_nil_iff_forall_not_mem.2
    intro j hj
    obtain ⟨hj1, o, ho, _⟩ := mem_ready.1 hj
    have := h j (Array.getElem?_eq_some_iff.1 ho).1
    rw [this] at hj1
    cases hj1
  cases fuel with
  | zero => rfl
  | succ fuel => rw [lin_succ, hr]; rfl

theorem ch_region (hM : MemberC bc bv bi bn c ver i n Post) : ∀ (fuel t : Nat) (listed : Array Bool) (tm : Array Value) {O : Nat → Prop} {W : World}, TmpsOK bc bv bi bn c ver i n listed tm → nf listed ≤ fuel → (listed.getD 4 true = true → listed.getD 1 true = true ∧ listed.getD 2 true = true ∧ listed.getD 3 true = true) →
    (listed.getD 4 true = true → PostAt Post O (tm.getD 8 undef) W) → Boxes bc bv bi bn c ver i n W → (∀ b, (RdB bc bv bi bn) b → b < W.heap.size ∧ ¬ O b) → Try.prog.globals.size ≤ W.heap.size → Ch Try.prog c (RdB bc bv bi bn) Post (Sent bc) O (G (fr80 tm (lin fuel t listed)) [bot Try.prog]) W
  | 0, t, listed, tm, O, W, h, hf, _, _, _, _, _ => by
    have := h.no5
    unfold nf at hf
    rw [this] at hf
    simp at hf
  | fuel + 1, t, listed, tm, O, W, h, hf, h4l, h8, hB, hO, hg => by
    have hs := h.lsize
    have hne := ready_some hs h.no5
    have hlen : 0 < (Region.ready .any ops80 listed).length := List.length_pos_iff.2 hne
    have hlt : t % (Region.ready .any ops80 listed).length < (Region.ready .any ops80 listed).length := Nat.mod_lt _ hlen
    rw [lin_succ, List.getElem?_eq_getElem hlt]
    have hmem : (Region.ready .any ops80 listed)[t % (Region.ready .any ops80 listed).length] ∈ Region.ready .any ops80 listed := List.getElem_mem hlt
    generalize (Region.ready .any ops80 listed)[t % (Region.ready .any ops80 listed).length] = j at hmem ⊢
    generalize t / (Region.ready .any ops80 listed).length = t'
    dsimp only
    obtain ⟨hj, o, ho, _⟩ := mem_ready.1 hmem
    have hj6 : j < 6 := (Array.getElem?_eq_some_iff.1 ho).1
    have hnf := nf_set hs hj6 hj
    -- a load of a box
    have L : ∀ (b e d ty : Nat) (v : Value) (o : Oper), ops80[j]? = some o → o.op = .load ty (.tmp j) → o.guard = none → o.dst = some d → tm.getD j undef = .pointer (some ⟨b, 0, none⟩) → (RdB bc bv bi bn) b →
        (∀ W, (isAgg ty).run Try.prog W = .ok false W) → (∀ W, Boxes bc bv bi bn c ver i n W → W.heap[b]? = some (.cells #[v] e)) → TmpsOK bc bv bi bn c ver i n (listed.setIfInBounds j true) (tm.setIfInBounds d v) → j < 4 → d < 8 →
        Ch Try.prog c (RdB bc bv bi bn) Post (Sent bc) O (G (fr80 tm (j :: lin fuel t' (listed.setIfInBounds j true))) [bot Try.prog]) W := by
      intro b e d ty v o ho hop hgd hd hp hrd ha hcell hT hj4 hd8
      refine Ch.one rfl fun W₁ hr => ?_
      have hB1 := hB.rely hr
      obtain ⟨es, e1, hes⟩ := step_load (rest := lin fuel t' (listed.setIfInBounds j true)) ho hop hgd hd hp (ha W₁) (hcell W₁ hB1)
      refine ⟨_, W₁, es, e1, guar_read hrd hes, ?_⟩
      rw [grow_same rfl]
      have up : ∀ x, listed.getD x true = true → (listed.setIfInBounds j true).getD x true = true := fun x hx => by
        rw [getL_set (by omega)]; split
        · rfl
        · exact hx
      refine ch_region hM fuel t' _ _ hT (by omega) (fun h4 => ?_) (fun h4 => ?_) hB1 (fun b hb => ⟨Nat.lt_of_lt_of_le (hO b hb).1 hr.size, (hO b hb).2⟩) (Nat.le_trans hg hr.size)
      · rw [getL_set (by omega), if_neg (by omega)] at h4
        obtain ⟨a, b, c⟩ := h4l h4
        exact ⟨up _ a, up _ b, up _ c⟩
      rw [getL_set (by omega), if_neg (by omega)] at h4
      rw [getD_set (by have := h.size; omega), if_neg (by omega)]
      exact (h8 h4).rely hr
    have : j = 0 ∨ j = 1 ∨ j = 2 ∨ j = 3 ∨ j = 4 ∨ j = 5 := by omega
    rcases this with rfl | rfl | rfl | rfl | rfl | rfl
    · exact L bc _ 4 _ _ _ rfl rfl rfl rfl h.t0 (.inl rfl) (fun W => by simp) (fun W hB => hB.hc) h.load0 (by omega) (by omega)
    · exact L bv _ 5 _ _ _ rfl rfl rfl rfl h.t1 (.inr (.inl rfl)) (fun W => by simp) (fun W hB => hB.hv) h.load1 (by omega) (by omega)
    · exact L bi _ 6 _ _ _ rfl rfl rfl rfl h.t2 (.inr (.inr (.inl rfl))) (fun W => by simp) (fun W hB => hB.hi) h.load2 (by omega) (by omega)
    · exact L bn _ 7 _ _ _ rfl rfl rfl rfl h.t3 (.inr (.inr (.inr rfl))) (fun W => by simp) (fun W hB => hB.hn) h.load3 (by omega) (by omega)
    · obtain ⟨r1, r2, r3⟩ := ready4 hmem
      refine Ch.one rfl fun W₁ hr => ?_
      refine ⟨_, W₁, #[], step_call h r1 r2 r3, guar_none rfl rfl rfl rfl, ?_⟩
      rw [grow_same rfl]
      have hB1 := hB.rely hr
      refine hM.call (fun b hb => ⟨Nat.lt_of_lt_of_le (hO b hb).1 hr.size, (hO b hb).2⟩) (Nat.le_trans hg hr.size) ?_
      intro O' Fr' V W' hst hOO hRW hRO hP
      refine Ch.one rfl fun W₂ hr2 => ?_
      refine ⟨_, W₂, #[], hst W₂, guar_none rfl rfl rfl rfl, ?_⟩
      rw [grow_same rfl, fin4]
      have hB' : Boxes bc bv bi bn c ver i n W' := hB1.rely (O := fun _ => False) ⟨hRW.size, hRW.keep⟩
      have up : ∀ x, listed.getD x true = true → (listed.setIfInBounds 4 true).getD x true = true := fun x hx => by
        rw [getL_set (by omega)]; split
        · rfl
        · exact hx
      refine ch_region hM fuel t' _ _ (h.call4 V) (by omega) (fun _ => ⟨up _ r1, up _ r2, up _ r3⟩) (fun _ => ?_) (hB'.rely hr2) (fun b hb => ⟨?_, hRO b hb⟩) (Nat.le_trans hg (Nat.le_trans hr.size (Nat.le_trans hRW.size hr2.size)))
      · rw [getD_set (by have := h.size; omega), if_pos rfl]
        exact hP.rely hr2
      · exact Nat.lt_of_lt_of_le (hO b hb).1 (Nat.le_trans hr.size (Nat.le_trans hRW.size hr2.size))
    · obtain ⟨r0, r4⟩ := ready5 hmem
      refine .send rfl fun W₁ hr => ?_
      refine ⟨_, _, _, step_sendAt h r0, ?_, ?_⟩
      · exact (h8 r4).rely hr
      · rw [served5]
        obtain ⟨a1, a2, a3⟩ := h4l r4
        refine ⟨tm, h.size, h.t0, ?_⟩
        rw [lin_all (fun x hx => ?_)]
        rw [getL_set (by omega)]
        have : x = 0 ∨ x = 1 ∨ x = 2 ∨ x = 3 ∨ x = 4 ∨ x = 5 := by omega
        rcases this with rfl | rfl | rfl | rfl | rfl | rfl <;> simp [r0, a1, a2, a3, r4]
end
end Go.Proofs.Ytlndinigbppafaa
