/-
  The caller's own steps in the machine.
-/
import Derived.Test.YtlndinigbppafaaMcI
namespace Go.Proofs.Ytlndinigbppafaa
open Go.Sim Go.Conc

section
variable {B0 : Nat} {W0 : World} {Post : Nat → Value → World → Prop} {s : St} {PB : Nat → Prop} {kids : List Kid} {gs : Array Goroutine} {w w' : World} {t u : Trace} {k cur : Nat} {x x' : Kid} {a g g' : Goroutine} {z : Value} {sl : Option (Nat × Nat)}

theorem Like.step (h : Like a g) (w : World) : stepG Try.prog true a w = stepG Try.prog true g w := stepG_same h.frame h.callers h.dying w

theorem Inv.rd_kid (h : Inv B0 W0 Post s PB kids gs w t) {b : Nat} (hb : s.rd b) : ∃ (l : Nat) (y : Kid), kids[l]? = some y ∧ b = y.bc := by
  obtain ⟨p, hp, rfl⟩ := hb
  rw [h.link] at hp
  obtain ⟨y, hy, rfl⟩ := List.mem_map.1 hp
  obtain ⟨l, hl⟩ := List.getElem?_of_mem hy
  exact ⟨l, y, hl, rfl⟩

/-- AN OWN STEP OF THE CALLER's. -/
theorem Inv.go0 (h : Inv B0 W0 Post s PB kids gs w t) (ha : gs[0]? = some a) (hl : Like a g) {es : Array Event} (hst : stepG Try.prog true g w = .go g' w' es) (hG : GuarC PB s.rd w w' es) (hN : NoObj es) :
    ∃ gs' u, runT Try.prog (crowd gs w sl) 0 = (.next (crowd gs' w' sl), u) ∧ Inv B0 W0 Post s (grow PB w w') kids gs' w' (t ++ u) ∧ gs'[0]? = some g' := by
  have hi : 0 < gs.size := (Array.getElem?_eq_some_iff.1 ha).1
  obtain ⟨e1, e2, e3, _⟩ := h.gs_go (i := 0) (g := a) (g' := g') (w2 := w') hi
  have lt : ∀ {l : Nat} {y : Kid} {b : Nat}, kids[l]? = some y → y.all b → b < w.heap.size := fun hl hb => ((h.kid _ _ hl).2.lo _ hb).2
  have hev : ∀ op ∈ MemOp.ofEvents 0 a.frame.fn a.frame.place es, ∀ c, op.act.touch? = some c → ∃ b, blockOf c.loc = some b ∧ c.kind = .plain ∧ (grow PB w w' b ∨ (s.rd b ∧ c.write = false)) := by
    intro op ho c hc
    obtain ⟨e, he, rfl⟩ := Go.Conc.mem_ofEvents ho
    exact touch_evC (hG.ev e he) hc
  have hno : ∀ b, grow PB w w' b → ∀ (l : Nat) (y : Kid), kids[l]? = some y → ¬ y.all b := by
    intro b hb l y hy hyb
    rcases hb with hb | hb
    · exact (h.pb b hb).2.2 l y hy hyb
    · have := lt hy hyb
      omega
  refine ⟨_, _, runT_crowd_go ha (by rw [show ((0 : Nat) == 0) = true from rfl, hl.step]; exact hst), ?_, e2⟩
  refine ⟨by rw [e1]; exact h.size, fun l y hy => ⟨by rw [e3 l (by omega)]; exact (h.kid l y hy).1, (h.kid l y hy).2.frame hG.size (fun b hb => hG.keep b (lt hy hb) fun q => (h.pb b q).2.2 l y hy hb) fun op ho => .inl (by rw [g_ofEvents op ho]; omega)⟩, h.link, h.cur, h.got, h.vs, h.apart, fun b hb => ?_, ?_, fun i c b hc hb => ?_, fun i c b hc hb hp => ?_, fun b hb => ?_, Nat.le_trans h.b0 hG.size, h.glob, hG.tape.trans h.tape, hG.os.trans h.os, hG.output.trans h.output⟩
  · refine ⟨?_, ?_, hno b hb⟩
    · rcases hb with hb | hb
      · exact (h.pb b hb).1
      · exact Nat.le_trans h.b0 hb.1
    · rcases hb with hb | hb
      · exact Nat.lt_of_lt_of_le (h.pb b hb).2.1 hG.size
      · exact hb.2
  · refine h.tr.own0 g_ofEvents (wordless_evC hG.ev _ _ _) fun op ho c hc _ => ?_
    obtain ⟨b, b1, b2, b3⟩ := hev op ho c hc
    refine ⟨b, b1, b2, fun γ kt hk => ?_⟩
    obtain ⟨l, y, rfl, hl', hy, rfl⟩ := kidMap_some hk
    rcases b3 with b3 | ⟨b3, b4⟩
    · have := hno b b3 l y hy
      exact ⟨fun q => this (.inl q), fun q => absurd (.inr (.inl q)) this, fun q => this (.inr (.inr q))⟩
    · obtain ⟨m, y', hy', rfl⟩ := h.rd_kid b3
      by_cases e : m = l
      · subst e
        rw [hy] at hy'; cases hy'
        have hX := (h.kid m y hy).2
        exact ⟨fun q => (hX.self _ q).1 (.inl rfl), fun _ => b4, fun q => hX.selfc (.inl q.symm)⟩
      · have := h.apart m l y' y _ hy' hy e (.inr (.inl (.inl rfl)))
        exact ⟨fun q => this (.inl q), fun _ => b4, fun q => this (.inr (.inr q))⟩
  · rcases touchAt_cases hc with ⟨_, hc'⟩ | ⟨_, op, ho, _, hta⟩
    · exact Nat.lt_of_lt_of_le (h.low i c b hc' hb) hG.size
    · obtain ⟨b', b1, _, b3⟩ := hev op ho c hta
      rw [hb] at b1; cases b1
      rcases b3 with (b3 | b3) | ⟨b3, _⟩
      · exact Nat.lt_of_lt_of_le (h.pb b b3).2.1 hG.size
      · exact b3.2
      · obtain ⟨m, y', hy', rfl⟩ := h.rd_kid b3
        exact Nat.lt_of_lt_of_le (lt hy' (.inr (.inl (.inl rfl)))) hG.size
  · rcases touchAt_cases hc with ⟨_, hc'⟩ | ⟨_, op, ho, _, hta⟩
    · rcases hp with hp | hp
      · exact h.pbobj i c b hc' hb hp
      · have := h.low i c b hc' (by rw [hb]; rfl)
        omega
    · obtain ⟨e, he, rfl⟩ := Go.Conc.mem_ofEvents ho
      have hne := hN e he b
      have hev' := hG.ev e he
      obtain ⟨loc, wr, sy⟩ := e
      rcases hev' with q | ⟨q0, b2, q | q, _⟩
      · simp only at q
        subst q
        simp [MemAct.ofEvent, MemAct.touch?] at hta
      · obtain ⟨A, q, _⟩ := q
        simp only at q q0
        subst q; subst q0
        simp [MemAct.ofEvent, MemAct.touch?] at hta
        subst hta
        cases hb
      · exact hN _ he b2 q
  · rw [hG.keep b (Nat.lt_of_lt_of_le hb h.b0) fun q => ?_, h.base b hb]
    have := (h.pb b q).1
    omega

/-- THE CALLER's go STATEMENT. -/
theorem Inv.spawn0 (h : Inv B0 W0 Post s PB kids gs w t) (ha : gs[0]? = some a) (hl : Like a g) {bc bv bi bn c N : Nat} {ver : Value} {tm : Bool} (hst : stepG Try.prog true g w = .spawn g' (born Try.prog (childD bc bv bi bn)) w #[])
    (hgive : ∀ b, Give bc bv bi bn c b → PB b) (hsc : ¬ RdB bc bv bi bn c) (hB : Boxes bc bv bi bn c ver s.cs.length N w) (hch : w.heap[c]? = some (.chan 1 #[] false 0 0 tm)) (hM : MemberC bc bv bi bn c ver s.cs.length N (Post s.cs.length)) :
    ∃ gs' u x, runT Try.prog (crowd gs w sl) 0 = (.next (crowd gs' w sl), u) ∧ Inv B0 W0 Post (s.more c bc) (fun b => PB b ∧ ¬ Give bc bv bi bn c b) (kids ++ [x]) gs' w (t ++ u) ∧ gs'[0]? = some g' := by
  have hi : 0 < gs.size := (Array.getElem?_eq_some_iff.1 ha).1
  have hlen : s.cs.length = kids.length := by rw [h.link]; simp
  rw [hlen] at hM hB
  let x : Kid := ⟨c, bc, bv, bi, bn, fun _ => False, born Try.prog (childD bc bv bi bn), w, .work⟩
  have hgl : Try.prog.globals.size ≤ w.heap.size := Nat.le_trans h.glob h.b0
  have hrd : ∀ b, RdB bc bv bi bn b → b < w.heap.size ∧ ¬ False := fun b hb => ⟨(h.pb b (hgive b (.inl hb))).2.1, id⟩
  have hC : Ch Try.prog x.c x.rd (Post kids.length) (Sent x.bc) x.O x.g x.W := ch_born hM hB hrd hgl
  have xall : ∀ b, x.all b → Give bc bv bi bn c b := fun b hb => hb.elim False.elim id
  have hrun := runT_crowd_spawn (P := Try.prog) (sl := sl) ha (by rw [show ((0 : Nat) == 0) = true from rfl, hl.step]; exact hst)
  have get : ∀ {l : Nat} {y : Kid}, (kids ++ [x])[l]? = some y → (l < kids.length ∧ kids[l]? = some y) ∨ (l = kids.length ∧ y = x) := by
    intro l y hy
    rw [List.getElem?_append] at hy
    split at hy
    · rename_i q; exact .inl ⟨q, hy⟩
    · rename_i q
      right
      cases e : l - kids.length with
      | zero => rw [e] at hy; simp at hy; exact ⟨by omega, hy.symm⟩
      | succ n => rw [e] at hy; simp at hy
  have hmap : kidMap s.cur (kids ++ [x]) = fun d => if d = kids.length + 1 then some ⟨fun _ => False, RdB bc bv bi bn, c⟩ else kidMap s.cur kids d := by
    have := h.cur
    funext d
    unfold kidMap
    by_cases hd : d = kids.length + 1
    · subst hd
      rw [if_neg (by omega), if_pos rfl]
      simp
      rfl
    · rw [if_neg hd]
      by_cases h0 : d ≤ s.cur
      · rw [if_pos h0, if_pos h0]
      · rw [if_neg h0, if_neg h0, List.getElem?_append]
        split
        · rfl
        · rename_i q
          rw [List.getElem?_eq_none (l := kids) (by omega), List.getElem?_eq_none (by simp; omega)]
  have hnone : kidMap s.cur kids (kids.length + 1) = none := by
    unfold kidMap
    split
    · rfl
    · simp
  have hT := h.tr.born (γ := kids.length + 1) (Rd := RdB bc bv bi bn) (c := c) (o1 := { g := 0, fn := a.frame.fn, pos := a.frame.place, act := .go gs.size }) (o2 := { g := gs.size, fn := (born Try.prog (childD bc bv bi bn)).frame.fn, pos := a.frame.place, act := .start })
    ⟨rfl, by rw [h.size]⟩ ⟨h.size, rfl⟩ hnone (by omega) (fun b d y hb hd => by
      obtain ⟨l, y', rfl, _, hy, rfl⟩ := kidMap_some hd
      have := (h.pb b (hgive b (.inl hb))).2.2 l y' hy
      exact ⟨fun q => this (.inl q), fun q => this (.inr (.inr q))⟩) fun i b hb e => h.pbobj i b c hb e (hgive c (.inr rfl))
  have hu : ∀ op ∈ (#[{ g := 0, fn := a.frame.fn, pos := a.frame.place, act := .go gs.size }, { g := gs.size, fn := (born Try.prog (childD bc bv bi bn)).frame.fn, pos := a.frame.place, act := .start }] : Array MemOp), op.act.touch? = none := by
    intro op ho
    simp at ho
    rcases ho with rfl | rfl <;> rfl
  have hnew : ¬ s.has kids.length := by
    rintro (q | ⟨q, r⟩)
    · have := h.cur; omega
    · have := h.got r; omega
  refine ⟨_, #[{ g := 0, fn := a.frame.fn, pos := a.frame.place, act := .go gs.size }, { g := gs.size, fn := (born Try.prog (childD bc bv bi bn)).frame.fn, pos := a.frame.place, act := .start }], x, by rw [hrun]; rfl, ?_, ?_⟩
  · refine ⟨by simp [h.size], fun l y hy => ?_, by simp [St.more, h.link, x], by simp; exact Nat.le_succ_of_le h.cur, fun q => by simp; exact Nat.lt_succ_of_lt (h.got q), h.vs, fun l m y y' b hl' hm hne hb hb' => ?_, fun b hb => ⟨(h.pb b hb.1).1, (h.pb b hb.1).2.1, fun l y hy hyb => ?_⟩, ?_, fun i c' b hc hb => ?_, fun i c' b hc hb hp => ?_, h.base, h.b0, h.glob, h.tape, h.os, h.output⟩
    · rcases get hy with ⟨q, hy'⟩ | ⟨rfl, rfl⟩
      · refine ⟨?_, ?_⟩
        · rw [Array.getElem?_push, if_neg (by simp [h.size]; omega), Array.getElem?_setIfInBounds_ne (by omega)]
          exact (h.kid l y hy').1
        · have hY := (h.kid l y hy').2.frame (w' := w) (Nat.le_refl _) (fun _ _ => rfl) (u := #[{ g := 0, fn := a.frame.fn, pos := a.frame.place, act := .go gs.size }, { g := gs.size, fn := (born Try.prog (childD bc bv bi bn)).frame.fn, pos := a.frame.place, act := .start }]) fun op ho => .inr (hu op ho)
          exact ⟨hY.lo, hY.self, hY.selfc, hY.box, hY.st⟩
      · refine ⟨?_, ?_, (fun b q => q.elim), hsc, hB.hc, ?_⟩
        · rw [Array.getElem?_push, if_pos (by simp [h.size])]
        · intro b hb
          have := h.pb b (hgive b (xall b hb))
          exact ⟨this.1, this.2.1⟩
        · exact ⟨hnew, hC, RelyC.refl _ _ _, tm, hch⟩
    · rcases get hl' with ⟨_, q1⟩ | ⟨q1, rfl⟩ <;> rcases get hm with ⟨_, q2⟩ | ⟨q2, rfl⟩
      · exact h.apart l m y y' b q1 q2 hne hb hb'
      · exact (h.pb b (hgive b (xall b hb'))).2.2 l y q1 hb
      · exact (h.pb b (hgive b (xall b hb))).2.2 m y' q2 hb'
      · exact hne (q1.trans q2.symm)
    · rcases get hy with ⟨_, q1⟩ | ⟨_, rfl⟩
      · exact (h.pb b hb.1).2.2 l y q1 hyb
      · exact hb.2 (xall b hyb)
    · show TrI _ (kidMap s.cur (kids ++ [x]))
      rw [hmap]
      have e : t ++ #[({ g := 0, fn := a.frame.fn, pos := a.frame.place, act := .go gs.size } : MemOp)] ++ #[{ g := gs.size, fn := (born Try.prog (childD bc bv bi bn)).frame.fn, pos := a.frame.place, act := .start }] = t ++ #[{ g := 0, fn := a.frame.fn, pos := a.frame.place, act := .go gs.size }, { g := gs.size, fn := (born Try.prog (childD bc bv bi bn)).frame.fn, pos := a.frame.place, act := .start }] := by rw [Array.append_assoc]; rfl
      rw [e] at hT
      exact hT
    · rcases touchAt_cases hc with ⟨_, hc'⟩ | ⟨_, op, ho, _, hta⟩
      · exact h.low i c' b hc' hb
      · rw [hu op ho] at hta; cases hta
    · rcases touchAt_cases hc with ⟨_, hc'⟩ | ⟨_, op, ho, _, hta⟩
      · exact h.pbobj i c' b hc' hb hp.1
      · rw [hu op ho] at hta; cases hta
  · rw [Array.getElem?_push, if_neg (by simp; omega), set_self hi]

/-- THE CALLER WAITS. -/
theorem Inv.wait0 (h : Inv B0 W0 Post s PB kids gs w t) (ha : gs[0]? = some a) (hl : Like a g) {c bc n m : Nat} {tm : Bool} (hc : s.cs[s.cur]? = some (c, bc)) (hst : stepG Try.prog true g w = .comm g #[rcase c z] true (.recv true) w #[])
    (hch : w.heap[c]? = some (.chan 1 #[] false n m tm)) :
    ∃ gs', runT Try.prog (crowd gs w sl) 0 = (.next (crowd gs' w sl), #[]) ∧ Inv B0 W0 Post s PB kids gs' w t ∧ gs'[0]? = some (parked g #[rcase c z] (.recv true)) ∧ CA s w g z (parked g #[rcase c z] (.recv true)) := by
  have hi : 0 < gs.size := (Array.getElem?_eq_some_iff.1 ha).1
  have hrun := crowd_waits (P := Try.prog) (sl := sl) ha (by rw [show ((0 : Nat) == 0) = true from rfl, hl.step]; exact hst) fun cc hcc => by
    simp at hcc
    subst hcc
    exact ways_recv_none hch (h.no_send (g := g) (z := z) ha (.run hl) 0 c)
  refine ⟨_, hrun, ⟨by simp [h.size], fun l y hy => ⟨by rw [set_other (by omega)]; exact (h.kid l y hy).1, (h.kid l y hy).2⟩, h.link, h.cur, h.got, h.vs, h.apart, h.pb, h.tr, h.low, h.pbobj, h.base, h.b0, h.glob, h.tape, h.os, h.output⟩, set_self hi, .wait c bc n m tm hc hch⟩

/-- THE CALLER AT ITS RECEIVE. -/
theorem Inv.recv0 (h : Inv B0 W0 Post s PB kids gs w t) (ha : gs[0]? = some a) (hl : Like a g) {c bc : Nat} (hc : s.cs[s.cur]? = some (c, bc)) (hgot : s.got = false) (hst : stepG Try.prog true g w = .comm g #[rcase c z] true (.recv true) w #[]) :
    (∃ gs' w' u V, (∃ W, Post s.cur V W) ∧ runT Try.prog (crowd gs w sl) 0 = (.next (crowd gs' w' sl), u) ∧ Inv B0 W0 Post (s.take V) PB kids gs' w' (t ++ u) ∧ RelyC PB s.rd w w' ∧ gs'[0]? = some (Go.Conc.served g (recvd true V true))) ∨
    ∃ gs', runT Try.prog (crowd gs w sl) 0 = (.next (crowd gs' w sl), #[]) ∧ Inv B0 W0 Post s PB kids gs' w t ∧ gs'[0]? = some (parked g #[rcase c z] (.recv true)) ∧ CA s w g z (parked g #[rcase c z] (.recv true)) := by
  have hi : 0 < gs.size := (Array.getElem?_eq_some_iff.1 ha).1
  obtain ⟨x, hk, rfl, rfl⟩ := h.cur_kid hc
  have hnh : ¬ s.has s.cur := fun q => q.elim (fun q => Nat.lt_irrefl _ q) fun q => by rw [hgot] at q; cases q.2
  have buf : ∀ {V : Value} {cl tm : Bool}, (∃ W, Post s.cur V W) → w.heap[x.c]? = some (.chan 1 #[V] cl 1 0 tm) → ∃ gs' w' u V, (∃ W, Post s.cur V W) ∧ runT Try.prog (crowd gs w sl) 0 = (.next (crowd gs' w' sl), u) ∧ Inv B0 W0 Post (s.take V) PB kids gs' w' (t ++ u) ∧ RelyC PB s.rd w w' ∧ gs'[0]? = some (Go.Conc.served g (recvd true V true)) := by
    intro V cl tm hPV hch
    have hrun := crowd_recv_buf (P := Try.prog) (sl := sl) ha (by rw [show ((0 : Nat) == 0) = true from rfl, hl.step]; exact hst) hch (by simp) (h.no_send (g := g) (z := z) ha (.run hl) 0 x.c)
    rw [finishComm_recv] at hrun
    obtain ⟨_, _, hI⟩ := h.took (gs' := gs.setIfInBounds 0 (Go.Conc.served g (recvd true V true))) (u := #[{ g := 0, fn := g.frame.fn, pos := g.frame.place, act := .recv x.c 0 1 }, { g := 0, fn := g.frame.fn, pos := g.frame.place, act := .recvDone x.c 0 }]) hgot hk hch (fun op ho => by
      simp at ho
      rcases ho with rfl | rfl <;> exact ⟨rfl, fun m e => (by cases e)⟩) (by simp) fun j => set_other (by omega)
    refine ⟨gs.setIfInBounds 0 (Go.Conc.served g (recvd true V true)), _, _, V, hPV, hrun.trans ?_, hI, h.rely_kid hk (Nat.le_of_eq chan_size.symm) fun b _ _ hb => keep_chan b hb, set_self hi⟩
    rfl
  have hS := (h.kid _ x hk).2.st
  unfold KidS at hS
  cases hx : x.st with
  | work =>
    rw [hx] at hS
    obtain ⟨_, _, _, tm, h4⟩ := hS
    exact .inr (h.wait0 ha hl hc hst h4)
  | aft j =>
    rw [hx] at hS
    obtain ⟨_, _, V, tm, h3, h4⟩ := hS
    exact .inl (buf ⟨w, h3 w fun _ _ => rfl⟩ (h4.2 hnh))
  | leave q =>
    rw [hx] at hS
    obtain ⟨_, ⟨V, tm, h3, h4⟩, _⟩ := hS
    exact .inl (buf ⟨w, h3 w fun _ _ => rfl⟩ (h4.2 hnh))

/-- THE CALLER AT ITS SECOND RECEIVE. -/
theorem Inv.shut0 (h : Inv B0 W0 Post s PB kids gs w t) (ha : gs[0]? = some a) (hl : Like a g) {c bc : Nat} (hc : s.cs[s.cur]? = some (c, bc)) (hgot : s.got = true) (hst : stepG Try.prog true g w = .comm g #[rcase c z] true (.recv true) w #[]) :
    (∃ gs' u, runT Try.prog (crowd gs w sl) 0 = (.next (crowd gs' w sl), u) ∧ Inv B0 W0 Post s.next PB kids gs' w (t ++ u) ∧ gs'[0]? = some (Go.Conc.served g (recvd true z false))) ∨
    ∃ gs', runT Try.prog (crowd gs w sl) 0 = (.next (crowd gs' w sl), #[]) ∧ Inv B0 W0 Post s PB kids gs' w t ∧ gs'[0]? = some (parked g #[rcase c z] (.recv true)) ∧ CA s w g z (parked g #[rcase c z] (.recv true)) := by
  have hi : 0 < gs.size := (Array.getElem?_eq_some_iff.1 ha).1
  obtain ⟨x, hk, rfl, rfl⟩ := h.cur_kid hc
  have hh : s.has s.cur := .inr ⟨rfl, hgot⟩
  have hS := (h.kid _ x hk).2.st
  unfold KidS at hS
  cases hx : x.st with
  | work =>
    rw [hx] at hS
    exact absurd hh hS.1
  | aft j =>
    rw [hx] at hS
    obtain ⟨_, _, V, tm, _, h4⟩ := hS
    exact .inr (h.wait0 ha hl hc hst (h4.1 hh).1)
  | leave q =>
    rw [hx] at hS
    obtain ⟨_, ⟨V, tm, _, h4⟩, _⟩ := hS
    have hch := (h4.1 hh).1
    have hrun := crowd_recv_closed (P := Try.prog) (sl := sl) ha (by rw [show ((0 : Nat) == 0) = true from rfl, hl.step]; exact hst) hch (h.no_send (g := g) (z := z) ha (.run hl) 0 x.c)
    rw [finishComm_recv] at hrun
    refine .inl ⟨gs.setIfInBounds 0 (Go.Conc.served g (recvd true z false)), #[{ g := 0, fn := g.frame.fn, pos := g.frame.place, act := .recvClosed x.c }], hrun.trans rfl, h.shut hgot hk hch ⟨rfl, rfl⟩ (by simp) (fun j => set_other (by omega)), set_self hi⟩

/-- Who waits, waits for a child that runs. -/
theorem Inv.wait_runs (h : Inv B0 W0 Post s PB kids gs w t) {c bc n m : Nat} {tm : Bool} (hc : s.cs[s.cur]? = some (c, bc)) (hch : w.heap[c]? = some (.chan 1 #[] false n m tm)) : ∃ (i : Nat) (b : Goroutine), gs[i]? = some b ∧ b.status = .running := by
  obtain ⟨x, hk, rfl, rfl⟩ := h.cur_kid hc
  refine ⟨s.cur + 1, x.g, (h.kid _ x hk).1, ?_⟩
  have hS := (h.kid _ x hk).2.st
  unfold KidS at hS
  cases hx : x.st with
  | work => rw [hx] at hS; exact hS.2.1.running
  | aft j => rw [hx] at hS; exact hS.1.running
  | leave q =>
    rw [hx] at hS
    obtain ⟨_, ⟨V, tm', _, h4⟩, _⟩ := hS
    exfalso
    by_cases hh : s.has s.cur
    · have := (h4.1 hh).1
      rw [hch] at this; cases this
    · have := h4.2 hh
      rw [hch] at this; cases this
end
end Go.Proofs.Ytlndinigbppafaa
