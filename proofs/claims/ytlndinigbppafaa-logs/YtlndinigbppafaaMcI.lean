/-
  Whatever a child's next step is, in the machine.
-/
import Derived.Test.YtlndinigbppafaaMcH
namespace Go.Proofs.Ytlndinigbppafaa
open Go.Sim Go.Conc

section
variable {B0 : Nat} {W0 : World} {Post : Nat → Value → World → Prop} {s : St} {PB : Nat → Prop} {kids : List Kid} {gs : Array Goroutine} {w w' : World} {t u : Trace} {k cur : Nat} {x x' : Kid} {a g : Goroutine} {z : Value} {sl : Option (Nat × Nat)}

theorem offers_rf {b : Goroutine} (h : b.status = .running ∨ b.status = .finished) (r : Nat) (send : Bool) : offersAt b r send = [] := offersAt_of_not_blocked (by rcases h with h | h <;> rw [h] <;> simp) r send

/-- Who offers at channel c but the caller. -/
theorem Inv.offers (h : Inv B0 W0 Post s PB kids gs w t) {j : Nat} {b : Goroutine} (hb : gs[j + 1]? = some b) (r : Nat) (send : Bool) : offersAt b r send = [] := by
  have hj : j < kids.length := by
    have := (Array.getElem?_eq_some_iff.1 hb).1
    rw [h.size] at this
    omega
  have := h.kid j _ (List.getElem?_eq_getElem hj)
  rw [this.1] at hb
  cases hb
  exact offers_rf this.2.status r send

/-- Nobody offers a send. -/
theorem Inv.no_send (h : Inv B0 W0 Post s PB kids gs w t) (ha : gs[0]? = some a) (hca : CA s w g z a) (i c : Nat) : partners (gs.setIfInBounds i ph) c true = [] := by
  refine partners_nil fun j b hb => ?_
  rcases getElem?_stand gs i j b hb with ⟨_, rfl⟩ | ⟨_, hb⟩
  · exact offersAt_ph _ _
  · cases j with
    | zero =>
      rw [ha] at hb; cases hb
      cases hca with
      | run h => exact offers_rf (.inl h.run) _ _
      | wait => exact offersAt_parked_recv' ..
    | succ j => exact h.offers hb _ _

/-- Nobody offers a receive at channel c unless the caller is parked there. -/
theorem Inv.no_recv (h : Inv B0 W0 Post s PB kids gs w t) (ha : gs[0]? = some a) (i c : Nat) (hno : offersAt a c false = []) : partners (gs.setIfInBounds i ph) c false = [] := by
  refine partners_nil fun j b hb => ?_
  rcases getElem?_stand gs i j b hb with ⟨_, rfl⟩ | ⟨_, hb⟩
  · exact offersAt_ph _ _
  · cases j with
    | zero => rw [ha] at hb; cases hb; exact hno
    | succ j => exact h.offers hb _ _

theorem set_other {i j : Nat} {b : Goroutine} (h : j ≠ i) : (gs.setIfInBounds i b)[j]? = gs[j]? := Array.getElem?_setIfInBounds_ne (Ne.symm h)
theorem set_self {i : Nat} {b : Goroutine} (h : i < gs.size) : (gs.setIfInBounds i b)[i]? = some b := Array.getElem?_setIfInBounds_self_of_lt h

theorem keep_chan {c : Nat} {cap n m : Nat} {buf : Array Value} {cl tm : Bool} (b : Nat) (h : b ≠ c) : (w.setChan c cap buf cl n m tm).heap[b]? = w.heap[b]? := chan_other h ..

theorem Inv.ca_other (h : Inv B0 W0 Post s PB kids gs w t) (hk : kids[k]? = some x) (hkeep : ∀ b, b ≠ x.c → w'.heap[b]? = w.heap[b]?) (hne : ∀ c bc, s.cs[s.cur]? = some (c, bc) → a = parked g #[rcase c z] (.recv true) → s.cur ≠ k) (hca : CA s w g z a) : CA s w' g z a := by
  cases hca with
  | run h => exact .run h
  | wait c bc n m tm h1 h2 =>
    have hnk := hne c bc h1 rfl
    refine .wait c bc n m tm h1 ?_
    obtain ⟨y, hy, rfl, _⟩ := h.cur_kid h1
    rw [hkeep _ fun e => h.apart _ _ y x _ hy hk hnk (.inr (.inr rfl)) (.inr (.inr e)), h2]

/-- THE SEND, into the buffer. -/
theorem Inv.kid_send (h : Inv B0 W0 Post s PB kids gs w t) (hk : kids[k]? = some x) (ha : gs[0]? = some a) (hca : CA s w g z a) (hx : x.st = .work) (hS : AtSend Try.prog x.c (Post k) (Sent x.bc) x.O x.g w)
    (hne : ∀ c bc, s.cs[s.cur]? = some (c, bc) → a = parked g #[rcase c z] (.recv true) → s.cur ≠ k) : KGo B0 W0 Post s PB kids gs w t sl k x g z := by
  have hX := (h.kid k x hk).2
  have hgk := (h.kid k x hk).1
  have hi : k + 1 < gs.size := (Array.getElem?_eq_some_iff.1 hgk).1
  have hSt := hX.st
  unfold KidS at hSt
  rw [hx] at hSt
  obtain ⟨h1, _, _, tm, h4⟩ := hSt
  obtain ⟨g₂, V, z', hst, hP, hThen⟩ := hS
  have hno : offersAt a x.c false = [] := by
    cases hca with
    | run h => exact offers_rf (.inl h.run) _ _
    | wait c bc n m tm' e1 e2 =>
      rw [offersAt_parked_recv, if_neg]
      intro e
      obtain ⟨y, hy, rfl, _⟩ := h.cur_kid e1
      exact h.apart _ _ y x _ hy hk (hne _ _ e1 rfl) (.inr (.inr rfl)) (.inr (.inr e))
  have hrun := crowd_send_room (P := Try.prog) (sl := sl) hgk (by simpa using hst) h4 (by decide) (h.no_recv ha (k + 1) x.c hno)
  rw [finishComm_send] at hrun
  refine ⟨_, _, _, { x with g := Go.Conc.served g₂ undef, st := .aft 3 }, a, hrun, ?_, ?_, h.rely_kid hk (Nat.le_of_eq chan_size.symm) fun b _ _ hb => keep_chan b hb, by rw [set_other (by omega)]; exact ha, h.ca_other hk (fun b hb => keep_chan b hb) hne hca, fun b hb _ => by rw [ha] at hb; cases hb; rfl⟩
  · unfold Kid.lt
    rw [hx]
    exact trivial
  · refine h.sent hk hx h4 (fun W' hW => hP W' hW) hThen (fun op ho => ?_) (by simp) (set_self hi) fun j hj => set_other (by omega)
    simp [MemOp.ofEvents] at ho
    rcases ho with rfl | rfl
    · exact ⟨rfl, fun m e => by cases e⟩
    · exact ⟨rfl, fun m e => by cases e⟩

/-- THE SEND, to the caller that waits for it. -/
theorem Inv.kid_meets (h : Inv B0 W0 Post s PB kids gs w t) {c bc : Nat} (hc : s.cs[s.cur]? = some (c, bc)) (hk : kids[s.cur]? = some x) (ha : gs[0]? = some (parked g #[rcase c z] (.recv true))) (hx : x.st = .work) (hS : AtSend Try.prog x.c (Post s.cur) (Sent x.bc) x.O x.g w) :
    ∃ gs' w' u x' V, (∃ W, Post s.cur V W) ∧ runT Try.prog (crowd gs w sl) (s.cur + 1) = (.next (crowd gs' w' sl), u) ∧ Inv B0 W0 Post (s.take V) PB (kids.set s.cur x') gs' w' (t ++ u) ∧ RelyC PB s.rd w w' ∧ gs'[0]? = some (Go.Conc.served g (recvd true V true)) := by
  have hX := (h.kid _ x hk).2
  have hgk := (h.kid _ x hk).1
  have hi : s.cur + 1 < gs.size := (Array.getElem?_eq_some_iff.1 hgk).1
  obtain ⟨y, hy, hyc, _⟩ := h.cur_kid hc
  rw [hk] at hy; cases hy
  subst hyc
  have hSt := hX.st
  unfold KidS at hSt
  rw [hx] at hSt
  obtain ⟨h1, _, _, tm, h4⟩ := hSt
  have hgot : s.got = false := by
    cases e : s.got with
    | false => rfl
    | true => exact absurd (.inr ⟨rfl, e⟩) h1
  obtain ⟨g₂, V, z', hst, hP, hThen⟩ := hS
  have hp : partners (gs.setIfInBounds (s.cur + 1) ph) x.c false = [(0, 0)] := by
    rw [partners_one (j := 0) (g := parked g #[rcase x.c z] (.recv true)) (by rw [set_other (by omega)]; exact ha) fun l b hl hb => ?_, offersAt_parked_recv, if_pos rfl]
    · rfl
    · rcases getElem?_stand gs _ l b hb with ⟨_, rfl⟩ | ⟨_, hb⟩
      · exact offersAt_ph _ _
      · cases l with
        | zero => exact absurd rfl hl
        | succ l => exact h.offers hb _ _
  have hrun := crowd_send_meets (P := Try.prog) (sl := sl) hgk (by simpa using hst) h4 (by omega) ha hp
  rw [finishComm_send, finishComm_recv] at hrun
  have hgs0 : 0 < gs.size := by omega
  have hsent := h.sent (V := V) (g2 := Go.Conc.served g₂ undef) (gs' := (gs.setIfInBounds 0 (Go.Conc.served g (recvd true V true))).setIfInBounds (s.cur + 1) (Go.Conc.served g₂ undef))
    (u := MemOp.ofEvents (s.cur + 1) x.g.frame.fn x.g.frame.place #[] ++ #[{ g := s.cur + 1, fn := g₂.frame.fn, pos := g₂.frame.place, act := .send x.c 0 }, { g := 0, fn := g.frame.fn, pos := g.frame.place, act := .recv x.c 0 1 }, { g := s.cur + 1, fn := g₂.frame.fn, pos := g₂.frame.place, act := .sendDone x.c 0 }, { g := 0, fn := g.frame.fn, pos := g.frame.place, act := .recvDone x.c 0 }])
    hk hx h4 (fun W' hW => hP W' hW) hThen (fun op ho => by
      simp [MemOp.ofEvents] at ho
      rcases ho with rfl | rfl | rfl | rfl <;> exact ⟨rfl, fun m e => (by cases e)⟩) (by simp) (set_self (by simpa using hi)) fun j hj => by rw [set_other (by omega), set_other (by omega)]
  have hlen := (List.getElem?_eq_some_iff.1 hk).1
  have hk2 : (kids.set s.cur { x with g := Go.Conc.served g₂ undef, st := Stage.aft 3 })[s.cur]? = some { x with g := Go.Conc.served g₂ undef, st := Stage.aft 3 } := by simp [hlen]
  obtain ⟨_, _, htook⟩ := hsent.took (u := #[]) (gs' := (gs.setIfInBounds 0 (Go.Conc.served g (recvd true V true))).setIfInBounds (s.cur + 1) (Go.Conc.served g₂ undef)) hgot hk2 (V := V) (n := 1) (m := 0) (cl := false) (tm := tm) (chan_set h4 ..) (by simp) rfl fun _ => rfl
  refine ⟨_, _, _, { x with g := Go.Conc.served g₂ undef, st := .aft 3 }, V, ⟨w, hP w fun _ _ => rfl⟩, hrun, ?_, h.rely_kid hk (Nat.le_of_eq chan_size.symm) fun b _ _ hb => keep_chan b hb, by rw [set_other (by omega), set_self hgs0]⟩
  rw [chan_set2] at htook
  simpa using htook

/-- THE CLOSE. -/
theorem Inv.kid_close (h : Inv B0 W0 Post s PB kids gs w t) (hk : kids[k]? = some x) (ha : gs[0]? = some a) (hca : CA s w g z a) (hx : x.st = .aft 0) : KGo B0 W0 Post s PB kids gs w t sl k x g z := by
  have hX := (h.kid k x hk).2
  have hgk := (h.kid k x hk).1
  have hi : k + 1 < gs.size := (Array.getElem?_eq_some_iff.1 hgk).1
  have hSt := hX.st
  unfold KidS at hSt
  rw [hx] at hSt
  obtain ⟨h1, h2, V, tm, h3, h4⟩ := hSt
  obtain ⟨buf, m, hch, hnew⟩ : ∃ buf m, w.heap[x.c]? = some (.chan 1 buf false 1 m tm) ∧ ChS s k x.c true V tm (w.setChan x.c 1 buf true 1 m tm) := by
    by_cases hh : s.has k
    · exact ⟨#[], 1, (h4.1 hh).1, fun _ => ⟨chan_set (h4.1 hh).1 .., (h4.1 hh).2⟩, fun q => absurd hh q⟩
    · exact ⟨#[V], 0, h4.2 hh, fun q => absurd q hh, fun _ => chan_set (h4.2 hh) ..⟩
  obtain ⟨g', hst, hq, hgst, hmw⟩ := aft_close h1 hch
  obtain ⟨e1, e2, e3, e4⟩ := h.gs_go (i := k + 1) (g := x.g) (g' := g') (w2 := w.setChan x.c 1 buf true 1 m tm) hi
  have hrun := runT_crowd_go (P := Try.prog) (sl := sl) hgk (by simpa using hst)
  have hev : MemOp.ofEvents (k + 1) x.g.frame.fn x.g.frame.place #[⟨.obj x.c, false, true⟩, ⟨.obj x.c, true, true⟩] = #[{ g := k + 1, fn := x.g.frame.fn, pos := x.g.frame.place, act := .access ⟨.obj x.c, false, true⟩ }, { g := k + 1, fn := x.g.frame.fn, pos := x.g.frame.place, act := .close x.c }] := by rw [ofEvents_eq]; simp [MemAct.ofEvent]
  rw [hev] at hrun
  have lt : ∀ b, x.all b → b < w.heap.size := fun b hb => (hX.lo b hb).2
  -- the caller
  obtain ⟨a', ha', hca'⟩ : ∃ a', woken Try.prog x.g g' (w.setChan x.c 1 buf true 1 m tm) a = a' ∧ CA s (w.setChan x.c 1 buf true 1 m tm) g z a' := by
    cases hca with
    | run hl => exact ⟨a, woken_rf' (.inl hl.run), .run hl⟩
    | wait c bc n m' tm' q1 q2 =>
      by_cases hne : s.cur = k
      · subst hne
        obtain ⟨y, hy, hyc, _⟩ := h.cur_kid q1
        rw [hk] at hy; cases hy
        subst hyc
        refine ⟨{ parked g #[rcase x.c z] (.recv true) with status := .running }, ?_, .run ⟨rfl, rfl, rfl, rfl⟩⟩
        unfold woken
        rw [if_pos (by rw [hmw, hgst]; rfl)]
        exact again_recv_closed (chan_set hch ..)
      · obtain ⟨y, hy, rfl, _⟩ := h.cur_kid q1
        have hk' : (w.setChan x.c 1 buf true 1 m tm).heap[y.c]? = some (.chan 1 #[] false n m' tm') := by
          rw [keep_chan _ fun e => h.apart _ _ y x _ hy hk hne (.inr (.inr rfl)) (.inr (.inr e)), q2]
        exact ⟨_, woken_recv_open _ _ hk', .wait _ _ _ _ _ q1 hk'⟩
  refine ⟨_, _, _, { x with g := g', st := .leave 4 }, a', hrun, ?_, ?_, h.rely_kid hk (Nat.le_of_eq chan_size.symm) fun b _ _ hb => keep_chan b hb, by rw [e4 a (by omega) ha, ha'], hca', fun b hb hr => by rw [ha] at hb; cases hb; rw [← ha', woken_rf' (.inl hr)]⟩
  · unfold Kid.lt
    rw [hx]
    exact trivial
  · refine h.kid_chan (x' := { x with g := g', st := .leave 4 }) hk rfl rfl rfl rfl chan_size (fun b hb => keep_chan b hb) rfl rfl rfl (fun op ho => ?_) (fun op ho a b q1 q2 => ?_) ?_ ?_ e1 e2 fun j hj => e3 j (by omega)
    · simp at ho
      rcases ho with rfl | rfl <;> exact .inl rfl
    · simp at ho
      rcases ho with rfl | rfl
      · simp [MemAct.touch?] at q1
        subst q1
        simpa [blockOf] using q2.symm
      · simp [MemAct.touch?] at q1
    · have := h.tr.ownK (γ := k + 1) (x := x.kt) (O' := x.O) (kid' := kidMap s.cur kids) (u := #[{ g := k + 1, fn := x.g.frame.fn, pos := x.g.frame.place, act := .access ⟨.obj x.c, false, true⟩ }, { g := k + 1, fn := x.g.frame.fn, pos := x.g.frame.place, act := .close x.c }])
        (kidMap_at hk h2) ?_ (fun op ho => ?_) (fun op ho m hm => ?_) (fun b hb => hb) (fun b hb hn => absurd hb hn) (fun op ho a ha _ => ?_) fun d y hd hne => ?_
      · exact this
      · funext d
        split
        · rename_i e; subst e; rw [kidMap_at hk h2]; rfl
        · rfl
      · simp at ho
        rcases ho with rfl | rfl <;> rfl
      · simp at ho
        rcases ho with rfl | rfl <;> cases hm
      · simp at ho
        rcases ho with rfl | rfl
        · simp [MemAct.touch?] at ha
          subst ha
          exact .inr ⟨rfl, rfl, rfl⟩
        · simp [MemAct.touch?] at ha
      · obtain ⟨l, y', rfl, hl, hz, rfl⟩ := kidMap_some hd
        have hlk : l ≠ k := fun e => hne (by rw [e])
        have := h.apart k l x y' x.c hk hz (Ne.symm hlk) (.inr (.inr rfl))
        exact ⟨fun q => this (.inl q), fun q => this (.inr (.inl q)), fun q => this (.inr (.inr q.symm))⟩
    · show KidS Post s k _ _ _
      unfold KidS
      refine ⟨hq, ⟨V, tm, h3.keep fun b hb => keep_chan b (hX.self b hb).2, hnew⟩, fun _ => ⟨t.size + 1, ?_, ?_, fun i a ha hg => ?_⟩⟩
      · simp [Trace.act?]
      · simp [Trace.g?]
      · rcases touchAt_cases ha with ⟨hi', _⟩ | ⟨hi', op, ho, hio, hta⟩
        · omega
        · have hlt := (Array.getElem?_eq_some_iff.1 hio).1
          simp at hlt
          by_cases e : i = t.size + 1
          · subst e
            simp at hio
            rw [← hio] at hta
            simp [MemAct.touch?] at hta
          · omega

/-- WHATEVER A CHILD's NEXT STEP IS. -/
theorem Inv.kid_any (h : Inv B0 W0 Post s PB kids gs w t) (hk : kids[k]? = some x) (ha : gs[0]? = some a) (hca : CA s w g z a) (hr : x.g.status = .running) :
    KGo B0 W0 Post s PB kids gs w t sl k x g z ∨ ∃ c bc, s.cs[s.cur]? = some (c, bc) ∧ a = parked g #[rcase c z] (.recv true) ∧ k = s.cur ∧ s.got = false ∧
      ∃ gs' w' u x' V, (∃ W, Post s.cur V W) ∧ runT Try.prog (crowd gs w sl) (k + 1) = (.next (crowd gs' w' sl), u) ∧ Inv B0 W0 Post (s.take V) PB (kids.set k x') gs' w' (t ++ u) ∧ RelyC PB s.rd w w' ∧ gs'[0]? = some (Go.Conc.served g (recvd true V true)) := by
  have hX := (h.kid k x hk).2
  have hSt := hX.st
  unfold KidS at hSt
  cases hx : x.st with
  | work =>
    rw [hx] at hSt
    obtain ⟨h1, hC, hR, _⟩ := hSt
    cases hC with
    | go c1 c2 c3 =>
      obtain ⟨g', w', es, hst, hG⟩ := c2 w hR
      exact .inl (h.kid_work_go hk ha hca hx hst hG (c3 w g' w' es hR hst))
    | send c1 c2 =>
      have hS := c2 w hR
      by_cases hm : ∃ c bc, s.cs[s.cur]? = some (c, bc) ∧ a = parked g #[rcase c z] (.recv true) ∧ s.cur = k
      · obtain ⟨c, bc, q1, q2, q3⟩ := hm
        subst q3
        refine .inr ⟨c, bc, q1, q2, rfl, ?_, ?_⟩
        · cases e : s.got with
          | false => rfl
          | true => exact absurd (.inr ⟨rfl, e⟩) h1
        · exact h.kid_meets q1 hk (by rw [ha, q2]) hx hS
      · exact .inl (h.kid_send hk ha hca hx hS fun c bc q1 q2 q3 => hm ⟨c, bc, q1, q2, q3⟩)
  | aft j =>
    cases j with
    | zero => exact .inl (h.kid_close hk ha hca hx)
    | succ j => exact .inl (h.kid_aft hk ha hca hx)
  | leave q => exact .inl (h.kid_leave hk ha hca hx hr)
end
end Go.Proofs.Ytlndinigbppafaa
