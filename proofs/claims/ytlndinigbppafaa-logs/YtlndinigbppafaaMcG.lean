/-
  A child's steps in the machine: plain steps; the send; the close.
-/
import Derived.Test.YtlndinigbppafaaMcF
namespace Go.Proofs.Ytlndinigbppafaa
open Go.Sim Go.Conc

/-- The same record but for what it offers. -/
structure Like (a g : Goroutine) : Prop where
  run : a.status = .running
  frame : a.frame = g.frame
  callers : a.callers = g.callers
  dying : a.dying = g.dying

/-- How the caller stands: it runs, or is parked at its next channel, which is open and empty. -/
inductive CA (s : St) (w : World) (g : Goroutine) (z : Value) : Goroutine → Prop
  | run {a : Goroutine} : Like a g → CA s w g z a
  | wait (c bc n m : Nat) (tm : Bool) : s.cs[s.cur]? = some (c, bc) → w.heap[c]? = some (.chan 1 #[] false n m tm) → CA s w g z (parked g #[rcase c z] (.recv true))

section
variable {B0 : Nat} {W0 : World} {Post : Nat → Value → World → Prop} {s : St} {PB : Nat → Prop} {kids : List Kid} {gs : Array Goroutine} {w w' : World} {t u : Trace} {k cur : Nat} {x x' : Kid} {a g : Goroutine} {z : Value} {sl : Option (Nat × Nat)}

theorem Inv.cur_kid (h : Inv B0 W0 Post s PB kids gs w t) {c bc : Nat} (hc : s.cs[s.cur]? = some (c, bc)) : ∃ y, kids[s.cur]? = some y ∧ y.c = c ∧ y.bc = bc := by
  rw [h.link, List.getElem?_map] at hc
  obtain ⟨y, hy, e⟩ := Option.map_eq_some_iff.1 hc
  cases e
  exact ⟨y, hy, rfl, rfl⟩

theorem CA.woken (h : CA s w' g z a) {g1 g2 : Goroutine} : woken Try.prog g1 g2 w' a = a := by
  cases h with
  | run h => exact woken_rf' (.inl h.run)
  | wait c bc n m tm _ hc => exact woken_recv_open _ _ hc

theorem Inv.ca_keep (h : Inv B0 W0 Post s PB kids gs w t) (hk : kids[k]? = some x) (hkeep : ∀ b, b < w.heap.size → ¬ x.O b → w'.heap[b]? = w.heap[b]?) (hca : CA s w g z a) : CA s w' g z a := by
  cases hca with
  | run h => exact .run h
  | wait c bc n m tm h1 h2 =>
    refine .wait c bc n m tm h1 ?_
    obtain ⟨y, hy, rfl, _⟩ := h.cur_kid h1
    have hyb : y.all y.c := .inr (.inr rfl)
    rw [hkeep _ ((h.kid _ _ hy).2.lo _ hyb).2 fun q => ?_, h2]
    by_cases e : s.cur = k
    · subst e
      rw [hk] at hy; cases hy
      exact ((h.kid _ _ hk).2.self _ q).2 rfl
    · exact h.apart _ _ y x _ hy hk e hyb (.inl q)

/-- A PLAIN STEP OF A CHILD's. -/
theorem Inv.kid_plain (h : Inv B0 W0 Post s PB kids gs w t) (hk : kids[k]? = some x) (ha : gs[0]? = some a) (hca : CA s w g z a) {g' : Goroutine} {es : Array Event} (hst : stepG Try.prog false x.g w = .go g' w' es)
    (hc : x'.c = x.c) (hbc : x'.bc = x.bc) (hrd : x'.rd = x.rd) (hg' : x'.g = g') (hO : ∀ b, x.O b → x'.O b) (hnew : ∀ b, x'.O b → ¬ x.O b → w.heap.size ≤ b ∧ b < w'.heap.size)
    (hsz : w.heap.size ≤ w'.heap.size) (hkeep : ∀ b, b < w.heap.size → ¬ x.O b → w'.heap[b]? = w.heap[b]?) (htape : w'.tape = w.tape) (hos : w'.os = w.os) (hout : w'.output = w.output)
    (hes : ∀ e ∈ es, EvC x'.O x.rd e) (hcur : ¬ k < s.cur ∨ (es = #[] ∧ x'.O = x.O)) (hI : KidS Post s k x' w' (t ++ MemOp.ofEvents (k + 1) x.g.frame.fn x.g.frame.place es)) :
    ∃ gs', runT Try.prog (crowd gs w sl) (k + 1) = (.next (crowd gs' w' sl), MemOp.ofEvents (k + 1) x.g.frame.fn x.g.frame.place es) ∧
      Inv B0 W0 Post s PB (kids.set k x') gs' w' (t ++ MemOp.ofEvents (k + 1) x.g.frame.fn x.g.frame.place es) ∧ RelyC PB s.rd w w' ∧ gs'[0]? = some a ∧ CA s w' g z a := by
  have hX := (h.kid k x hk).2
  have hgk := (h.kid k x hk).1
  have hi : k + 1 < gs.size := (Array.getElem?_eq_some_iff.1 hgk).1
  obtain ⟨e1, e2, e3, e4⟩ := h.gs_go (i := k + 1) (g := x.g) (g' := g') (w2 := w') hi
  have hca' := h.ca_keep hk hkeep hca
  have hbcO : ¬ x.O x.bc := fun q => (hX.self _ q).1 (.inl rfl)
  have hx'kt : x'.kt = ⟨x'.O, x.rd, x.c⟩ := by unfold Kid.kt; rw [hrd, hc]
  have lt : ∀ b, x.all b → b < w.heap.size := fun b hb => (hX.lo b hb).2
  refine ⟨_, runT_crowd_go hgk (by simpa using hst), ?_, h.rely_kid hk hsz fun b h1 h2 _ => hkeep b h1 h2, by rw [e4 a (by omega) ha, hca'.woken], hca'⟩
  refine h.kid_to hk hc hbc hrd hO hnew hsz (fun b h1 h2 => hkeep b h1 fun q => h2 (.inl q)) htape hos hout (fun op ho => .inl (g_ofEvents op ho)) (fun op ho a b hta hbl => ?_) ?_ e1 (by rw [e2, hg']) (fun j hj => e3 j (by omega)) ?_
  · obtain ⟨e, he, rfl⟩ := Go.Conc.mem_ofEvents ho
    obtain ⟨b', b1, _, b3⟩ := touch_evC (hes e he) hta
    rw [hbl] at b1; cases b1
    rcases b3 with q | q
    · by_cases hxO : x.O b
      · exact ⟨Nat.lt_of_lt_of_le (lt b (.inl hxO)) hsz, fun hp => (h.pb b hp).2.2 k x hk (.inl hxO)⟩
      · refine ⟨(hnew b q hxO).2, fun hp => ?_⟩
        have := (hnew b q hxO).1
        have := (h.pb b hp).2.1
        omega
    · exact ⟨Nat.lt_of_lt_of_le (lt b (.inr (.inl q.1))) hsz, fun hp => (h.pb b hp).2.2 k x hk (.inr (.inl q.1))⟩
  · refine ⟨fun b hb => ?_, fun b hb => ?_, by rw [hrd, hc]; exact hX.selfc, ?_, hI⟩
    · unfold Kid.all at hb
      rw [hrd, hc] at hb
      rcases hb with hb | hb
      · by_cases hxO : x.O b
        · exact ⟨(hX.lo b (.inl hxO)).1, Nat.lt_of_lt_of_le (lt b (.inl hxO)) hsz⟩
        · have := hnew b hb hxO
          have := h.b0
          exact ⟨by omega, by omega⟩
      · exact ⟨(hX.lo b (.inr hb)).1, Nat.lt_of_lt_of_le (lt b (.inr hb)) hsz⟩
    · rw [hrd, hc]
      by_cases hxO : x.O b
      · exact hX.self b hxO
      · have hn := hnew b hb hxO
        refine ⟨fun q => ?_, fun q => ?_⟩
        · have := lt b (.inr (.inl q)); omega
        · have := lt b (.inr (.inr q)); omega
    · rw [hbc, hc, hkeep _ (lt _ (.inr (.inl (.inl rfl)))) hbcO]
      exact hX.box
  · rcases hcur with hcur | ⟨rfl, hOO⟩
    · exact h.tr_plain hk hcur hx'kt hO (fun b q1 q2 => (hnew b q1 q2).1) hes _ _
    · rw [kidMap_same hk (by rw [hx'kt, hOO]; rfl)]
      simpa [MemOp.ofEvents] using h.tr

/-- What the machine's step by a child may come to, the caller left as it stands. -/
def KGo (B0 : Nat) (W0 : World) (Post : Nat → Value → World → Prop) (s : St) (PB : Nat → Prop) (kids : List Kid) (gs : Array Goroutine) (w : World) (t : Trace) (sl : Option (Nat × Nat)) (k : Nat) (x : Kid) (g : Goroutine) (z : Value) : Prop :=
  ∃ gs' w' u x' a', runT Try.prog (crowd gs w sl) (k + 1) = (.next (crowd gs' w' sl), u) ∧ Kid.lt x' x ∧ Inv B0 W0 Post s PB (kids.set k x') gs' w' (t ++ u) ∧ RelyC PB s.rd w w' ∧ gs'[0]? = some a' ∧ CA s w' g z a' ∧ ∀ b, gs[0]? = some b → b.status = .running → a' = b

theorem Inv.kid_work_go (h : Inv B0 W0 Post s PB kids gs w t) (hk : kids[k]? = some x) (ha : gs[0]? = some a) (hca : CA s w g z a) (hx : x.st = .work) {g' : Goroutine} {es : Array Event} (hst : stepG Try.prog false x.g w = .go g' w' es)
    (hG : GuarC x.O x.rd w w' es) (hC : Ch Try.prog x.c x.rd (Post k) (Sent x.bc) (grow x.O w w') g' w') : KGo B0 W0 Post s PB kids gs w t sl k x g z := by
  have hX := (h.kid k x hk).2
  have hS := hX.st
  unfold KidS at hS
  rw [hx] at hS
  obtain ⟨h1, _, h3, tm, h4⟩ := hS
  let x' : Kid := { x with O := grow x.O w w', g := g', W := w' }
  have hcO : ¬ x.O x.c := fun q => (hX.self _ q).2 rfl
  obtain ⟨gs', r1, r2, r3, r4, r5⟩ := h.kid_plain (x' := x') (sl := sl) hk ha hca hst rfl rfl rfl rfl (fun b hb => .inl hb) (fun b hb hn => hb.elim (fun q => absurd q hn) id) hG.size (fun b q1 q2 => hG.keep b q1 q2) hG.tape hG.os hG.output hG.ev
    (.inl fun q => h1 (.inl q)) (by
      show KidS Post s k x' w' _
      unfold KidS
      have : x'.st = .work := hx
      rw [this]
      exact ⟨h1, hC, RelyC.refl _ _ _, tm, by rw [show x'.c = x.c from rfl, hG.keep _ (hX.lo _ (.inr (.inr rfl))).2 hcO]; exact h4⟩)
  refine ⟨gs', w', _, x', a, r1, ?_, r2, r3, r4, r5, fun b hb _ => by rw [ha] at hb; cases hb; rfl⟩
  unfold Kid.lt
  rw [hx]
  exact ⟨rfl, rfl, rfl, rfl, rfl, w, es, h3, hst, rfl⟩

theorem Inv.kid_aft (h : Inv B0 W0 Post s PB kids gs w t) (hk : kids[k]? = some x) (ha : gs[0]? = some a) (hca : CA s w g z a) {j : Nat} (hx : x.st = .aft (j + 1)) : KGo B0 W0 Post s PB kids gs w t sl k x g z := by
  have hX := (h.kid k x hk).2
  have hS := hX.st
  unfold KidS at hS
  rw [hx] at hS
  obtain ⟨h1, h2, V, tm, h3, h4⟩ := hS
  obtain ⟨g', es, hst, hA, hes⟩ := aft_step h1 hX.box
  let x' : Kid := { x with g := g', st := .aft j }
  obtain ⟨gs', r1, r2, r3, r4, r5⟩ := h.kid_plain (x' := x') (sl := sl) hk ha hca hst rfl rfl rfl rfl (fun b hb => hb) (fun b hb hn => absurd hb hn) (Nat.le_refl _) (fun b _ _ => rfl) rfl rfl rfl
    (fun e he => by rw [hes e he]; exact .inr ⟨rfl, x.bc, .inl ⟨_, rfl, rfl⟩, .inr ⟨.inl rfl, rfl⟩⟩) (.inl h2) (by
      show KidS Post s k x' w _
      unfold KidS
      exact ⟨hA, h2, V, tm, h3, h4⟩)
  refine ⟨gs', w, _, x', a, r1, ?_, r2, r3, r4, r5, fun b hb _ => by rw [ha] at hb; cases hb; rfl⟩
  unfold Kid.lt
  rw [hx]
  exact Nat.lt_succ_self j

theorem Inv.kid_leave (h : Inv B0 W0 Post s PB kids gs w t) (hk : kids[k]? = some x) (ha : gs[0]? = some a) (hca : CA s w g z a) {q : Nat} (hx : x.st = .leave q) (hr : x.g.status = .running) : KGo B0 W0 Post s PB kids gs w t sl k x g z := by
  have hX := (h.kid k x hk).2
  have hS := hX.st
  unfold KidS at hS
  rw [hx] at hS
  obtain ⟨h1, h2, h3⟩ := hS
  cases q with
  | zero =>
    have : x.g.status = .finished := h1
    rw [hr] at this; cases this
  | succ q =>
    rcases h1 with h1 | ⟨_, g', hst, hq⟩
    · rw [hr] at h1; cases h1
    let x' : Kid := { x with g := g', st := .leave q }
    have hu : MemOp.ofEvents (k + 1) x.g.frame.fn x.g.frame.place #[] = #[] := rfl
    obtain ⟨gs', r1, r2, r3, r4, r5⟩ := h.kid_plain (x' := x') (sl := sl) hk ha hca (hst w) rfl rfl rfl rfl (fun b hb => hb) (fun b hb hn => absurd hb hn) (Nat.le_refl _) (fun b _ _ => rfl) rfl rfl rfl
      (fun e he => by simp at he) (.inr ⟨rfl, rfl⟩) (by
        show KidS Post s k x' w _
        unfold KidS
        refine ⟨hq, h2, fun hc => ?_⟩
        rw [hu, Array.append_empty]
        exact h3 hc)
    refine ⟨gs', w, _, x', a, r1, ?_, r2, r3, r4, r5, fun b hb _ => by rw [ha] at hb; cases hb; rfl⟩
    unfold Kid.lt
    rw [hx]
    exact Nat.lt_succ_self q
end
end Go.Proofs.Ytlndinigbppafaa
