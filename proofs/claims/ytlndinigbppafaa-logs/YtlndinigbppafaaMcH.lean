/-
  A child's send and close in the machine; the caller takes a value, or finds the channel closed.
-/
import Derived.Test.YtlndinigbppafaaMcG
namespace Go.Proofs.Ytlndinigbppafaa
open Go.Sim Go.Conc

theorem tri_words {kid : Nat → Option KidT} : ∀ (l : List MemOp) {t : Trace}, TrI t kid → (∀ op ∈ l, op.act.touch? = none ∧ ∀ m, op.act ≠ .mark m) → TrI (t ++ l.toArray) kid
  | [], t, h, _ => by simpa using h
  | op :: l, t, h, hl => by
    have h1 := hl op (List.mem_cons_self ..)
    have := tri_words l (h.word op h1.1 fun o ho m hm => by simp at ho; subst ho; exact absurd hm (h1.2 m)) fun o ho => hl o (List.mem_cons_of_mem _ ho)
    have e : t ++ #[op] ++ l.toArray = t ++ (op :: l).toArray := by simp
    rwa [e] at this

section
variable {B0 : Nat} {W0 : World} {Post : Nat → Value → World → Prop} {s : St} {PB : Nat → Prop} {kids : List Kid} {gs : Array Goroutine} {w w' : World} {t u : Trace} {k cur : Nat} {x x' : Kid} {a g : Goroutine} {z : Value} {sl : Option (Nat × Nat)}

theorem chan_set {c : Nat} {o : Obj} (h : w.heap[c]? = some o) (cap : Nat) (buf : Array Value) (cl : Bool) (n m : Nat) (tm : Bool) : (w.setChan c cap buf cl n m tm).heap[c]? = some (.chan cap buf cl n m tm) := by
  have := (Array.getElem?_eq_some_iff.1 h).1
  simp [World.setChan, this]
theorem chan_other {b c : Nat} (h : b ≠ c) (cap : Nat) (buf : Array Value) (cl : Bool) (n m : Nat) (tm : Bool) : (w.setChan c cap buf cl n m tm).heap[b]? = w.heap[b]? := by
  simp only [World.setChan]
  rw [Array.getElem?_setIfInBounds_ne (Ne.symm h)]
theorem chan_size {c cap n m : Nat} {buf : Array Value} {cl tm : Bool} : (w.setChan c cap buf cl n m tm).heap.size = w.heap.size := by simp [World.setChan]
theorem chan_set2 {c cap n m cap' n' m' : Nat} {buf buf' : Array Value} {cl tm cl' tm' : Bool} : (w.setChan c cap buf cl n m tm).setChan c cap' buf' cl' n' m' tm' = w.setChan c cap' buf' cl' n' m' tm' := by simp [World.setChan]

/-- A child's step that turns its channel's block alone, and lists no touch. -/
theorem Inv.kid_chan (h : Inv B0 W0 Post s PB kids gs w t) (hk : kids[k]? = some x) {gs' : Array Goroutine} (hc : x'.c = x.c) (hbc : x'.bc = x.bc) (hrd : x'.rd = x.rd) (hO : x'.O = x.O) (hsz : w'.heap.size = w.heap.size) (hkeep : ∀ b, b ≠ x.c → w'.heap[b]? = w.heap[b]?)
    (htape : w'.tape = w.tape) (hos : w'.os = w.os) (hout : w'.output = w.output) (hu : ∀ op ∈ u, op.g = k + 1 ∨ op.act.touch? = none) (hlow : ∀ op ∈ u, ∀ a b, op.act.touch? = some a → blockOf a.loc = some b → b = x.c) (hT : TrI (t ++ u) (kidMap s.cur kids))
    (hI : KidS Post s k x' w' (t ++ u)) (hgs : gs'.size = gs.size) (hgk : gs'[k + 1]? = some x'.g) (hgo : ∀ j, j ≠ k → gs'[j + 1]? = gs[j + 1]?) : Inv B0 W0 Post s PB (kids.set k x') gs' w' (t ++ u) := by
  have hX := (h.kid k x hk).2
  refine h.kid_to hk hc hbc hrd (fun b hb => by rw [hO]; exact hb) (fun b hb hn => by rw [hO] at hb; exact absurd hb hn) (Nat.le_of_eq hsz.symm) (fun b _ h2 => hkeep b fun e => h2 (.inr (.inr e))) htape hos hout hu (fun op ho a b h1 h2 => ?_) ?_ hgs hgk hgo ?_
  · rw [hlow op ho a b h1 h2, hsz]; exact ⟨(hX.lo _ (.inr (.inr rfl))).2, fun hp => (h.pb _ hp).2.2 k x hk (.inr (.inr rfl))⟩
  · refine ⟨fun b hb => ?_, fun b hb => ?_, by rw [hrd, hc]; exact hX.selfc, ?_, hI⟩
    · unfold Kid.all at hb
      rw [hO, hrd, hc] at hb
      rw [hsz]
      exact hX.lo b hb
    · rw [hrd, hc]; rw [hO] at hb; exact hX.self b hb
    · rw [hbc, hc, hkeep _ fun e => hX.selfc (.inl e.symm)]; exact hX.box
  · rw [kidMap_same hk (by unfold Kid.kt; rw [hO, hrd, hc])]; exact hT

/-- THE SEND. -/
theorem Inv.sent (h : Inv B0 W0 Post s PB kids gs w t) (hk : kids[k]? = some x) (hx : x.st = .work) {V : Value} {tm : Bool} {g2 : Goroutine} {gs' : Array Goroutine} (hch : w.heap[x.c]? = some (.chan 1 #[] false 0 0 tm)) (hP : PostAt (Post k) x.O V w) (hs : Sent x.bc g2)
    (hu : ∀ op ∈ u, op.act.touch? = none ∧ ∀ m, op.act ≠ .mark m) (hgs : gs'.size = gs.size) (hgk : gs'[k + 1]? = some g2) (hgo : ∀ j, j ≠ k → gs'[j + 1]? = gs[j + 1]?) :
    Inv B0 W0 Post s PB (kids.set k { x with g := g2, st := .aft 3 }) gs' (w.setChan x.c 1 #[V] false 1 0 tm) (t ++ u) := by
  have hX := (h.kid k x hk).2
  have hS := hX.st
  unfold KidS at hS
  rw [hx] at hS
  have hT := tri_words u.toList h.tr fun op ho => hu op (by simpa using ho)
  refine h.kid_chan (x' := { x with g := g2, st := .aft 3 }) hk rfl rfl rfl rfl chan_size (fun b hb => chan_other hb ..) rfl rfl rfl (fun op ho => .inr (hu op ho).1) (fun op ho a b h1 _ => by rw [(hu op ho).1] at h1; cases h1) (by simpa using hT) ?_ hgs hgk hgo
  show KidS Post s k _ _ _
  unfold KidS
  exact ⟨hs, fun q => hS.1 (.inl q), V, tm, hP.keep fun b hb => chan_other (hX.self b hb).2 .., fun q => absurd q hS.1, fun _ => chan_set hch ..⟩

theorem St.take_has {V : Value} {l : Nat} (hl : l ≠ s.cur) : (s.take V).has l ↔ s.has l := by
  unfold St.has St.take
  constructor
  · rintro (q | ⟨q, _⟩)
    · exact .inl q
    · exact absurd q hl
  · rintro (q | ⟨q, _⟩)
    · exact .inl q
    · exact absurd q hl

/-- THE CALLER TAKES A VALUE. -/
theorem Inv.took (h : Inv B0 W0 Post s PB kids gs w t) (hgot : s.got = false) (hk : kids[s.cur]? = some x) {V : Value} {n m : Nat} {cl tm : Bool} {gs' : Array Goroutine} (hch : w.heap[x.c]? = some (.chan 1 #[V] cl n m tm))
    (hu : ∀ op ∈ u, op.act.touch? = none ∧ ∀ m, op.act ≠ .mark m) (hgs : gs'.size = gs.size) (hgo : ∀ j, gs'[j + 1]? = gs[j + 1]?) :
    n = 1 ∧ m = 0 ∧ Inv B0 W0 Post (s.take V) PB kids gs' (w.setChan x.c 1 #[] cl 1 1 tm) (t ++ u) := by
  have hX := (h.kid _ x hk).2
  have hnh : ¬ s.has s.cur := fun q => q.elim (fun q => Nat.lt_irrefl _ q) fun q => by rw [hgot] at q; cases q.2
  have hT := tri_words u.toList h.tr fun op ho => hu op (by simpa using ho)
  have hlen : s.vs.length = s.cur := by have := h.vs; rw [hgot] at this; simpa using this
  have hhas : (s.take V).has s.cur := .inr ⟨rfl, rfl⟩
  have hvs : (s.take V).vs[s.cur]? = some V := by
    show (s.vs ++ [V])[s.cur]? = some V
    rw [← hlen]; simp
  have key : n = 1 ∧ m = 0 ∧ KidS Post (s.take V) s.cur x (w.setChan x.c 1 #[] cl 1 1 tm) (t ++ u) := by
    have hS := hX.st
    unfold KidS at hS ⊢
    cases hx : x.st with
    | work =>
      rw [hx] at hS
      obtain ⟨_, _, _, tm', h4⟩ := hS
      rw [hch] at h4; cases h4
    | aft j =>
      rw [hx] at hS
      obtain ⟨h1, h2, V', tm', h3, h4⟩ := hS
      have h5 := h4.2 hnh
      rw [hch] at h5; cases h5
      exact ⟨rfl, rfl, h1, h2, V, tm, h3.keep fun b hb => chan_other (hX.self b hb).2 .., fun _ => ⟨chan_set hch .., hvs⟩, fun q => absurd hhas q⟩
    | leave q =>
      rw [hx] at hS
      obtain ⟨h1, ⟨V', tm', h3, h4⟩, hp⟩ := hS
      have h5 := h4.2 hnh
      rw [hch] at h5; cases h5
      refine ⟨rfl, rfl, h1, ⟨V, tm, h3.keep fun b hb => chan_other (hX.self b hb).2 .., fun _ => ⟨chan_set hch .., hvs⟩, fun q => absurd hhas q⟩, fun hc => ?_⟩
      obtain ⟨p, p1, p2, p3⟩ := hp hc
      exact ⟨p, close_app p1 p2 p3 fun op ho => .inr (hu op ho).1⟩
  refine ⟨key.1, key.2.1, by rw [hgs]; exact h.size, fun l y hl => ⟨by rw [hgo]; exact (h.kid l y hl).1, ?_⟩, h.link, h.cur, fun _ => (List.getElem?_eq_some_iff.1 hk).1, ?_, h.apart, fun b hb => ?_, (by have := hT; simp only [Array.toArray_toList] at this; exact this), fun i a b ha hb => ?_, fun i a b ha hb => ?_, fun b hb => ?_, by rw [chan_size]; exact h.b0, h.glob, h.tape, h.os, h.output⟩
  · by_cases e : l = s.cur
    · subst e
      rw [hk] at hl; cases hl
      exact ⟨fun b hb => by rw [chan_size]; exact hX.lo b hb, hX.self, hX.selfc, by rw [chan_other fun e => hX.selfc (.inl e.symm)]; exact hX.box, key.2.2⟩
    · have hY := (h.kid l y hl).2.frame (w' := w.setChan x.c 1 #[] cl 1 1 tm) (u := u) (Nat.le_of_eq chan_size.symm) (fun b hb => chan_other (fun q => h.apart l s.cur y x b hl hk e hb (.inr (.inr q))) ..) fun op ho => .inr (hu op ho).1
      refine ⟨hY.lo, hY.self, hY.selfc, hY.box, ?_⟩
      have hS := hY.st
      have hv : ∀ {l : Nat}, s.has l → (s.take V).vs[l]? = s.vs[l]? := by
        intro l q
        have : l < s.vs.length := by
          rcases q with q | q
          · omega
          · rw [hgot] at q; cases q.2
        exact List.getElem?_append_left this
      have hcs : ∀ {cl' V' tm'}, ChS s l y.c cl' V' tm' (w.setChan x.c 1 #[] cl 1 1 tm) → ChS (s.take V) l y.c cl' V' tm' (w.setChan x.c 1 #[] cl 1 1 tm) := fun q =>
        ⟨fun r => by rw [St.take_has e] at r; rw [hv r]; exact q.1 r, fun r => q.2 fun r' => r ((St.take_has e).2 r')⟩
      unfold KidS at hS ⊢
      cases hy : y.st with
      | work => rw [hy] at hS; exact ⟨fun q => hS.1 ((St.take_has e).1 q), hS.2⟩
      | aft j => rw [hy] at hS; obtain ⟨h1, h2, V', tm', h3, h4⟩ := hS; exact ⟨h1, h2, V', tm', h3, hcs h4⟩
      | leave q => rw [hy] at hS; obtain ⟨h1, ⟨V', tm', h3, h4⟩, h5⟩ := hS; exact ⟨h1, ⟨V', tm', h3, hcs h4⟩, h5⟩
  · show (s.vs ++ [V]).length = s.cur + (if true = true then 1 else 0)
    simp [hlen]
  · rw [chan_size]; exact h.pb b hb
  · rw [chan_size]
    rcases touchAt_cases ha with ⟨_, ha'⟩ | ⟨_, op, ho, _, hta⟩
    · exact h.low i a b ha' hb
    · rw [(hu op ho).1] at hta; cases hta
  · rcases touchAt_cases ha with ⟨_, ha'⟩ | ⟨_, op, ho, _, hta⟩
    · exact h.pbobj i a b ha' hb
    · rw [(hu op ho).1] at hta; cases hta
  · rw [chan_other, h.base b hb]
    intro e
    have := (hX.lo x.c (.inr (.inr rfl))).1
    omega

theorem St.next_has {l : Nat} (hg : s.got = true) : s.next.has l ↔ s.has l := by
  unfold St.has St.next
  constructor
  · rintro (q | ⟨_, q⟩)
    · have : l < s.cur + 1 := q
      rcases Nat.lt_or_ge l s.cur with q | q
      · exact .inl q
      · exact .inr ⟨by omega, hg⟩
    · cases q
  · rintro (q | ⟨q, _⟩)
    · left; show l < s.cur + 1; omega
    · left; show l < s.cur + 1; omega

/-- THE CALLER FINDS ITS CHANNEL CLOSED. -/
theorem Inv.shut (h : Inv B0 W0 Post s PB kids gs w t) (hgot : s.got = true) (hk : kids[s.cur]? = some x) {n m : Nat} {tm : Bool} {buf : Array Value} {gs' : Array Goroutine} (hch : w.heap[x.c]? = some (.chan 1 buf true n m tm)) {op : MemOp} (ho : op.g = 0 ∧ op.act = .recvClosed x.c)
    (hgs : gs'.size = gs.size) (hgo : ∀ j, gs'[j + 1]? = gs[j + 1]?) : Inv B0 W0 Post s.next PB kids gs' w (t ++ #[op]) := by
  have hX := (h.kid _ x hk).2
  have hlt := (List.getElem?_eq_some_iff.1 hk).1
  have hu : ∀ o ∈ #[op], o.g ≠ s.cur + 1 ∨ o.act.touch? = none := fun o hm => by simp at hm; subst hm; right; rw [ho.2]; rfl
  obtain ⟨q, hq, p, p1, p2, p3⟩ : ∃ q, x.st = .leave q ∧ ∃ p, t.act? p = some (.close x.c) ∧ t.g? p = some (s.cur + 1) ∧ ∀ i a, touchAt t i = some a → t.g? i = some (s.cur + 1) → i < p := by
    have hS := hX.st
    unfold KidS at hS
    cases hx : x.st with
    | work => rw [hx] at hS; exact absurd (.inr ⟨rfl, hgot⟩) hS.1
    | aft j =>
      rw [hx] at hS
      obtain ⟨_, _, V', tm', _, h4⟩ := hS
      have h5 := (h4.1 (.inr ⟨rfl, hgot⟩)).1
      rw [hch] at h5; cases h5
    | leave q =>
      rw [hx] at hS
      exact ⟨q, rfl, hS.2.2 (Nat.lt_irrefl _)⟩
  have hT := h.tr.through (kidMap_at hk (Nat.lt_irrefl _)) ho p1 p2 p3
  refine ⟨by rw [hgs]; exact h.size, fun l y hl => ⟨by rw [hgo]; exact (h.kid l y hl).1, ?_⟩, h.link, hlt, (fun q => (by cases q)), ?_, h.apart, h.pb, ?_, fun i a b ha hb => ?_, fun i a b ha hb => ?_, h.base, h.b0, h.glob, h.tape, h.os, h.output⟩
  · have hY := (h.kid l y hl).2.frame (w' := w) (u := #[op]) (Nat.le_refl _) (fun _ _ => rfl) fun o hm => by simp at hm; subst hm; right; rw [ho.2]; rfl
    refine ⟨hY.lo, hY.self, hY.selfc, hY.box, ?_⟩
    have hS := hY.st
    have hcs : ∀ {cl V' tm'}, ChS s l y.c cl V' tm' w → ChS s.next l y.c cl V' tm' w := fun q => ⟨fun r => q.1 ((St.next_has hgot).1 r), fun r => q.2 fun r' => r ((St.next_has hgot).2 r')⟩
    unfold KidS at hS ⊢
    cases hy : y.st with
    | work => rw [hy] at hS; exact ⟨fun q => hS.1 ((St.next_has hgot).1 q), hS.2⟩
    | aft j =>
      rw [hy] at hS
      obtain ⟨h1, h2, V', tm', h3, h4⟩ := hS
      refine ⟨h1, fun r => ?_, V', tm', h3, hcs h4⟩
      have r' : l < s.cur + 1 := r
      have e : l = s.cur := by omega
      subst e
      rw [hk] at hl; cases hl
      rw [hq] at hy; cases hy
    | leave q => rw [hy] at hS; obtain ⟨h1, ⟨V', tm', h3, h4⟩, h5⟩ := hS; exact ⟨h1, ⟨V', tm', h3, hcs h4⟩, fun r => h5 fun r' => r (by show l < s.cur + 1; omega)⟩
  · have := h.vs
    rw [hgot] at this
    show s.vs.length = s.cur + 1 + (if false = true then 1 else 0)
    simpa using this
  · have e : kidMap s.next.cur kids = fun d => if d = s.cur + 1 then none else kidMap s.cur kids d := by
      funext d
      unfold kidMap
      show (if d ≤ s.cur + 1 then none else _) = _
      by_cases h1 : d = s.cur + 1
      · rw [if_pos (by omega), if_pos h1]
      · rw [if_neg h1]
        by_cases h2 : d ≤ s.cur
        · rw [if_pos (by omega), if_pos h2]
        · rw [if_neg (by omega), if_neg h2]
    rw [e]
    exact hT
  · rcases touchAt_cases ha with ⟨_, ha'⟩ | ⟨_, o, hm, _, hta⟩
    · exact h.low i a b ha' hb
    · simp at hm; subst hm; rw [ho.2] at hta; cases hta
  · rcases touchAt_cases ha with ⟨_, ha'⟩ | ⟨_, o, hm, _, hta⟩
    · exact h.pbobj i a b ha' hb
    · simp at hm; subst hm; rw [ho.2] at hta; cases hta
end
end Go.Proofs.Ytlndinigbppafaa
