/-
  The caller's script; what is held of a caller and its children between two steps of the machine.
-/
import Derived.Test.YtlndinigbppafaaMcD
namespace Go.Proofs.Ytlndinigbppafaa
open Go.Sim Go.Conc

/-- What the caller has done: the channels that it has started children for (with the box of each), how many it has heard out, whether it has had a value of the next, the values so far. -/
structure St where
  cs : List (Nat × Nat)
  cur : Nat
  got : Bool
  vs : List Value

def St.rd (s : St) (b : Nat) : Prop := ∃ p ∈ s.cs, b = p.2
def St.more (s : St) (c bc : Nat) : St := { s with cs := s.cs ++ [(c, bc)] }
def St.take (s : St) (V : Value) : St := { s with got := true, vs := s.vs ++ [V] }
def St.next (s : St) : St := { s with got := false, cur := s.cur + 1 }
/-- A value has come from child number k. -/
def St.has (s : St) (k : Nat) : Prop := k < s.cur ∨ (k = s.cur ∧ s.got = true)

/-- No event of an object (a channel's, a map's): cells alone. -/
def NoObj (es : Array Event) : Prop := ∀ e ∈ es, ∀ b, e.loc ≠ .obj b

def Give (bc bv bi bn c b : Nat) : Prop := RdB bc bv bi bn b ∨ b = c

/-- A value of one cell. -/
def Sl (V : Value) : Prop := V.oneCell' = true ∧ V.cells = #[V]

/-- THE CALLER ON ITS WAY, whatever its children do. -/
inductive PS (ver : Value) (N : Nat) (Fin : St → (Nat → Prop) → Goroutine → World → Prop) : St → (Nat → Prop) → Goroutine → World → Prop
  | go {s : St} {PB : Nat → Prop} {g : Goroutine} {w : World} : g.status = .running →
      (∀ w₁, RelyC PB s.rd w w₁ → ∃ g' w' es, stepG Try.prog true g w₁ = .go g' w' es ∧ GuarC PB s.rd w₁ w' es ∧ NoObj es) →
      (∀ w₁ g' w' es, RelyC PB s.rd w w₁ → stepG Try.prog true g w₁ = .go g' w' es → PS ver N Fin s (grow PB w₁ w') g' w') → PS ver N Fin s PB g w
  | spawn {s : St} {PB : Nat → Prop} {g g' : Goroutine} {w : World} (bc bv bi bn c : Nat) (tm : Bool) : g.status = .running → (∀ b, Give bc bv bi bn c b → PB b) → ¬ RdB bc bv bi bn c → s.cs.length < N →
      (∀ w₁, RelyC PB s.rd w w₁ → stepG Try.prog true g w₁ = .spawn g' (born Try.prog (childD bc bv bi bn)) w₁ #[]) →
      Boxes bc bv bi bn c ver s.cs.length N w → w.heap[c]? = some (.chan 1 #[] false 0 0 tm) →
      PS ver N Fin (s.more c bc) (fun b => PB b ∧ ¬ Give bc bv bi bn c b) g' w → PS ver N Fin s PB g w
  | recv {s : St} {PB : Nat → Prop} {g : Goroutine} {w : World} (c bc : Nat) (z : Value) : g.status = .running → s.cs[s.cur]? = some (c, bc) → s.got = false →
      (∀ w₁, RelyC PB s.rd w w₁ → stepG Try.prog true g w₁ = .comm g #[rcase c z] true (.recv true) w₁ #[]) →
      (∀ V w₁, Sl V → RelyC PB s.rd w w₁ → PS ver N Fin (s.take V) PB (Go.Conc.served g (recvd true V true)) w₁) → PS ver N Fin s PB g w
  | shut {s : St} {PB : Nat → Prop} {g : Goroutine} {w : World} (c bc : Nat) (z : Value) : g.status = .running → s.cs[s.cur]? = some (c, bc) → s.got = true →
      (∀ w₁, RelyC PB s.rd w w₁ → stepG Try.prog true g w₁ = .comm g #[rcase c z] true (.recv true) w₁ #[]) →
      (∀ w₁, RelyC PB s.rd w w₁ → PS ver N Fin s.next PB (Go.Conc.served g (recvd true z false)) w₁) → PS ver N Fin s PB g w
  | fin {s : St} {PB : Nat → Prop} {g : Goroutine} {w : World} : g.status = .running → s.cur = s.cs.length → s.got = false → (∀ w₁, RelyC PB s.rd w w₁ → Fin s PB g w₁) → PS ver N Fin s PB g w

theorem PS.one {ver : Value} {N : Nat} {Fin : St → (Nat → Prop) → Goroutine → World → Prop} {s : St} {PB : Nat → Prop} {g : Goroutine} {w : World} (h1 : g.status = .running)
    (h : ∀ w₁, RelyC PB s.rd w w₁ → ∃ g' w' es, stepG Try.prog true g w₁ = .go g' w' es ∧ (GuarC PB s.rd w₁ w' es ∧ NoObj es) ∧ PS ver N Fin s (grow PB w₁ w') g' w') : PS ver N Fin s PB g w := by
  refine .go h1 (fun W₁ k => ?_) fun W₁ g' W' es k e => ?_
  · obtain ⟨g', W', es, e, hg, _⟩ := h W₁ k
    exact ⟨g', W', es, e, hg⟩
  · obtain ⟨g2, W2, es2, e2, _, hc⟩ := h W₁ k
    rw [e] at e2
    cases e2
    exact hc

def Kid.rd (x : Kid) : Nat → Prop := RdB x.bc x.bv x.bi x.bn
def Kid.all (x : Kid) (b : Nat) : Prop := x.O b ∨ x.rd b ∨ b = x.c
def Kid.kt (x : Kid) : KidT := ⟨x.O, x.rd, x.c⟩
/-- Whom the trace still keeps: those that the caller has not heard out. -/
def kidMap (cur : Nat) (kids : List Kid) (d : Nat) : Option KidT := if d ≤ cur then none else (kids[d - 1]?).map Kid.kt

/-- The channel of a child that has sent. -/
def ChS (s : St) (k c : Nat) (cl : Bool) (V : Value) (tm : Bool) (w : World) : Prop :=
  (s.has k → w.heap[c]? = some (.chan 1 #[] cl 1 1 tm) ∧ s.vs[k]? = some V) ∧ (¬ s.has k → w.heap[c]? = some (.chan 1 #[V] cl 1 0 tm))

def KidS (Post : Nat → Value → World → Prop) (s : St) (k : Nat) (x : Kid) (w : World) (t : Trace) : Prop :=
  match x.st with
  | .work => ¬ s.has k ∧ Ch Try.prog x.c x.rd (Post k) (Sent x.bc) x.O x.g x.W ∧ RelyC x.O x.rd x.W w ∧ ∃ tm, w.heap[x.c]? = some (.chan 1 #[] false 0 0 tm)
  | .aft j => Aft x.bc x.c j x.g ∧ ¬ k < s.cur ∧ ∃ V tm, PostAt (Post k) x.O V w ∧ ChS s k x.c false V tm w
  | .leave q => QuitsIn Try.prog q x.g ∧ (∃ V tm, PostAt (Post k) x.O V w ∧ ChS s k x.c true V tm w) ∧
      (¬ k < s.cur → ∃ p, t.act? p = some (.close x.c) ∧ t.g? p = some (k + 1) ∧ ∀ i a, touchAt t i = some a → t.g? i = some (k + 1) → i < p)

structure KidI (B0 : Nat) (Post : Nat → Value → World → Prop) (s : St) (k : Nat) (x : Kid) (w : World) (t : Trace) : Prop where
  lo : ∀ b, x.all b → B0 ≤ b ∧ b < w.heap.size
  self : ∀ b, x.O b → ¬ x.rd b ∧ b ≠ x.c
  selfc : ¬ x.rd x.c
  box : w.heap[x.bc]? = some (.cells #[.chan (some x.c)] 121)
  st : KidS Post s k x w t

structure Inv (B0 : Nat) (W0 : World) (Post : Nat → Value → World → Prop) (s : St) (PB : Nat → Prop) (kids : List Kid) (gs : Array Goroutine) (w : World) (t : Trace) : Prop where
  size : gs.size = kids.length + 1
  kid : ∀ (k : Nat) (x : Kid), kids[k]? = some x → gs[k + 1]? = some x.g ∧ KidI B0 Post s k x w t
  link : s.cs = kids.map fun x => (x.c, x.bc)
  cur : s.cur ≤ kids.length
  got : s.got = true → s.cur < kids.length
  vs : s.vs.length = s.cur + (if s.got = true then 1 else 0)
  apart : ∀ (k l : Nat) (x y : Kid) (b : Nat), kids[k]? = some x → kids[l]? = some y → k ≠ l → x.all b → ¬ y.all b
  pb : ∀ b, PB b → B0 ≤ b ∧ b < w.heap.size ∧ ∀ (k : Nat) (x : Kid), kids[k]? = some x → ¬ x.all b
  tr : TrI t (kidMap s.cur kids)
  low : ∀ i a b, touchAt t i = some a → blockOf a.loc = some b → b < w.heap.size
  pbobj : ∀ i a b, touchAt t i = some a → a.loc = .obj b → ¬ PB b
  base : ∀ b, b < B0 → w.heap[b]? = W0.heap[b]?
  b0 : B0 ≤ w.heap.size
  glob : Try.prog.globals.size ≤ B0
  tape : w.tape = W0.tape
  os : w.os = W0.os
  output : w.output = W0.output

section
variable {B0 : Nat} {W0 : World} {Post : Nat → Value → World → Prop} {s : St} {PB : Nat → Prop} {kids : List Kid} {gs : Array Goroutine} {w w' : World} {t u : Trace} {k : Nat} {x x' : Kid}

theorem PostAt.keep {Post : Value → World → Prop} {O : Nat → Prop} {V : Value} {W W' : World} (h : PostAt Post O V W) (hk : ∀ b, O b → W'.heap[b]? = W.heap[b]?) : PostAt Post O V W' := fun W2 h2 => h W2 fun b hb => (h2 b hb).trans (hk b hb)

theorem touch_new {t u : Trace} {i : Nat} {a : Touch} (h : touchAt (t ++ u) i = some a) : (touchAt t i = some a ∧ i < t.size) ∨ (t.size ≤ i ∧ ∃ op ∈ u, (t ++ u)[i]? = some op ∧ op.act.touch? = some a) := (touchAt_cases h).imp (fun h => ⟨h.2, h.1⟩) id

/-- The place of a child's close stays what it is while others act, and while it acts without a touch. -/
theorem close_app {c p γ : Nat} (h1 : t.act? p = some (.close c)) (h2 : t.g? p = some γ) (h3 : ∀ i a, touchAt t i = some a → t.g? i = some γ → i < p) (hu : ∀ op ∈ u, op.g ≠ γ ∨ op.act.touch? = none) :
    (t ++ u).act? p = some (.close c) ∧ (t ++ u).g? p = some γ ∧ ∀ i a, touchAt (t ++ u) i = some a → (t ++ u).g? i = some γ → i < p := by
  have hp := lt_of_act? h1
  refine ⟨by rw [act?_old hp]; exact h1, g?_old' h2, fun i a ha hg => ?_⟩
  rcases touchAt_cases ha with ⟨hi, ha'⟩ | ⟨hi, op, ho, hio, hta⟩
  · rcases g?_append_cases hg with ⟨_, hg'⟩ | ⟨hge, _⟩
    · exact h3 i a ha' hg'
    · omega
  · exfalso
    have : op.g = γ := by
      unfold Trace.g? at hg
      rw [hio] at hg
      simpa using hg
    rcases hu op ho with h | h
    · exact h this
    · rw [h] at hta; cases hta

theorem KidI.frame (h : KidI B0 Post s k x w t) (hs : w.heap.size ≤ w'.heap.size) (hk : ∀ b, x.all b → w'.heap[b]? = w.heap[b]?) (hu : ∀ op ∈ u, op.g ≠ k + 1 ∨ op.act.touch? = none) : KidI B0 Post s k x w' (t ++ u) := by
  have hO : ∀ b, x.O b → w'.heap[b]? = w.heap[b]? := fun b hb => hk b (.inl hb)
  have hc : w'.heap[x.c]? = w.heap[x.c]? := hk _ (.inr (.inr rfl))
  have hch : ∀ {cl V tm}, ChS s k x.c cl V tm w → ChS s k x.c cl V tm w' := fun h => ⟨fun q => by rw [hc]; exact h.1 q, fun q => by rw [hc]; exact h.2 q⟩
  refine ⟨fun b hb => ⟨(h.lo b hb).1, Nat.lt_of_lt_of_le (h.lo b hb).2 hs⟩, h.self, h.selfc, by rw [hk _ (.inr (.inl (.inl rfl)))]; exact h.box, ?_⟩
  have hst := h.st
  unfold KidS at hst ⊢
  cases hx : x.st with
  | work =>
    rw [hx] at hst
    obtain ⟨h1, h2, h3, tm, h4⟩ := hst
    exact ⟨h1, h2, h3.trans ⟨hs, fun b hb => hk b (hb.imp id .inl)⟩, tm, by rw [hc]; exact h4⟩
  | aft j =>
    rw [hx] at hst
    obtain ⟨h1, h2, V, tm, h3, h4⟩ := hst
    exact ⟨h1, h2, V, tm, h3.keep hO, hch h4⟩
  | leave q =>
    rw [hx] at hst
    obtain ⟨h1, ⟨V, tm, h3, h4⟩, h5⟩ := hst
    refine ⟨h1, ⟨V, tm, h3.keep hO, hch h4⟩, fun hk => ?_⟩
    obtain ⟨p, p1, p2, p3⟩ := h5 hk
    exact ⟨p, close_app p1 p2 p3 hu⟩

theorem KidI.status (h : KidI B0 Post s k x w t) : x.g.status = .running ∨ x.g.status = .finished := by
  have hst := h.st
  unfold KidS at hst
  cases hx : x.st with
  | work => rw [hx] at hst; exact .inl hst.2.1.running
  | aft j => rw [hx] at hst; exact .inl hst.1.running
  | leave q =>
    rw [hx] at hst
    cases q with
    | zero => exact .inr hst.1
    | succ q => exact hst.1.elim .inr fun y => .inl y.1

theorem KidI.acc (h : KidI B0 Post s k x w t) : Acc Kid.lt x := by
  have hst := h.st
  unfold KidS at hst
  cases hx : x.st with
  | work => rw [hx] at hst; exact acc_work hst.2.1 x hx rfl rfl rfl rfl
  | aft j => exact acc_aft j x hx
  | leave q => exact acc_leave q x hx

theorem Inv.acc (h : Inv B0 W0 Post s PB kids gs w t) : Acc (LL Kid.lt) kids := by
  refine acc_list fun a ha => ?_
  obtain ⟨k, hk⟩ := List.getElem?_of_mem ha
  exact (h.kid k a hk).2.acc

/-- Only the count of draws has turned. -/
theorem Inv.at (h : Inv B0 W0 Post s PB kids gs w t) (d : Nat) : Inv B0 W0 Post s PB kids gs (w.at d) t := by
  refine ⟨h.size, fun k x hk => ⟨(h.kid k x hk).1, ?_⟩, h.link, h.cur, h.got, h.vs, h.apart, h.pb, h.tr, h.low, h.pbobj, h.base, h.b0, h.glob, h.tape, h.os, h.output⟩
  have := (h.kid k x hk).2.frame (w' := w.at d) (u := #[]) (Nat.le_refl _) (fun _ _ => rfl) (by simp)
  simpa using this

theorem kids_set_get {l : Nat} {y : Kid} (h : (kids.set k x')[l]? = some y) : (l = k ∧ y = x' ∧ k < kids.length) ∨ (l ≠ k ∧ kids[l]? = some y) := by
  rw [List.getElem?_set] at h
  split at h
  · rename_i e
    split at h
    · cases h; exact .inl ⟨e.symm, rfl, by omega⟩
    · cases h
  · rename_i e; exact .inr ⟨fun q => e q.symm, h⟩

/-- A CHILD's STEP, in general: it turns nothing but what is its own. -/
theorem Inv.kid_to (h : Inv B0 W0 Post s PB kids gs w t) {gs' : Array Goroutine} (hk : kids[k]? = some x) (hc : x'.c = x.c) (hbc : x'.bc = x.bc) (hrd : x'.rd = x.rd) (hO : ∀ b, x.O b → x'.O b) (hnew : ∀ b, x'.O b → ¬ x.O b → w.heap.size ≤ b ∧ b < w'.heap.size)
    (hsz : w.heap.size ≤ w'.heap.size) (hkeep : ∀ b, b < w.heap.size → ¬ x.all b → w'.heap[b]? = w.heap[b]?) (htape : w'.tape = w.tape) (hos : w'.os = w.os) (hout : w'.output = w.output)
    (hu : ∀ op ∈ u, op.g = k + 1 ∨ op.act.touch? = none) (hlow : ∀ op ∈ u, ∀ a b, op.act.touch? = some a → blockOf a.loc = some b → b < w'.heap.size ∧ ¬ PB b)
    (hI : KidI B0 Post s k x' w' (t ++ u)) (hgs : gs'.size = gs.size) (hgk : gs'[k + 1]? = some x'.g) (hgo : ∀ j, j ≠ k → gs'[j + 1]? = gs[j + 1]?)
    (hT : TrI (t ++ u) (kidMap s.cur (kids.set k x'))) : Inv B0 W0 Post s PB (kids.set k x') gs' w' (t ++ u) := by
  have hall : ∀ b, x'.all b → x.all b ∨ (w.heap.size ≤ b ∧ b < w'.heap.size) := by
    intro b hb
    unfold Kid.all at hb ⊢
    rw [hrd, hc] at hb
    rcases hb with hb | hb
    · by_cases hx : x.O b
      · exact .inl (.inl hx)
      · exact .inr (hnew b hb hx)
    · exact .inl (.inr hb)
  have hlen : k < kids.length := (List.getElem?_eq_some_iff.1 hk).1
  have ap : ∀ l y b, kids[l]? = some y → l ≠ k → x'.all b → ¬ y.all b := by
    intro l y b hy hne hb hyb
    rcases hall b hb with hb | hb
    · exact h.apart k l x y b hk hy (Ne.symm hne) hb hyb
    · have := ((h.kid l y hy).2.lo b hyb).2
      omega
  refine ⟨by rw [hgs, h.size, List.length_set], fun l y hl => ?_, ?_, by rw [List.length_set]; exact h.cur, fun q => by rw [List.length_set]; exact h.got q, h.vs, fun l m y z b hl hm hne hy => ?_, fun b hb => ?_, hT, fun i a b ha hb => ?_, fun i a b ha hb => ?_, fun b hb => ?_, Nat.le_trans h.b0 hsz, h.glob, htape.trans h.tape, hos.trans h.os, hout.trans h.output⟩
  · rcases kids_set_get hl with ⟨rfl, rfl, _⟩ | ⟨hne, hl'⟩
    · exact ⟨hgk, hI⟩
    · refine ⟨by rw [hgo l hne]; exact (h.kid l y hl').1, (h.kid l y hl').2.frame hsz (fun b hb => hkeep b ((h.kid l y hl').2.lo b hb).2 fun hx => h.apart k l x y b hk hl' (Ne.symm hne) hx hb) fun op ho => ?_⟩
      rcases hu op ho with e | e
      · left; rw [e]; omega
      · exact .inr e
  · rw [h.link]
    apply List.ext_getElem?
    intro j
    rw [List.getElem?_map, List.getElem?_map, List.getElem?_set]
    by_cases hj : k = j
    · subst hj
      rw [if_pos rfl, if_pos hlen, hk]
      simp [hc, hbc]
    · rw [if_neg hj]
  · rcases kids_set_get hl with ⟨rfl, rfl, _⟩ | ⟨n1, l1⟩ <;> rcases kids_set_get hm with ⟨rfl, rfl, _⟩ | ⟨n2, l2⟩
    · exact absurd rfl hne
    · exact ap m z b l2 n2 hy
    · exact fun hz => ap l y b l1 n1 hz hy
    · exact h.apart l m y z b l1 l2 hne hy
  · obtain ⟨p1, p2, p3⟩ := h.pb b hb
    refine ⟨p1, Nat.lt_of_lt_of_le p2 hsz, fun l y hl => ?_⟩
    rcases kids_set_get hl with ⟨rfl, rfl, _⟩ | ⟨_, l1⟩
    · intro hx
      rcases hall b hx with hx | hx
      · exact p3 l x hk hx
      · omega
    · exact p3 l y l1
  · rcases touchAt_cases ha with ⟨_, ha'⟩ | ⟨_, op, ho, _, hta⟩
    · exact Nat.lt_of_lt_of_le (h.low i a b ha' hb) hsz
    · exact (hlow op ho a b hta hb).1
  · rcases touchAt_cases ha with ⟨_, ha'⟩ | ⟨_, op, ho, _, hta⟩
    · exact h.pbobj i a b ha' hb
    · exact (hlow op ho a b hta (by rw [hb]; rfl)).2
  · rw [hkeep b (Nat.lt_of_lt_of_le hb h.b0) fun hx => ?_, h.base b hb]
    have := ((h.kid k x hk).2.lo b hx).1
    omega
end
end Go.Proofs.Ytlndinigbppafaa
