/-
  Texts of ours, joined: McA, McB, McC, McD, McE, McF, McG, McH, McI, McJ, McK, PsA.
-/
import Derived.Test.YtlndinigbppafaaChF
import Derived.Conc.Beside
import Derived.Conc.Own4
import Derived.Conc.Listed
/-
  For the machine: a list of which one member falls; the children's rank.
-/
namespace Go.Sim

/-- One member of the list falls. -/
def LL {α : Type} (r : α → α → Prop) (l' l : List α) : Prop := ∃ pre x' x post, l' = pre ++ x' :: post ∧ l = pre ++ x :: post ∧ r x' x

theorem acc_cons {α : Type} {r : α → α → Prop} {a : α} (ha : Acc r a) : ∀ {l : List α}, Acc (LL r) l → Acc (LL r) (a :: l) := by
  induction ha with
  | intro a _ iha =>
    intro l hl
    induction hl with
    | intro l hl ihl =>
      refine Acc.intro _ fun m hm => ?_
      obtain ⟨pre, x', x, post, e1, e2, h⟩ := hm
      cases pre with
      | nil =>
        simp only [List.nil_append, List.cons.injEq] at e2
        obtain ⟨rfl, rfl⟩ := e2
        rw [e1]
        exact iha x' h (Acc.intro _ hl)
      | cons p pre =>
        simp only [List.cons_append, List.cons.injEq] at e2
        obtain ⟨rfl, rfl⟩ := e2
        rw [e1]
        exact ihl _ ⟨pre, x', x, post, rfl, rfl, h⟩
theorem acc_nil {α : Type} (r : α → α → Prop) : Acc (LL r) ([] : List α) := Acc.intro _ fun m hm => by
  obtain ⟨pre, x', x, post, _, e2, _⟩ := hm
  cases pre <;> cases e2
theorem acc_list {α : Type} {r : α → α → Prop} : ∀ {l : List α}, (∀ a ∈ l, Acc r a) → Acc (LL r) l
  | [], _ => acc_nil r
  | _ :: _, h => acc_cons (h _ (List.mem_cons_self ..)) (acc_list fun a ha => h a (List.mem_cons_of_mem _ ha))
theorem LL.set {α : Type} {r : α → α → Prop} {l : List α} {k : Nat} {x x' : α} (h : l[k]? = some x) (hr : r x' x) : LL r (l.set k x') l := by
  obtain ⟨hlt, rfl⟩ := List.getElem?_eq_some_iff.1 h
  exact ⟨l.take k, x', l[k], l.drop (k + 1), by rw [List.set_eq_take_append_cons_drop, if_pos hlt], by simp, hr⟩
end Go.Sim

namespace Go.Proofs.Ytlndinigbppafaa
open Go.Sim Go.Conc

inductive Stage
  | work | aft (j : Nat) | leave (q : Nat)

/-- What is kept of a child: its channel, its boxes, what it owns, its record, the world at its last own step. -/
structure Kid where
  c : Nat
  bc : Nat
  bv : Nat
  bi : Nat
  bn : Nat
  O : Nat → Prop
  g : Goroutine
  W : World
  st : Stage

/-- A child's own step makes it less. -/
def Kid.lt (x' x : Kid) : Prop := match x.st, x'.st with
  | .work, .work => x'.c = x.c ∧ x'.bc = x.bc ∧ x'.bv = x.bv ∧ x'.bi = x.bi ∧ x'.bn = x.bn ∧ ∃ W₁ es, RelyC x.O (RdB x.bc x.bv x.bi x.bn) x.W W₁ ∧ stepG Try.prog false x.g W₁ = .go x'.g x'.W es ∧ x'.O = grow x.O W₁ x'.W
  | .work, _ => True
  | .aft j, .aft j' => j' < j
  | .aft _, .leave _ => True
  | .leave q, .leave q' => q' < q
  | _, _ => False

theorem acc_leave : ∀ (q : Nat) (x : Kid), x.st = .leave q → Acc Kid.lt x := by
  intro q
  induction q using Nat.strongRecOn with
  | _ q ih =>
    intro x hx
    refine Acc.intro _ fun y hy => ?_
    unfold Kid.lt at hy
    rw [hx] at hy
    cases hs : y.st with
    | work => rw [hs] at hy; exact hy.elim
    | aft j => rw [hs] at hy; exact hy.elim
    | leave q' => rw [hs] at hy; exact ih q' hy y hs
theorem acc_aft : ∀ (j : Nat) (x : Kid), x.st = .aft j → Acc Kid.lt x := by
  intro j
  induction j using Nat.strongRecOn with
  | _ j ih =>
    intro x hx
    refine Acc.intro _ fun y hy => ?_
    unfold Kid.lt at hy
    rw [hx] at hy
    cases hs : y.st with
    | work => rw [hs] at hy; exact hy.elim
    | aft j' => rw [hs] at hy; exact ih j' hy y hs
    | leave q' => exact acc_leave q' y hs
theorem acc_work {c : Nat} {Rd : Nat → Prop} {Post : Value → World → Prop} {Then : Goroutine → Prop} {O : Nat → Prop} {g : Goroutine} {W : World} (h : Ch Try.prog c Rd Post Then O g W) :
    ∀ x : Kid, x.st = .work → x.O = O → x.g = g → x.W = W → Rd = RdB x.bc x.bv x.bi x.bn → Acc Kid.lt x := by
  induction h with
  | @go O g W h1 h2 h3 ih =>
    intro x hx e1 e2 e3 e4
    refine Acc.intro _ fun y hy => ?_
    unfold Kid.lt at hy
    rw [hx] at hy
    cases hs : y.st with
    | work =>
      rw [hs] at hy
      obtain ⟨_, b1, b2, b3, b4, W₁, es, hr, hst, hO⟩ := hy
      subst e1; subst e2; subst e3; subst e4
      exact ih W₁ y.g y.W es hr hst y hs hO rfl rfl (by rw [b1, b2, b3, b4])
    | aft j => exact acc_aft j y hs
    | leave q => exact acc_leave q y hs
  | @send O g W h1 h2 =>
    intro x hx e1 e2 e3 e4
    refine Acc.intro _ fun y hy => ?_
    unfold Kid.lt at hy
    rw [hx] at hy
    cases hs : y.st with
    | work =>
      rw [hs] at hy
      obtain ⟨_, _, _, _, _, W₁, es, hr, hst, _⟩ := hy
      subst e1; subst e2; subst e3; subst e4
      obtain ⟨g₂, V, z, hc, _⟩ := h2 W₁ hr
      rw [hc] at hst
      cases hst
    | aft j => exact acc_aft j y hs
    | leave q => exact acc_leave q y hs
end Go.Proofs.Ytlndinigbppafaa

/-
  The trace in a phase: who knows what.
-/
namespace Go.Sim
open Go.Conc

def blockOf : Loc → Option Nat
  | .cell a => some a.block
  | .obj r => some r
  | _ => none

/-- What the trace keeps of a child. -/
structure KidT where
  O : Nat → Prop
  Rd : Nat → Prop
  c : Nat

/-- Whose touch it may be, of a child that is not known through yet. -/
def KidT.may (x : KidT) (a : Touch) : Prop := ∃ b, blockOf a.loc = some b ∧ (x.O b ∨ (x.Rd b ∧ a.write = false) ∨ (a.loc = .obj x.c ∧ a.kind = .atomic))

structure TrI (t : Trace) (kid : Nat → Option KidT) : Prop where
  wl : Wordless t
  clean : ∀ said, ¬ Race said t
  touch : ∀ i a, touchAt t i = some a → a.loc.isMemory = true → Knows t 0 i ∨ ∃ γ x, kid γ = some x ∧ t.g? i = some γ ∧ x.may a
  own : ∀ γ x i a b, kid γ = some x → touchAt t i = some a → blockOf a.loc = some b → x.O b → t.g? i = some γ
  wr : ∀ γ x i a b, kid γ = some x → touchAt t i = some a → blockOf a.loc = some b → x.Rd b → a.write = true → Knows t γ i
  chan : ∀ γ x i a, kid γ = some x → touchAt t i = some a → a.loc = .obj x.c → a.kind = .atomic
  nokid0 : kid 0 = none
  apart : ∀ γ γ' x x' b, kid γ = some x → kid γ' = some x' → γ ≠ γ' → x.O b → ¬ x'.O b ∧ ¬ x'.Rd b
  apartOwn : ∀ γ x b, kid γ = some x → x.O b → ¬ x.Rd b ∧ b ≠ x.c

theorem knows_self {t : Trace} {i g : Nat} (h : t.g? i = some g) : Knows t g i := by
  unfold Trace.g? at h
  obtain ⟨z, hz, rfl⟩ := Option.map_eq_some_iff.1 h
  exact knows_own hz

theorem g?_old' {t u : Trace} {i g : Nat} (h : t.g? i = some g) : (t ++ u).g? i = some g := by
  unfold Trace.g? at h ⊢
  obtain ⟨z, hz, rfl⟩ := Option.map_eq_some_iff.1 h
  rw [getElem?_append_old (lt_size_of_getElem? hz), hz]
  rfl

theorem isMem_block {l : Loc} (h : l.isMemory = true) : ∃ b, blockOf l = some b := by
  cases l with
  | cell a => exact ⟨a.block, rfl⟩
  | obj r => exact ⟨r, rfl⟩
  | output => cases h
  | goroutines => cases h
  | mark m => cases h

theorem touchAt_cases {t u : Trace} {i : Nat} {a : Touch} (h : touchAt (t ++ u) i = some a) : (i < t.size ∧ touchAt t i = some a) ∨ (t.size ≤ i ∧ ∃ op ∈ u, (t ++ u)[i]? = some op ∧ op.act.touch? = some a) := by
  by_cases hi : i < t.size
  · exact .inl ⟨hi, by rw [touchAt_old hi] at h; exact h⟩
  · refine .inr ⟨by omega, ?_⟩
    obtain ⟨x, hx, hxa⟩ := touch_of h
    rcases getElem?_append_cases hx with ⟨hj, _⟩ | ⟨_, hu⟩
    · omega
    · exact ⟨x, hu, hx, hxa⟩

/-- THE CALLER's OWN STEP: it touches no block of a child's, and writes none that a child reads. -/
theorem TrI.own0 {t u : Trace} {kid : Nat → Option KidT} (h : TrI t kid) (hu : ∀ op ∈ u, op.g = 0) (hw : Wordless u)
    (hb : ∀ op ∈ u, ∀ a, op.act.touch? = some a → a.loc.isMemory = true → ∃ b, blockOf a.loc = some b ∧ a.kind = .plain ∧ ∀ γ x, kid γ = some x → ¬ x.O b ∧ (x.Rd b → a.write = false) ∧ b ≠ x.c) : TrI (t ++ u) kid := by
  have new : ∀ {i : Nat} {a : Touch} {op : MemOp}, op ∈ u → (t ++ u)[i]? = some op → Knows (t ++ u) 0 i := fun {i a op} ho hi => by
    have := knows_own hi
    rw [hu _ ho] at this
    exact this
  refine ⟨h.wl.append hw, fun said => noRace_append (h.clean said) hu fun i a ha op hop b hopb hc => ?_, fun i a ha hm => ?_, fun γ x i a b hk ha hbl hO => ?_, fun γ x i a b hk ha hbl hR hwr => ?_, fun γ x i a hk ha hl => ?_, h.nokid0, h.apart, h.apartOwn⟩
  · obtain ⟨hloc, hmem, hwr, hkd⟩ := hc
    rcases h.touch i a ha hmem with hk | ⟨γ, x, hk, hg, bl, hbl, hmay⟩
    · exact hk
    · exfalso
      obtain ⟨b', hb', hpl, hno⟩ := hb op hop b hopb (by rw [← hloc]; exact hmem)
      rw [hloc] at hbl
      rw [hb'] at hbl
      cases hbl
      obtain ⟨n1, n2, n3⟩ := hno γ x hk
      rcases hmay with hm | ⟨hm, hw'⟩ | ⟨hm, hat⟩
      · exact n1 hm
      · rcases hwr with e | e
        · rw [hw'] at e; cases e
        · rw [n2 hm] at e; cases e
      · apply n3
        rw [hloc] at hm
        rw [hm] at hb'
        simpa [blockOf] using hb'.symm
  · rcases touchAt_cases ha with ⟨hi, ha'⟩ | ⟨_, op, ho, hi, _⟩
    · rcases h.touch i a ha' hm with hk | ⟨γ, x, hk, hg, hmay⟩
      · exact .inl (hk.app u)
      · exact .inr ⟨γ, x, hk, g?_old' hg, hmay⟩
    · exact .inl (new (a := a) ho hi)
  · rcases touchAt_cases ha with ⟨hi, ha'⟩ | ⟨_, op, ho, hi, hta⟩
    · exact g?_old' (h.own γ x i a b hk ha' hbl hO)
    · exfalso
      have hm : a.loc.isMemory = true := by cases hl : a.loc <;> rw [hl] at hbl <;> first | rfl | cases hbl
      obtain ⟨b', hb', _, hno⟩ := hb op ho a hta hm
      rw [hbl] at hb'; cases hb'
      exact (hno γ x hk).1 hO
  · rcases touchAt_cases ha with ⟨hi, ha'⟩ | ⟨_, op, ho, hi, hta⟩
    · exact (h.wr γ x i a b hk ha' hbl hR hwr).app u
    · exfalso
      have hm : a.loc.isMemory = true := by cases hl : a.loc <;> rw [hl] at hbl <;> first | rfl | cases hbl
      obtain ⟨b', hb', _, hno⟩ := hb op ho a hta hm
      rw [hbl] at hb'; cases hb'
      rw [(hno γ x hk).2.1 hR] at hwr; cases hwr
  · rcases touchAt_cases ha with ⟨hi, ha'⟩ | ⟨_, op, ho, hi, hta⟩
    · exact h.chan γ x i a hk ha' hl
    · exfalso
      obtain ⟨b', hb', _, hno⟩ := hb op ho a hta (by rw [hl]; rfl)
      rw [hl] at hb'
      cases hb'
      exact (hno γ x hk).2.2 rfl
end Go.Sim

/-
  The trace in a phase: a child's own step, its birth, its end.
-/
namespace Go.Sim
open Go.Conc

/-- A CHILD's OWN STEP: plain touches of what is its own, reads of what it may read; or atomic touches of its channel's block. The second O: what is its own behind it; what is new there nobody has touched. -/
theorem TrI.ownK {t u : Trace} {kid kid' : Nat → Option KidT} {γ : Nat} {x : KidT} {O' : Nat → Prop} (h : TrI t kid) (hk : kid γ = some x) (hkid : kid' = fun d => if d = γ then some { x with O := O' } else kid d)
    (hu : ∀ op ∈ u, op.g = γ) (hw : Wordless u) (hO : ∀ b, x.O b → O' b)
    (hnew : ∀ b, O' b → ¬ x.O b → (∀ i a, touchAt t i = some a → blockOf a.loc ≠ some b) ∧ (∀ d y, kid d = some y → ¬ y.O b ∧ ¬ y.Rd b ∧ b ≠ y.c))
    (hb : ∀ op ∈ u, ∀ a, op.act.touch? = some a → a.loc.isMemory = true → (∃ b, blockOf a.loc = some b ∧ a.kind = .plain ∧ (O' b ∨ (x.Rd b ∧ a.write = false)) ∧ ∀ d y, kid d = some y → b ≠ y.c) ∨ (a.loc = .obj x.c ∧ a.kind = .atomic ∧ a.write = false))
    (hchan : ∀ d y, kid d = some y → d ≠ γ → ¬ y.O x.c ∧ ¬ y.Rd x.c ∧ y.c ≠ x.c) : TrI (t ++ u) kid' := by
  have at' : ∀ d y, kid' d = some y → (d = γ ∧ y = { x with O := O' }) ∨ (d ≠ γ ∧ kid d = some y) := by
    intro d y hd
    rw [hkid] at hd
    dsimp only at hd
    by_cases e : d = γ
    · rw [if_pos e] at hd; cases hd; exact .inl ⟨e, rfl⟩
    · rw [if_neg e] at hd; exact .inr ⟨e, hd⟩
  have hγ0 : γ ≠ 0 := fun e => by rw [e, h.nokid0] at hk; cases hk
  have kγ : kid' γ = some { x with O := O' } := by rw [hkid]; simp
  have gnew : ∀ {i : Nat} {op : MemOp}, op ∈ u → (t ++ u)[i]? = some op → (t ++ u).g? i = some γ := fun {i op} ho hi => by
    unfold Trace.g?
    rw [hi]
    simp [hu op ho]
  have memOf : ∀ {l : Loc} {b : Nat}, blockOf l = some b → l.isMemory = true := by intro l b hl; cases l <;> first | rfl | cases hl
  refine ⟨h.wl.append hw, fun said => noRace_append (h.clean said) hu fun i a ha op hop b hopb hc => ?_, fun i a ha hm => ?_, fun d y i a b hd ha hbl hOb => ?_, fun d y i a b hd ha hbl hR hwr => ?_, fun d y i a hd ha hl => ?_, ?_, ?_, ?_⟩
  · -- no race
    obtain ⟨hloc, hmem, hwr, hkd⟩ := hc
    rcases hb op hop b hopb (by rw [← hloc]; exact hmem) with ⟨bl, hbl, hpl, hwhich, hnc⟩ | ⟨hob, hat, hrd⟩
    · rcases hwhich with hO' | ⟨hR, hrd⟩
      · by_cases hx : x.O bl
        · exact knows_self (h.own γ x i a bl hk ha (by rw [hloc]; exact hbl) hx)
        · exact absurd (by rw [hloc]; exact hbl) ((hnew bl hO' hx).1 i a ha)
      · rcases hwr with e | e
        · exact h.wr γ x i a bl hk ha (by rw [hloc]; exact hbl) hR e
        · rw [hrd] at e; cases e
    · -- an atomic touch of its channel's block: only a plain one could conflict
      exfalso
      have := h.chan γ x i a hk ha (by rw [hloc]; exact hob)
      rcases hkd with e | e | ⟨_, e, _⟩
      · rw [this] at e; cases e
      · rw [hat] at e; cases e
      · rw [this] at e; cases e
  · rcases touchAt_cases ha with ⟨hi, ha'⟩ | ⟨_, op, ho, hi, hta⟩
    · rcases h.touch i a ha' hm with hk' | ⟨d, y, hd, hg, hmay⟩
      · exact .inl (hk'.app u)
      · refine .inr ?_
        by_cases e : d = γ
        · subst e
          rw [hk] at hd; cases hd
          obtain ⟨b, hb1, hb2⟩ := hmay
          exact ⟨d, _, kγ, g?_old' hg, b, hb1, hb2.imp (hO b) id⟩
        · exact ⟨d, y, by rw [hkid]; simp [e, hd], g?_old' hg, hmay⟩
    · refine .inr ⟨γ, _, kγ, gnew ho hi, ?_⟩
      rcases hb op ho a hta hm with ⟨bl, hbl, _, hwhich, _⟩ | ⟨hob, hat, _⟩
      · exact ⟨bl, hbl, hwhich.imp id .inl⟩
      · exact ⟨x.c, by rw [hob]; rfl, .inr (.inr ⟨hob, hat⟩)⟩
  · rcases at' d y hd with ⟨rfl, rfl⟩ | ⟨hne, hd'⟩
    · rcases touchAt_cases ha with ⟨hi, ha'⟩ | ⟨_, op, ho, hi, hta⟩
      · by_cases hx : x.O b
        · exact g?_old' (h.own _ x i a b hk ha' hbl hx)
        · exact absurd hbl ((hnew b hOb hx).1 i a ha')
      · exact gnew ho hi
    · rcases touchAt_cases ha with ⟨hi, ha'⟩ | ⟨_, op, ho, hi, hta⟩
      · exact g?_old' (h.own d y i a b hd' ha' hbl hOb)
      · exfalso
        rcases hb op ho a hta (memOf hbl) with ⟨bl, hbl', _, hwhich, _⟩ | ⟨hob, _, _⟩
        · rw [hbl] at hbl'; cases hbl'
          rcases hwhich with hO' | ⟨hR, _⟩
          · by_cases hx : x.O b
            · exact (h.apart d γ y x b hd' hk hne hOb).1 hx
            · exact ((hnew b hO' hx).2 d y hd').1 hOb
          · exact (h.apart d γ y x b hd' hk hne hOb).2 hR
        · rw [hob] at hbl; cases hbl
          exact (hchan d y hd' hne).1 hOb
  · rcases at' d y hd with ⟨rfl, rfl⟩ | ⟨hne, hd'⟩
    · rcases touchAt_cases ha with ⟨hi, ha'⟩ | ⟨_, op, ho, hi, hta⟩
      · exact (h.wr _ x i a b hk ha' hbl hR hwr).app u
      · exact knows_self (gnew ho hi)
    · rcases touchAt_cases ha with ⟨hi, ha'⟩ | ⟨_, op, ho, hi, hta⟩
      · exact (h.wr d y i a b hd' ha' hbl hR hwr).app u
      · exfalso
        rcases hb op ho a hta (memOf hbl) with ⟨bl, hbl', _, hwhich, _⟩ | ⟨hob, _, hrd⟩
        · rw [hbl] at hbl'; cases hbl'
          rcases hwhich with hO' | ⟨_, hrd⟩
          · by_cases hx : x.O b
            · exact (h.apart γ d x y b hk hd' (fun e => hne e.symm) hx).2 hR
            · exact ((hnew b hO' hx).2 d y hd').2.1 hR
          · rw [hrd] at hwr; cases hwr
        · rw [hrd] at hwr; cases hwr
  · have key : ∀ y', kid d = some y' → y'.c = y.c → (d = γ → y'.c = x.c) → a.kind = .atomic := by
      intro y' hd' hcc _
      rcases touchAt_cases ha with ⟨hi, ha'⟩ | ⟨_, op, ho, hi, hta⟩
      · exact h.chan d y' i a hd' ha' (by rw [hcc]; exact hl)
      · rcases hb op ho a hta (by rw [hl]; rfl) with ⟨bl, hbl', _, _, hnc⟩ | ⟨_, hat, _⟩
        · exfalso
          rw [hl] at hbl'; cases hbl'
          exact hnc d y' hd' hcc.symm
        · exact hat
    rcases at' d y hd with ⟨rfl, rfl⟩ | ⟨hne, hd'⟩
    · exact key x hk rfl fun _ => rfl
    · exact key y hd' rfl fun e => absurd e hne
  · rw [hkid]; simp [Ne.symm hγ0, h.nokid0]
  · intro d d' y y' b hd hd' hne hOb
    rcases at' d y hd with ⟨rfl, rfl⟩ | ⟨n1, k1⟩ <;> rcases at' d' y' hd' with ⟨rfl, rfl⟩ | ⟨n2, k2⟩
    · exact absurd rfl hne
    · by_cases hx : x.O b
      · exact h.apart _ d' x y' b hk k2 hne hx
      · exact ⟨((hnew b hOb hx).2 d' y' k2).1, ((hnew b hOb hx).2 d' y' k2).2.1⟩
    · refine ⟨fun hO2 => ?_, (h.apart d _ y x b k1 hk hne hOb).2⟩
      by_cases hx : x.O b
      · exact (h.apart d _ y x b k1 hk hne hOb).1 hx
      · exact ((hnew b hO2 hx).2 d y k1).1 hOb
    · exact h.apart d d' y y' b k1 k2 hne hOb
  · intro d y b hd hOb
    rcases at' d y hd with ⟨rfl, rfl⟩ | ⟨n1, k1⟩
    · by_cases hx : x.O b
      · exact h.apartOwn _ x b hk hx
      · exact ((hnew b hOb hx).2 _ x hk).2
    · exact h.apartOwn d y b k1 hOb
end Go.Sim

/-
  The trace in a phase: words without a touch, a child's birth, a child known through.
-/
namespace Go.Sim
open Go.Conc

theorem g?_append_cases {t u : Trace} {i g : Nat} (h : (t ++ u).g? i = some g) : (i < t.size ∧ t.g? i = some g) ∨ (t.size ≤ i ∧ ∃ op ∈ u, (t ++ u)[i]? = some op ∧ op.g = g) := by
  unfold Trace.g? at h ⊢
  obtain ⟨z, hz, rfl⟩ := Option.map_eq_some_iff.1 h
  rcases getElem?_append_cases hz with ⟨hj, hz'⟩ | ⟨hj, hu⟩
  · exact .inl ⟨hj, by rw [hz']; rfl⟩
  · exact .inr ⟨hj, z, hu, hz, rfl⟩

/-- An entry that touches nothing. -/
theorem TrI.word {t : Trace} {kid : Nat → Option KidT} (h : TrI t kid) (op : MemOp) (hn : op.act.touch? = none) (hw : Wordless #[op]) : TrI (t ++ #[op]) kid := by
  have no : ∀ {i : Nat} {a : Touch}, touchAt (t ++ #[op]) i = some a → i < t.size ∧ touchAt t i = some a := by
    intro i a ha
    rcases touchAt_cases ha with h | ⟨_, o, ho, _, hta⟩
    · exact h
    · simp at ho; subst ho; rw [hn] at hta; cases hta
  refine ⟨h.wl.append hw, fun said => noRace_append (g := op.g) (h.clean said) (by simp) fun i a ha o ho b hb => ?_, fun i a ha hm => ?_, fun γ x i a b hk ha hbl hO => ?_, fun γ x i a b hk ha hbl hR hwr => ?_, fun γ x i a hk ha hl => h.chan γ x i a hk (no ha).2 hl, h.nokid0, h.apart, h.apartOwn⟩
  · simp at ho; subst ho; rw [hn] at hb; cases hb
  · rcases h.touch i a (no ha).2 hm with hk | ⟨γ, x, hk, hg, hmay⟩
    · exact .inl (hk.app _)
    · exact .inr ⟨γ, x, hk, g?_old' hg, hmay⟩
  · exact g?_old' (h.own γ x i a b hk (no ha).2 hbl hO)
  · exact (h.wr γ x i a b hk (no ha).2 hbl hR hwr).app _

/-- A CHILD's BIRTH. -/
theorem TrI.born {t : Trace} {kid : Nat → Option KidT} (h : TrI t kid) {γ : Nat} {Rd : Nat → Prop} {c : Nat} {o1 o2 : MemOp} (h1 : o1.g = 0 ∧ o1.act = .go γ) (h2 : o2.g = γ ∧ o2.act = .start) (hγ : kid γ = none) (h0 : γ ≠ 0)
    (hR : ∀ b d y, Rd b → kid d = some y → ¬ y.O b ∧ b ≠ y.c) (hc : ∀ i a, touchAt t i = some a → a.loc ≠ .obj c) :
    TrI (t ++ #[o1] ++ #[o2]) (fun d => if d = γ then some ⟨fun _ => False, Rd, c⟩ else kid d) := by
  have w1 : Wordless #[o1] := by intro op ho m hm; simp at ho; subst ho; rw [h1.2] at hm; cases hm
  have w2 : Wordless #[o2] := by intro op ho m hm; simp at ho; subst ho; rw [h2.2] at hm; cases hm
  have T := (h.word o1 (by rw [h1.2]; rfl) w1).word o2 (by rw [h2.2]; rfl) w2
  have at' : ∀ d y, (if d = γ then some (⟨fun _ => False, Rd, c⟩ : KidT) else kid d) = some y → (d = γ ∧ y = ⟨fun _ => False, Rd, c⟩) ∨ (d ≠ γ ∧ kid d = some y) := by
    intro d y hd
    by_cases e : d = γ
    · rw [if_pos e] at hd; cases hd; exact .inl ⟨e, rfl⟩
    · rw [if_neg e] at hd; exact .inr ⟨e, hd⟩
  have no : ∀ {i : Nat} {a : Touch}, touchAt (t ++ #[o1] ++ #[o2]) i = some a → i < t.size ∧ touchAt t i = some a := by
    intro i a ha
    rcases touchAt_cases ha with ⟨_, ha⟩ | ⟨_, o, ho, _, hta⟩
    · rcases touchAt_cases ha with h | ⟨_, o, ho, _, hta⟩
      · exact h
      · simp at ho; subst ho; rw [h1.2] at hta; cases hta
    · simp at ho; subst ho; rw [h2.2] at hta; cases hta
  have e1 : (t ++ #[o1] ++ #[o2])[t.size]? = some o1 := by
    rw [getElem?_append_old (by simp)]; simp
  have e2 : (t ++ #[o1] ++ #[o2])[t.size + 1]? = some o2 := by
    have : (t ++ #[o1]).size = t.size + 1 := by simp
    rw [← this, Array.getElem?_append_right (Nat.le_refl _)]
    simp
  refine ⟨T.wl, T.clean, fun i a ha hm => ?_, fun d y i a b hd ha hbl hO => ?_, fun d y i a b hd ha hbl hRb hwr => ?_, fun d y i a hd ha hl => ?_, by simp [Ne.symm h0, h.nokid0], fun d d' y y' b hd hd' hne hO => ?_, fun d y b hd hO => ?_⟩
  · rcases T.touch i a ha hm with hk | ⟨d, y, hd, hg, hmay⟩
    · exact .inl hk
    · refine .inr ⟨d, y, ?_, hg, hmay⟩
      have : d ≠ γ := fun e => by rw [e, hγ] at hd; cases hd
      simp [this, hd]
  · rcases at' d y hd with ⟨rfl, rfl⟩ | ⟨_, hd'⟩
    · exact hO.elim
    · exact T.own d y i a b hd' ha hbl hO
  · rcases at' d y hd with ⟨rfl, rfl⟩ | ⟨_, hd'⟩
    · obtain ⟨_, ha'⟩ := no ha
      have hm : a.loc.isMemory = true := by cases hl : a.loc <;> rw [hl] at hbl <;> first | rfl | cases hbl
      have hk : Knows t 0 i := by
        rcases h.touch i a ha' hm with hk | ⟨d', y', hd', hg, b', hb', hmay⟩
        · exact hk
        · exfalso
          rw [hbl] at hb'; cases hb'
          rcases hmay with hO | ⟨_, hw⟩ | ⟨hl, _⟩
          · exact (hR b d' y' hRb hd').1 hO
          · rw [hw] at hwr; cases hwr
          · rw [hl] at hbl; cases hbl
            exact (hR _ d' y' hRb hd').2 rfl
      have k1 : Knows (t ++ #[o1] ++ #[o2]) 0 i := (hk.app _).app _
      have hb1 : HappensBefore (t ++ #[o1] ++ #[o2]) i t.size := by
        have := hk.hb_new (u := #[o1] ++ #[o2]) (j := t.size) (Nat.le_refl _) (y := o1) (by rw [← Array.append_assoc]; exact e1) h1.1
        rw [← Array.append_assoc] at this
        exact this
      have hb2 : HappensBefore (t ++ #[o1] ++ #[o2]) t.size (t.size + 1) := .single (.inr ⟨.spawn (child := d) (by simp only [Trace.act?, e1, Option.map_some, h1.2]) (by simp only [Trace.act?, e2, Option.map_some, h2.2]) (by simp only [Trace.g?, e2, Option.map_some, h2.1]), T.wl.heard e1, T.wl.heard e2⟩)
      exact ⟨t.size + 1, o2, e2, h2.1, .inr (hb1.trans hb2)⟩
    · exact T.wr d y i a b hd' ha hbl hRb hwr
  · rcases at' d y hd with ⟨rfl, rfl⟩ | ⟨_, hd'⟩
    · exact absurd hl (hc i a (no ha).2)
    · exact T.chan d y i a hd' ha hl
  · rcases at' d y hd with ⟨rfl, rfl⟩ | ⟨n1, k1⟩
    · exact hO.elim
    · rcases at' d' y' hd' with ⟨rfl, rfl⟩ | ⟨n2, k2⟩
      · exact ⟨fun x => x, fun hRb => (hR b d y hRb k1).1 hO⟩
      · exact h.apart d d' y y' b k1 k2 hne hO
  · rcases at' d y hd with ⟨rfl, rfl⟩ | ⟨n1, k1⟩
    · exact hO.elim
    · exact h.apartOwn d y b k1 hO

/-- A CHILD IS KNOWN THROUGH: the caller has found its channel closed. -/
theorem TrI.through {t : Trace} {kid : Nat → Option KidT} (h : TrI t kid) {γ p : Nat} {x : KidT} {op : MemOp} (hk : kid γ = some x) (ho : op.g = 0 ∧ op.act = .recvClosed x.c) (hp : t.act? p = some (.close x.c)) (hpg : t.g? p = some γ)
    (hall : ∀ i a, touchAt t i = some a → t.g? i = some γ → i < p) : TrI (t ++ #[op]) (fun d => if d = γ then none else kid d) := by
  have w : Wordless #[op] := by intro o hm m e; simp at hm; subst hm; rw [ho.2] at e; cases e
  have T := h.word op (by rw [ho.2]; rfl) w
  have at' : ∀ d y, (if d = γ then none else kid d) = some y → d ≠ γ ∧ kid d = some y := by
    intro d y hd
    by_cases e : d = γ
    · rw [if_pos e] at hd; cases hd
    · rw [if_neg e] at hd; exact ⟨e, hd⟩
  have eo : (t ++ #[op])[t.size]? = some op := by simp
  obtain ⟨z, hz, hzg⟩ : ∃ z, t[p]? = some z ∧ z.g = γ := by
    unfold Trace.g? at hpg
    obtain ⟨z, hz, e⟩ := Option.map_eq_some_iff.1 hpg
    exact ⟨z, hz, e⟩
  have hza : z.act = .close x.c := by
    unfold Trace.act? at hp
    rw [hz] at hp
    simpa using hp
  have ez : (t ++ #[op])[p]? = some z := by rw [getElem?_append_old (lt_size_of_getElem? hz)]; exact hz
  have hb : HappensBefore (t ++ #[op]) p t.size := .single (.inr ⟨.closed (c := x.c) (by simp only [Trace.act?, ez, Option.map_some, hza]) (by simp only [Trace.act?, eo, Option.map_some, ho.2]), T.wl.heard ez, T.wl.heard eo⟩)
  have no : ∀ {i : Nat} {a : Touch}, touchAt (t ++ #[op]) i = some a → i < t.size ∧ touchAt t i = some a := by
    intro i a ha
    rcases touchAt_cases ha with h | ⟨_, o, hm, _, hta⟩
    · exact h
    · simp at hm; subst hm; rw [ho.2] at hta; cases hta
  refine ⟨T.wl, T.clean, fun i a ha hm => ?_, fun d y i a b hd => T.own d y i a b (at' d y hd).2, fun d y i a b hd => T.wr d y i a b (at' d y hd).2, fun d y i a hd => T.chan d y i a (at' d y hd).2, ?_, fun d d' y y' b hd hd' => T.apart d d' y y' b (at' d y hd).2 (at' d' y' hd').2, fun d y b hd => T.apartOwn d y b (at' d y hd).2⟩
  · rcases T.touch i a ha hm with hk' | ⟨d, y, hd, hg, hmay⟩
    · exact .inl hk'
    · by_cases e : d = γ
      · subst e
        obtain ⟨hi, ha'⟩ := no ha
        rcases g?_append_cases hg with ⟨_, hg'⟩ | ⟨hge, _⟩
        · have hlt := hall i a ha' hg'
          obtain ⟨zi, hzi, hzig⟩ : ∃ z, t[i]? = some z ∧ z.g = d := by
            unfold Trace.g? at hg'
            obtain ⟨z, hz, e⟩ := Option.map_eq_some_iff.1 hg'
            exact ⟨z, hz, e⟩
          have h1 : HappensBefore (t ++ #[op]) i p := hb_po hlt (by rw [getElem?_append_old hi]; exact hzi) ez (hzig.trans hzg.symm)
          exact .inl ⟨t.size, op, eo, ho.1, .inr (h1.trans hb)⟩
        · omega
      · exact .inr ⟨d, y, by simp [e, hd], hg, hmay⟩
  · by_cases e : (0 : Nat) = γ
    · simp [e]
    · simp [e, h.nokid0]

/-- At the end nobody is left. -/
theorem TrI.known {t : Trace} (h : TrI t fun _ => none) : ∀ i a, touchAt t i = some a → a.loc.isMemory = true → Knows t 0 i := by
  intro i a ha hm
  rcases h.touch i a ha hm with hk | ⟨_, _, hk, _⟩
  · exact hk
  · cases hk
end Go.Sim

/-
  The caller's script; what is held of a caller and its children between two steps of the machine.
-/
namespace Go.Proofs.Ytlndinigbppafaa
open Go.Sim Go.Conc

/-- What the caller has done: the channels that it has started children for (with the box of each), how many it has heard out, whether it has had a value of the next, the values so far. -/
structure St where
  cs : List (Nat × Nat)
  cur : Nat
  got : Bool
  vs : List Value

def St.rd (s : St) (b : Nat) : Prop := ∃ p ∈ s.cs, b = p.2
def St.more (s : St) (c bc : Nat) : St := { s with cs := s.cs ++ [(c, bc)] }
def St.take (s : St) (V : Value) : St := { s with got := true, vs := s.vs ++ [V] }
def St.next (s : St) : St := { s with got := false, cur := s.cur + 1 }
/-- A value has come from child number k. -/
def St.has (s : St) (k : Nat) : Prop := k < s.cur ∨ (k = s.cur ∧ s.got = true)

/-- No event of an object (a channel's, a map's): cells alone. -/
def NoObj (es : Array Event) : Prop := ∀ e ∈ es, ∀ b, e.loc ≠ .obj b

def Give (bc bv bi bn c b : Nat) : Prop := RdB bc bv bi bn b ∨ b = c

/-- A value of one cell. -/
def Sl (V : Value) : Prop := V.oneCell' = true ∧ V.cells = #[V]

/-- THE CALLER ON ITS WAY, whatever its children do. -/
inductive PS (ver : Value) (N : Nat) (Fin : St → (Nat → Prop) → Goroutine → World → Prop) : St → (Nat → Prop) → Goroutine → World → Prop
  | go {s : St} {PB : Nat → Prop} {g : Goroutine} {w : World} : g.status = .running →
      (∀ w₁, RelyC PB s.rd w w₁ → ∃ g' w' es, stepG Try.prog true g w₁ = .go g' w' es ∧ GuarC PB s.rd w₁ w' es ∧ NoObj es) →
      (∀ w₁ g' w' es, RelyC PB s.rd w w₁ → stepG Try.prog true g w₁ = .go g' w' es → PS ver N Fin s (grow PB w₁ w') g' w') → PS ver N Fin s PB g w
  | spawn {s : St} {PB : Nat → Prop} {g g' : Goroutine} {w : World} (bc bv bi bn c : Nat) (tm : Bool) : g.status = .running → (∀ b, Give bc bv bi bn c b → PB b) → ¬ RdB bc bv bi bn c → s.cs.length < N →
      (∀ w₁, RelyC PB s.rd w w₁ → stepG Try.prog true g w₁ = .spawn g' (born Try.prog (childD bc bv bi bn)) w₁ #[]) →
      Boxes bc bv bi bn c ver s.cs.length N w → w.heap[c]? = some (.chan 1 #[] false 0 0 tm) →
      PS ver N Fin (s.more c bc) (fun b => PB b ∧ ¬ Give bc bv bi bn c b) g' w → PS ver N Fin s PB g w
  | recv {s : St} {PB : Nat → Prop} {g : Goroutine} {w : World} (c bc : Nat) (z : Value) : g.status = .running → s.cs[s.cur]? = some (c, bc) → s.got = false →
      (∀ w₁, RelyC PB s.rd w w₁ → stepG Try.prog true g w₁ = .comm g #[rcase c z] true (.recv true) w₁ #[]) →
      (∀ V w₁, Sl V → RelyC PB s.rd w w₁ → PS ver N Fin (s.take V) PB (Go.Conc.served g (recvd true V true)) w₁) → PS ver N Fin s PB g w
  | shut {s : St} {PB : Nat → Prop} {g : Goroutine} {w : World} (c bc : Nat) (z : Value) : g.status = .running → s.cs[s.cur]? = some (c, bc) → s.got = true →
      (∀ w₁, RelyC PB s.rd w w₁ → stepG Try.prog true g w₁ = .comm g #[rcase c z] true (.recv true) w₁ #[]) →
      (∀ w₁, RelyC PB s.rd w w₁ → PS ver N Fin s.next PB (Go.Conc.served g (recvd true z false)) w₁) → PS ver N Fin s PB g w
  | fin {s : St} {PB : Nat → Prop} {g : Goroutine} {w : World} : g.status = .running → s.cur = s.cs.length → s.got = false → (∀ w₁, RelyC PB s.rd w w₁ → Fin s PB g w₁) → PS ver N Fin s PB g w

theorem PS.one {ver : Value} {N : Nat} {Fin : St → (Nat → Prop) → Goroutine → World → Prop} {s : St} {PB : Nat → Prop} {g : Goroutine} {w : World} (h1 : g.status = .running)
    (h : ∀ w₁, RelyC PB s.rd w w₁ → ∃ g' w' es, stepG Try.prog true g w₁ = .go g' w' es ∧ (GuarC PB s.rd w₁ w' es ∧ NoObj es) ∧ PS ver N Fin s (grow PB w₁ w') g' w') : PS ver N Fin s PB g w := by
  refine .go h1 (fun W₁ k => ?_) fun W₁ g' W' es k e => ?_
  · obtain ⟨g', W', es, e, hg, _⟩ := h W₁ k
    exact ⟨g', W', es, e, hg⟩
  · obtain ⟨g2, W2, es2, e2, _, hc⟩ := h W₁ k
    rw [e] at e2
    cases e2
    exact hc

def Kid.rd (x : Kid) : Nat → Prop := RdB x.bc x.bv x.bi x.bn
def Kid.all (x : Kid) (b : Nat) : Prop := x.O b ∨ x.rd b ∨ b = x.c
def Kid.kt (x : Kid) : KidT := ⟨x.O, x.rd, x.c⟩
/-- Whom the trace still keeps: those that the caller has not heard out. -/
def kidMap (cur : Nat) (kids : List Kid) (d : Nat) : Option KidT := if d ≤ cur then none else (kids[d - 1]?).map Kid.kt

/-- The channel of a child that has sent. -/
def ChS (s : St) (k c : Nat) (cl : Bool) (V : Value) (tm : Bool) (w : World) : Prop :=
  (s.has k → w.heap[c]? = some (.chan 1 #[] cl 1 1 tm) ∧ s.vs[k]? = some V) ∧ (¬ s.has k → w.heap[c]? = some (.chan 1 #[V] cl 1 0 tm))

def KidS (Post : Nat → Value → World → Prop) (s : St) (k : Nat) (x : Kid) (w : World) (t : Trace) : Prop :=
  match x.st with
  | .work => ¬ s.has k ∧ Ch Try.prog x.c x.rd (Post k) (Sent x.bc) x.O x.g x.W ∧ RelyC x.O x.rd x.W w ∧ ∃ tm, w.heap[x.c]? = some (.chan 1 #[] false 0 0 tm)
  | .aft j => Aft x.bc x.c j x.g ∧ ¬ k < s.cur ∧ ∃ V tm, PostAt (Post k) x.O V w ∧ ChS s k x.c false V tm w
  | .leave q => QuitsIn Try.prog q x.g ∧ (∃ V tm, PostAt (Post k) x.O V w ∧ ChS s k x.c true V tm w) ∧
      (¬ k < s.cur → ∃ p, t.act? p = some (.close x.c) ∧ t.g? p = some (k + 1) ∧ ∀ i a, touchAt t i = some a → t.g? i = some (k + 1) → i < p)

structure KidI (B0 : Nat) (Post : Nat → Value → World → Prop) (s : St) (k : Nat) (x : Kid) (w : World) (t : Trace) : Prop where
  lo : ∀ b, x.all b → B0 ≤ b ∧ b < w.heap.size
  self : ∀ b, x.O b → ¬ x.rd b ∧ b ≠ x.c
  selfc : ¬ x.rd x.c
  box : w.heap[x.bc]? = some (.cells #[.chan (some x.c)] 121)
  st : KidS Post s k x w t

structure Inv (B0 : Nat) (W0 : World) (Post : Nat → Value → World → Prop) (s : St) (PB : Nat → Prop) (kids : List Kid) (gs : Array Goroutine) (w : World) (t : Trace) : Prop where
  size : gs.size = kids.length + 1
  kid : ∀ (k : Nat) (x : Kid), kids[k]? = some x → gs[k + 1]? = some x.g ∧ KidI B0 Post s k x w t
  link : s.cs = kids.map fun x => (x.c, x.bc)
  cur : s.cur ≤ kids.length
  got : s.got = true → s.cur < kids.length
  vs : s.vs.length = s.cur + (if s.got = true then 1 else 0)
  apart : ∀ (k l : Nat) (x y : Kid) (b : Nat), kids[k]? = some x → kids[l]? = some y → k ≠ l → x.all b → ¬ y.all b
  pb : ∀ b, PB b → B0 ≤ b ∧ b < w.heap.size ∧ ∀ (k : Nat) (x : Kid), kids[k]? = some x → ¬ x.all b
  tr : TrI t (kidMap s.cur kids)
  low : ∀ i a b, touchAt t i = some a → blockOf a.loc = some b → b < w.heap.size
  pbobj : ∀ i a b, touchAt t i = some a → a.loc = .obj b → ¬ PB b
  base : ∀ b, b < B0 → w.heap[b]? = W0.heap[b]?
  b0 : B0 ≤ w.heap.size
  glob : Try.prog.globals.size ≤ B0
  tape : w.tape = W0.tape
  os : w.os = W0.os
  output : w.output = W0.output

section
variable {B0 : Nat} {W0 : World} {Post : Nat → Value → World → Prop} {s : St} {PB : Nat → Prop} {kids : List Kid} {gs : Array Goroutine} {w w' : World} {t u : Trace} {k : Nat} {x x' : Kid}

theorem PostAt.keep {Post : Value → World → Prop} {O : Nat → Prop} {V : Value} {W W' : World} (h : PostAt Post O V W) (hk : ∀ b, O b → W'.heap[b]? = W.heap[b]?) : PostAt Post O V W' := fun W2 h2 => h W2 fun b hb => (h2 b hb).trans (hk b hb)

theorem touch_new {t u : Trace} {i : Nat} {a : Touch} (h : touchAt (t ++ u) i = some a) : (touchAt t i = some a ∧ i < t.size) ∨ (t.size ≤ i ∧ ∃ op ∈ u, (t ++ u)[i]? = some op ∧ op.act.touch? = some a) := (touchAt_cases h).imp (fun h => ⟨h.2, h.1⟩) id

/-- The place of a child's close stays what it is while others act, and while it acts without a touch. -/
theorem close_app {c p γ : Nat} (h1 : t.act? p = some (.close c)) (h2 : t.g? p = some γ) (h3 : ∀ i a, touchAt t i = some a → t.g? i = some γ → i < p) (hu : ∀ op ∈ u, op.g ≠ γ ∨ op.act.touch? = none) :
    (t ++ u).act? p = some (.close c) ∧ (t ++ u).g? p = some γ ∧ ∀ i a, touchAt (t ++ u) i = some a → (t ++ u).g? i = some γ → i < p := by
  have hp := lt_of_act? h1
  refine ⟨by rw [act?_old hp]; exact h1, g?_old' h2, fun i a ha hg => ?_⟩
  rcases touchAt_cases ha with ⟨hi, ha'⟩ | ⟨hi, op, ho, hio, hta⟩
  · rcases g?_append_cases hg with ⟨_, hg'⟩ | ⟨hge, _⟩
    · exact h3 i a ha' hg'
    · omega
  · exfalso
    have : op.g = γ := by
      unfold Trace.g? at hg
      rw [hio] at hg
      simpa using hg
    rcases hu op ho with h | h
    · exact h this
    · rw [h] at hta; cases hta

theorem KidI.frame (h : KidI B0 Post s k x w t) (hs : w.heap.size ≤ w'.heap.size) (hk : ∀ b, x.all b → w'.heap[b]? = w.heap[b]?) (hu : ∀ op ∈ u, op.g ≠ k + 1 ∨ op.act.touch? = none) : KidI B0 Post s k x w' (t ++ u) := by
  have hO : ∀ b, x.O b → w'.heap[b]? = w.heap[b]? := fun b hb => hk b (.inl hb)
  have hc : w'.heap[x.c]? = w.heap[x.c]? := hk _ (.inr (.inr rfl))
  have hch : ∀ {cl V tm}, ChS s k x.c cl V tm w → ChS s k x.c cl V tm w' := fun h => ⟨fun q => by rw [hc]; exact h.1 q, fun q => by rw [hc]; exact h.2 q⟩
  refine ⟨fun b hb => ⟨(h.lo b hb).1, Nat.lt_of_lt_of_le (h.lo b hb).2 hs⟩, h.self, h.selfc, by rw [hk _ (.inr (.inl (.inl rfl)))]; exact h.box, ?_⟩
  have hst := h.st
  unfold KidS at hst ⊢
  cases hx : x.st with
  | work =>
    rw [hx] at hst
    obtain ⟨h1, h2, h3, tm, h4⟩ := hst
    exact ⟨h1, h2, h3.trans ⟨hs, fun b hb => hk b (hb.imp id .inl)⟩, tm, by rw [hc]; exact h4⟩
  | aft j =>
    rw [hx] at hst
    obtain ⟨h1, h2, V, tm, h3, h4⟩ := hst
    exact ⟨h1, h2, V, tm, h3.keep hO, hch h4⟩
  | leave q =>
    rw [hx] at hst
    obtain ⟨h1, ⟨V, tm, h3, h4⟩, h5⟩ := hst
    refine ⟨h1, ⟨V, tm, h3.keep hO, hch h4⟩, fun hk => ?_⟩
    obtain ⟨p, p1, p2, p3⟩ := h5 hk
    exact ⟨p, close_app p1 p2 p3 hu⟩

theorem KidI.status (h : KidI B0 Post s k x w t) : x.g.status = .running ∨ x.g.status = .finished := by
  have hst := h.st
  unfold KidS at hst
  cases hx : x.st with
  | work => rw [hx] at hst; exact .inl hst.2.1.running
  | aft j => rw [hx] at hst; exact .inl hst.1.running
  | leave q =>
    rw [hx] at hst
    cases q with
    | zero => exact .inr hst.1
    | succ q => exact hst.1.elim .inr fun y => .inl y.1

theorem KidI.acc (h : KidI B0 Post s k x w t) : Acc Kid.lt x := by
  have hst := h.st
  unfold KidS at hst
  cases hx : x.st with
  | work => rw [hx] at hst; exact acc_work hst.2.1 x hx rfl rfl rfl rfl
  | aft j => exact acc_aft j x hx
  | leave q => exact acc_leave q x hx

theorem Inv.acc (h : Inv B0 W0 Post s PB kids gs w t) : Acc (LL Kid.lt) kids := by
  refine acc_list fun a ha => ?_
  obtain ⟨k, hk⟩ := List.getElem?_of_mem ha
  exact (h.kid k a hk).2.acc

/-- Only the count of draws has turned. -/
theorem Inv.at (h : Inv B0 W0 Post s PB kids gs w t) (d : Nat) : Inv B0 W0 Post s PB kids gs (w.at d) t := by
  refine ⟨h.size, fun k x hk => ⟨(h.kid k x hk).1, ?_⟩, h.link, h.cur, h.got, h.vs, h.apart, h.pb, h.tr, h.low, h.pbobj, h.base, h.b0, h.glob, h.tape, h.os, h.output⟩
  have := (h.kid k x hk).2.frame (w' := w.at d) (u := #[]) (Nat.le_refl _) (fun _ _ => rfl) (by simp)
  simpa using this

theorem kids_set_get {l : Nat} {y : Kid} (h : (kids.set k x')[l]? = some y) : (l = k ∧ y = x' ∧ k < kids.length) ∨ (l ≠ k ∧ kids[l]? = some y) := by
  rw [List.getElem?_set] at h
  split at h
  · rename_i e
    split at h
    · cases h; exact .inl ⟨e.symm, rfl, by omega⟩
    · cases h
  · rename_i e; exact .inr ⟨fun q => e q.symm, h⟩

/-- A CHILD's STEP, in general: it turns nothing but what is its own. -/
theorem Inv.kid_to (h : Inv B0 W0 Post s PB kids gs w t) {gs' : Array Goroutine} (hk : kids[k]? = some x) (hc : x'.c = x.c) (hbc : x'.bc = x.bc) (hrd : x'.rd = x.rd) (hO : ∀ b, x.O b → x'.O b) (hnew : ∀ b, x'.O b → ¬ x.O b → w.heap.size ≤ b ∧ b < w'.heap.size)
    (hsz : w.heap.size ≤ w'.heap.size) (hkeep : ∀ b, b < w.heap.size → ¬ x.all b → w'.heap[b]? = w.heap[b]?) (htape : w'.tape = w.tape) (hos : w'.os = w.os) (hout : w'.output = w.output)
    (hu : ∀ op ∈ u, op.g = k + 1 ∨ op.act.touch? = none) (hlow : ∀ op ∈ u, ∀ a b, op.act.touch? = some a → blockOf a.loc = some b → b < w'.heap.size ∧ ¬ PB b)
    (hI : KidI B0 Post s k x' w' (t ++ u)) (hgs : gs'.size = gs.size) (hgk : gs'[k + 1]? = some x'.g) (hgo : ∀ j, j ≠ k → gs'[j + 1]? = gs[j + 1]?)
    (hT : TrI (t ++ u) (kidMap s.cur (kids.set k x'))) : Inv B0 W0 Post s PB (kids.set k x') gs' w' (t ++ u) := by
  have hall : ∀ b, x'.all b → x.all b ∨ (w.heap.size ≤ b ∧ b < w'.heap.size) := by
    intro b hb
    unfold Kid.all at hb ⊢
    rw [hrd, hc] at hb
    rcases hb with hb | hb
    · by_cases hx : x.O b
      · exact .inl (.inl hx)
      · exact .inr (hnew b hb hx)
    · exact .inl (.inr hb)
  have hlen : k < kids.length := (List.getElem?_eq_some_iff.1 hk).1
  have ap : ∀ l y b, kids[l]? = some y → l ≠ k → x'.all b → ¬ y.all b := by
    intro l y b hy hne hb hyb
    rcases hall b hb with hb | hb
    · exact h.apart k l x y b hk hy (Ne.symm hne) hb hyb
    · have := ((h.kid l y hy).2.lo b hyb).2
      omega
  refine ⟨by rw [hgs, h.size, List.length_set], fun l y hl => ?_, ?_, by rw [List.length_set]; exact h.cur, fun q => by rw [List.length_set]; exact h.got q, h.vs, fun l m y z b hl hm hne hy => ?_, fun b hb => ?_, hT, fun i a b ha hb => ?_, fun i a b ha hb => ?_, fun b hb => ?_, Nat.le_trans h.b0 hsz, h.glob, htape.trans h.tape, hos.trans h.os, hout.trans h.output⟩
  · rcases kids_set_get hl with ⟨rfl, rfl, _⟩ | ⟨hne, hl'⟩
    · exact ⟨hgk, hI⟩
    · refine ⟨by rw [hgo l hne]; exact (h.kid l y hl').1, (h.kid l y hl').2.frame hsz (fun b hb => hkeep b ((h.kid l y hl').2.lo b hb).2 fun hx => h.apart k l x y b hk hl' (Ne.symm hne) hx hb) fun op ho => ?_⟩
      rcases hu op ho with e | e
      · left; rw [e]; omega
      · exact .inr e
  · rw [h.link]
    apply List.ext_getElem?
    intro j
    rw [List.getElem?_map, List.getElem?_map, List.getElem?_set]
    by_cases hj : k = j
    · subst hj
      rw [if_pos rfl, if_pos hlen, hk]
      simp [hc, hbc]
    · rw [if_neg hj]
  · rcases kids_set_get hl with ⟨rfl, rfl, _⟩ | ⟨n1, l1⟩ <;> rcases kids_set_get hm with ⟨rfl, rfl, _⟩ | ⟨n2, l2⟩
    · exact absurd rfl hne
    · exact ap m z b l2 n2 hy
    · exact fun hz => ap l y b l1 n1 hz hy
    · exact h.apart l m y z b l1 l2 hne hy
  · obtain ⟨p1, p2, p3⟩ := h.pb b hb
    refine ⟨p1, Nat.lt_of_lt_of_le p2 hsz, fun l y hl => ?_⟩
    rcases kids_set_get hl with ⟨rfl, rfl, _⟩ | ⟨_, l1⟩
    · intro hx
      rcases hall b hx with hx | hx
      · exact p3 l x hk hx
      · omega
    · exact p3 l y l1
  · rcases touchAt_cases ha with ⟨_, ha'⟩ | ⟨_, op, ho, _, hta⟩
    · exact Nat.lt_of_lt_of_le (h.low i a b ha' hb) hsz
    · exact (hlow op ho a b hta hb).1
  · rcases touchAt_cases ha with ⟨_, ha'⟩ | ⟨_, op, ho, _, hta⟩
    · exact h.pbobj i a b ha' hb
    · exact (hlow op ho a b hta (by rw [hb]; rfl)).2
  · rw [hkeep b (Nat.lt_of_lt_of_le hb h.b0) fun hx => ?_, h.base b hb]
    have := ((h.kid k x hk).2.lo b hx).1
    omega
end
end Go.Proofs.Ytlndinigbppafaa

/-
  A child's own steps in the machine.
-/
namespace Go.Proofs.Ytlndinigbppafaa
open Go.Sim Go.Conc

/-- What a plain step may list, in the trace's words. -/
theorem touch_evC {O Rd : Nat → Prop} {e : Event} {a : Touch} (h : EvC O Rd e) (ht : (MemAct.ofEvent e).touch? = some a) : ∃ b, blockOf a.loc = some b ∧ a.kind = .plain ∧ (O b ∨ (Rd b ∧ a.write = false)) := by
  obtain ⟨loc, wr, sy⟩ := e
  rcases h with h | ⟨h0, b, hb, hw⟩
  · simp only at h
    subst h
    simp [MemAct.ofEvent, MemAct.touch?] at ht
  · simp only at h0 hb hw
    subst h0
    rcases hb with ⟨A, rfl, rfl⟩ | rfl
    · simp [MemAct.ofEvent, MemAct.touch?] at ht
      subst ht
      exact ⟨_, rfl, rfl, hw⟩
    · have : MemAct.ofEvent ⟨.obj b, wr, false⟩ = .access ⟨.obj b, wr, false⟩ := by cases wr <;> rfl
      rw [this] at ht
      simp [MemAct.touch?] at ht
      subst ht
      exact ⟨_, rfl, rfl, hw⟩
theorem mark_evC {O Rd : Nat → Prop} {e : Event} {m : Mark} (h : EvC O Rd e) (ht : MemAct.ofEvent e = .mark m) : Neutral m := by
  obtain ⟨loc, wr, sy⟩ := e
  rcases h with h | ⟨h0, b, hb, hw⟩
  · simp only at h
    subst h
    simp [MemAct.ofEvent] at ht
    exact ht.symm
  · simp only at h0 hb hw
    subst h0
    rcases hb with ⟨A, rfl, rfl⟩ | rfl
    · simp [MemAct.ofEvent] at ht
    · cases wr <;> simp [MemAct.ofEvent] at ht
theorem wordless_evC {O Rd : Nat → Prop} {es : Array Event} (h : ∀ e ∈ es, EvC O Rd e) (g : Nat) (fn : FuncId) (pos : String) : Wordless (MemOp.ofEvents g fn pos es) := by
  intro op hop m hm
  obtain ⟨e, he, rfl⟩ := Go.Conc.mem_ofEvents hop
  exact mark_evC (h e he) hm
theorem g_ofEvents {g : Nat} {fn : FuncId} {pos : String} {es : Array Event} : ∀ op ∈ MemOp.ofEvents g fn pos es, op.g = g := fun op hop => by
  obtain ⟨e, _, rfl⟩ := Go.Conc.mem_ofEvents hop
  rfl

section
variable {B0 : Nat} {W0 : World} {Post : Nat → Value → World → Prop} {s : St} {PB : Nat → Prop} {kids : List Kid} {gs : Array Goroutine} {w w' : World} {t u : Trace} {k cur : Nat} {x x' : Kid}

theorem kidMap_some {d : Nat} {y : KidT} (h : kidMap cur kids d = some y) : ∃ l z, d = l + 1 ∧ ¬ l < cur ∧ kids[l]? = some z ∧ y = z.kt := by
  unfold kidMap at h
  split at h
  · cases h
  · rename_i hd
    obtain ⟨z, hz, rfl⟩ := Option.map_eq_some_iff.1 h
    exact ⟨d - 1, z, by omega, by omega, hz, rfl⟩
theorem kidMap_at (hk : kids[k]? = some x) (hc : ¬ k < cur) : kidMap cur kids (k + 1) = some x.kt := by
  unfold kidMap
  rw [if_neg (by omega)]
  simp [hk]
theorem kidMap_set (hk : kids[k]? = some x) (hc : ¬ k < cur) : kidMap cur (kids.set k x') = fun d => if d = k + 1 then some x'.kt else kidMap cur kids d := by
  have hlen : k < kids.length := (List.getElem?_eq_some_iff.1 hk).1
  funext d
  unfold kidMap
  by_cases hd : d = k + 1
  · subst hd
    rw [if_neg (by omega), if_pos rfl]
    simp [hlen]
  · rw [if_neg hd]
    by_cases h0 : d ≤ cur
    · rw [if_pos h0, if_pos h0]
    · rw [if_neg h0, if_neg h0, List.getElem?_set_ne (by omega)]
theorem kidMap_same (hk : kids[k]? = some x) (he : x'.kt = x.kt) : kidMap cur (kids.set k x') = kidMap cur kids := by
  have hlen : k < kids.length := (List.getElem?_eq_some_iff.1 hk).1
  funext d
  unfold kidMap
  by_cases h0 : d ≤ cur
  · rw [if_pos h0, if_pos h0]
  · rw [if_neg h0, if_neg h0, List.getElem?_set]
    split
    · rename_i e
      subst e
      rw [hk]
      simp [he]
    · rfl

theorem Inv.rely_kid (h : Inv B0 W0 Post s PB kids gs w t) (hk : kids[k]? = some x) (hsz : w.heap.size ≤ w'.heap.size) (hkeep : ∀ b, b < w.heap.size → ¬ x.O b → b ≠ x.c → w'.heap[b]? = w.heap[b]?) : RelyC PB s.rd w w' := by
  refine ⟨hsz, fun b hb => ?_⟩
  rcases hb with hb | ⟨p, hp, rfl⟩
  · obtain ⟨_, p2, p3⟩ := h.pb b hb
    have := p3 k x hk
    exact hkeep b p2 (fun q => this (.inl q)) fun q => this (.inr (.inr q))
  · rw [h.link] at hp
    obtain ⟨y, hy, rfl⟩ := List.mem_map.1 hp
    obtain ⟨l, hl⟩ := List.getElem?_of_mem hy
    have hyb : y.all y.bc := .inr (.inl (.inl rfl))
    have hlt := ((h.kid l y hl).2.lo _ hyb).2
    by_cases e : l = k
    · subst e
      rw [hk] at hl
      cases hl
      refine hkeep _ hlt (fun q => ((h.kid l x hk).2.self _ q).1 (.inl rfl)) fun q => (h.kid l x hk).2.selfc (.inl q.symm)
    · have := h.apart l k y x _ hl hk e hyb
      exact hkeep _ hlt (fun q => this (.inl q)) fun q => this (.inr (.inr q))

theorem woken_rf' {P : Program} {g g' b : Goroutine} {w' : World} (h : b.status = .running ∨ b.status = .finished) : woken P g g' w' b = b := by
  unfold woken
  split
  · exact again_running _ h
  · rfl

/-- The others' records behind an own step of number i. -/
theorem Inv.gs_go (h : Inv B0 W0 Post s PB kids gs w t) {i : Nat} {g g' : Goroutine} {w2 : World} (hi : i < gs.size) :
    ((gs.map (woken Try.prog g g' w2)).setIfInBounds i g').size = gs.size ∧ ((gs.map (woken Try.prog g g' w2)).setIfInBounds i g')[i]? = some g' ∧ (∀ j, j + 1 ≠ i → ((gs.map (woken Try.prog g g' w2)).setIfInBounds i g')[j + 1]? = gs[j + 1]?) ∧
      (∀ a, i ≠ 0 → gs[0]? = some a → ((gs.map (woken Try.prog g g' w2)).setIfInBounds i g')[0]? = some (woken Try.prog g g' w2 a)) := by
  refine ⟨by simp, by rw [Array.getElem?_setIfInBounds_self_of_lt (by simpa using hi)], fun j hj => ?_, fun a hne ha => ?_⟩
  · rw [Array.getElem?_setIfInBounds_ne (Ne.symm hj), Array.getElem?_map]
    by_cases hjl : j < kids.length
    · have := (h.kid j _ (List.getElem?_eq_getElem hjl))
      rw [this.1]
      simp [woken_rf' this.2.status]
    · have : gs.size ≤ j + 1 := by rw [h.size]; omega
      rw [Array.getElem?_eq_none this]
      rfl
  · rw [Array.getElem?_setIfInBounds_ne hne, Array.getElem?_map, ha]
    rfl

/-- The trace behind a plain step of a child's. -/
theorem Inv.tr_plain (h : Inv B0 W0 Post s PB kids gs w t) (hk : kids[k]? = some x) (hcur : ¬ k < s.cur) {O' : Nat → Prop} (hx' : x'.kt = ⟨O', x.rd, x.c⟩) (hO : ∀ b, x.O b → O' b) (hnew : ∀ b, O' b → ¬ x.O b → w.heap.size ≤ b)
    {es : Array Event} (hes : ∀ e ∈ es, EvC O' x.rd e) (fn : FuncId) (pos : String) : TrI (t ++ MemOp.ofEvents (k + 1) fn pos es) (kidMap s.cur (kids.set k x')) := by
  have hX := (h.kid k x hk).2
  have lt : ∀ {l : Nat} {y : Kid} {b : Nat}, kids[l]? = some y → y.all b → b < w.heap.size := fun hl hb => ((h.kid _ _ hl).2.lo _ hb).2
  have nc : ∀ b, (O' b ∨ x.rd b) → ∀ d y, kidMap s.cur kids d = some y → b ≠ y.c := by
    intro b hb d y hd e
    obtain ⟨l, z, rfl, hl, hz, rfl⟩ := kidMap_some hd
    have hzb : z.all b := .inr (.inr e)
    by_cases hlk : l = k
    · subst hlk
      rw [hk] at hz; cases hz
      rcases hb with hb | hb
      · by_cases hxO : x.O b
        · exact (hX.self b hxO).2 e
        · have := hnew b hb hxO
          have := lt hk hzb
          omega
      · have e' : b = x.c := e
        rw [e'] at hb
        exact hX.selfc hb
    · rcases hb with hb | hb
      · by_cases hxO : x.O b
        · exact h.apart k l x z b hk hz (Ne.symm hlk) (.inl hxO) hzb
        · have := hnew b hb hxO
          have := lt hz hzb
          omega
      · exact h.apart k l x z b hk hz (Ne.symm hlk) (.inr (.inl hb)) hzb
  refine h.tr.ownK (γ := k + 1) (x := x.kt) (O' := O') (kidMap_at hk hcur) ?_ g_ofEvents (wordless_evC hes _ _ _) hO (fun b hb hxb => ⟨fun i a ha hbl => ?_, fun d y hd => ?_⟩) (fun op ho a ha _ => ?_) fun d y hd hne => ?_
  · rw [kidMap_set hk hcur, hx']; rfl
  · have := hnew b hb hxb
    have := h.low i a b ha hbl
    omega
  · obtain ⟨l, z, rfl, hl, hz, rfl⟩ := kidMap_some hd
    have := hnew b hb hxb
    refine ⟨fun q => ?_, fun q => ?_, fun q => ?_⟩
    · have := lt (b := b) hz (.inl q); omega
    · have := lt (b := b) hz (.inr (.inl q)); omega
    · have := lt (b := b) hz (.inr (.inr q)); omega
  · obtain ⟨e, he, rfl⟩ := Go.Conc.mem_ofEvents ho
    obtain ⟨b, b1, b2, b3⟩ := touch_evC (hes e he) ha
    exact .inl ⟨b, b1, b2, b3, nc b (b3.imp id fun q => q.1)⟩
  · obtain ⟨l, z, rfl, hl, hz, rfl⟩ := kidMap_some hd
    have hlk : l ≠ k := fun e => hne (by rw [e])
    have := h.apart k l x z x.c hk hz (Ne.symm hlk) (.inr (.inr rfl))
    exact ⟨fun q => this (.inl q), fun q => this (.inr (.inl q)), fun q => this (.inr (.inr q.symm))⟩
end
end Go.Proofs.Ytlndinigbppafaa

/-
  A child's steps in the machine: plain steps; the send; the close.
-/
namespace Go.Proofs.Ytlndinigbppafaa
open Go.Sim Go.Conc

/-- The same record but for what it offers. -/
structure Like (a g : Goroutine) : Prop where
  run : a.status = .running
  frame : a.frame = g.frame
  callers : a.callers = g.callers
  dying : a.dying = g.dying

/-- How the caller stands: it runs, or is parked at its next channel, which is open and empty. -/
inductive CA (s : St) (w : World) (g : Goroutine) (z : Value) : Goroutine → Prop
  | run {a : Goroutine} : Like a g → CA s w g z a
  | wait (c bc n m : Nat) (tm : Bool) : s.cs[s.cur]? = some (c, bc) → w.heap[c]? = some (.chan 1 #[] false n m tm) → CA s w g z (parked g #[rcase c z] (.recv true))

section
variable {B0 : Nat} {W0 : World} {Post : Nat → Value → World → Prop} {s : St} {PB : Nat → Prop} {kids : List Kid} {gs : Array Goroutine} {w w' : World} {t u : Trace} {k cur : Nat} {x x' : Kid} {a g : Goroutine} {z : Value} {sl : Option (Nat × Nat)}

theorem Inv.cur_kid (h : Inv B0 W0 Post s PB kids gs w t) {c bc : Nat} (hc : s.cs[s.cur]? = some (c, bc)) : ∃ y, kids[s.cur]? = some y ∧ y.c = c ∧ y.bc = bc := by
  rw [h.link, List.getElem?_map] at hc
  obtain ⟨y, hy, e⟩ := Option.map_eq_some_iff.1 hc
  cases e
  exact ⟨y, hy, rfl, rfl⟩

theorem CA.woken (h : CA s w' g z a) {g1 g2 : Goroutine} : woken Try.prog g1 g2 w' a = a := by
  cases h with
  | run h => exact woken_rf' (.inl h.run)
  | wait c bc n m tm _ hc => exact woken_recv_open _ _ hc

theorem Inv.ca_keep (h : Inv B0 W0 Post s PB kids gs w t) (hk : kids[k]? = some x) (hkeep : ∀ b, b < w.heap.size → ¬ x.O b → w'.heap[b]? = w.heap[b]?) (hca : CA s w g z a) : CA s w' g z a := by
  cases hca with
  | run h => exact .run h
  | wait c bc n m tm h1 h2 =>
    refine .wait c bc n m tm h1 ?_
    obtain ⟨y, hy, rfl, _⟩ := h.cur_kid h1
    have hyb : y.all y.c := .inr (.inr rfl)
    rw [hkeep _ ((h.kid _ _ hy).2.lo _ hyb).2 fun q => ?_, h2]
    by_cases e : s.cur = k
    · subst e
      rw [hk] at hy; cases hy
      exact ((h.kid _ _ hk).2.self _ q).2 rfl
    · exact h.apart _ _ y x _ hy hk e hyb (.inl q)

/-- A PLAIN STEP OF A CHILD's. -/
theorem Inv.kid_plain (h : Inv B0 W0 Post s PB kids gs w t) (hk : kids[k]? = some x) (ha : gs[0]? = some a) (hca : CA s w g z a) {g' : Goroutine} {es : Array Event} (hst : stepG Try.prog false x.g w = .go g' w' es)
    (hc : x'.c = x.c) (hbc : x'.bc = x.bc) (hrd : x'.rd = x.rd) (hg' : x'.g = g') (hO : ∀ b, x.O b → x'.O b) (hnew : ∀ b, x'.O b → ¬ x.O b → w.heap.size ≤ b ∧ b < w'.heap.size)
    (hsz : w.heap.size ≤ w'.heap.size) (hkeep : ∀ b, b < w.heap.size → ¬ x.O b → w'.heap[b]? = w.heap[b]?) (htape : w'.tape = w.tape) (hos : w'.os = w.os) (hout : w'.output = w.output)
    (hes : ∀ e ∈ es, EvC x'.O x.rd e) (hcur : ¬ k < s.cur ∨ (es = #[] ∧ x'.O = x.O)) (hI : KidS Post s k x' w' (t ++ MemOp.ofEvents (k + 1) x.g.frame.fn x.g.frame.place es)) :
    ∃ gs', runT Try.prog (crowd gs w sl) (k + 1) = (.next (crowd gs' w' sl), MemOp.ofEvents (k + 1) x.g.frame.fn x.g.frame.place es) ∧
      Inv B0 W0 Post s PB (kids.set k x') gs' w' (t ++ MemOp.ofEvents (k + 1) x.g.frame.fn x.g.frame.place es) ∧ RelyC PB s.rd w w' ∧ gs'[0]? = some a ∧ CA s w' g z a := by
  have hX := (h.kid k x hk).2
  have hgk := (h.kid k x hk).1
  have hi : k + 1 < gs.size := (Array.getElem?_eq_some_iff.1 hgk).1
  obtain ⟨e1, e2, e3, e4⟩ := h.gs_go (i := k + 1) (g := x.g) (g' := g') (w2 := w') hi
  have hca' := h.ca_keep hk hkeep hca
  have hbcO : ¬ x.O x.bc := fun q => (hX.self _ q).1 (.inl rfl)
  have hx'kt : x'.kt = ⟨x'.O, x.rd, x.c⟩ := by unfold Kid.kt; rw [hrd, hc]
  have lt : ∀ b, x.all b → b < w.heap.size := fun b hb => (hX.lo b hb).2
  refine ⟨_, runT_crowd_go hgk (by simpa using hst), ?_, h.rely_kid hk hsz fun b h1 h2 _ => hkeep b h1 h2, by rw [e4 a (by omega) ha, hca'.woken], hca'⟩
  refine h.kid_to hk hc hbc hrd hO hnew hsz (fun b h1 h2 => hkeep b h1 fun q => h2 (.inl q)) htape hos hout (fun op ho => .inl (g_ofEvents op ho)) (fun op ho a b hta hbl => ?_) ?_ e1 (by rw [e2, hg']) (fun j hj => e3 j (by omega)) ?_
  · obtain ⟨e, he, rfl⟩ := Go.Conc.mem_ofEvents ho
    obtain ⟨b', b1, _, b3⟩ := touch_evC (hes e he) hta
    rw [hbl] at b1; cases b1
    rcases b3 with q | q
    · by_cases hxO : x.O b
      · exact ⟨Nat.lt_of_lt_of_le (lt b (.inl hxO)) hsz, fun hp => (h.pb b hp).2.2 k x hk (.inl hxO)⟩
      · refine ⟨(hnew b q hxO).2, fun hp => ?_⟩
        have := (hnew b q hxO).1
        have := (h.pb b hp).2.1
        omega
    · exact ⟨Nat.lt_of_lt_of_le (lt b (.inr (.inl q.1))) hsz, fun hp => (h.pb b hp).2.2 k x hk (.inr (.inl q.1))⟩
  · refine ⟨fun b hb => ?_, fun b hb => ?_, by rw [hrd, hc]; exact hX.selfc, ?_, hI⟩
    · unfold Kid.all at hb
      rw [hrd, hc] at hb
      rcases hb with hb | hb
      · by_cases hxO : x.O b
        · exact ⟨(hX.lo b (.inl hxO)).1, Nat.lt_of_lt_of_le (lt b (.inl hxO)) hsz⟩
        · have := hnew b hb hxO
          have := h.b0
          exact ⟨by omega, by omega⟩
      · exact ⟨(hX.lo b (.inr hb)).1, Nat.lt_of_lt_of_le (lt b (.inr hb)) hsz⟩
    · rw [hrd, hc]
      by_cases hxO : x.O b
      · exact hX.self b hxO
      · have hn := hnew b hb hxO
        refine ⟨fun q => ?_, fun q => ?_⟩
        · have := lt b (.inr (.inl q)); omega
        · have := lt b (.inr (.inr q)); omega
    · rw [hbc, hc, hkeep _ (lt _ (.inr (.inl (.inl rfl)))) hbcO]
      exact hX.box
  · rcases hcur with hcur | ⟨rfl, hOO⟩
    · exact h.tr_plain hk hcur hx'kt hO (fun b q1 q2 => (hnew b q1 q2).1) hes _ _
    · rw [kidMap_same hk (by rw [hx'kt, hOO]; rfl)]
      simpa [MemOp.ofEvents] using h.tr

/-- What the machine's step by a child may come to, the caller left as it stands. -/
def KGo (B0 : Nat) (W0 : World) (Post : Nat → Value → World → Prop) (s : St) (PB : Nat → Prop) (kids : List Kid) (gs : Array Goroutine) (w : World) (t : Trace) (sl : Option (Nat × Nat)) (k : Nat) (x : Kid) (g : Goroutine) (z : Value) : Prop :=
  ∃ gs' w' u x' a', runT Try.prog (crowd gs w sl) (k + 1) = (.next (crowd gs' w' sl), u) ∧ Kid.lt x' x ∧ Inv B0 W0 Post s PB (kids.set k x') gs' w' (t ++ u) ∧ RelyC PB s.rd w w' ∧ gs'[0]? = some a' ∧ CA s w' g z a' ∧ ∀ b, gs[0]? = some b → b.status = .running → a' = b

theorem Inv.kid_work_go (h : Inv B0 W0 Post s PB kids gs w t) (hk : kids[k]? = some x) (ha : gs[0]? = some a) (hca : CA s w g z a) (hx : x.st = .work) {g' : Goroutine} {es : Array Event} (hst : stepG Try.prog false x.g w = .go g' w' es)
    (hG : GuarC x.O x.rd w w' es) (hC : Ch Try.prog x.c x.rd (Post k) (Sent x.bc) (grow x.O w w') g' w') : KGo B0 W0 Post s PB kids gs w t sl k x g z := by
  have hX := (h.kid k x hk).2
  have hS := hX.st
  unfold KidS at hS
  rw [hx] at hS
  obtain ⟨h1, _, h3, tm, h4⟩ := hS
  let x' : Kid := { x with O := grow x.O w w', g := g', W := w' }
  have hcO : ¬ x.O x.c := fun q => (hX.self _ q).2 rfl
  obtain ⟨gs', r1, r2, r3, r4, r5⟩ := h.kid_plain (x' := x') (sl := sl) hk ha hca hst rfl rfl rfl rfl (fun b hb => .inl hb) (fun b hb hn => hb.elim (fun q => absurd q hn) id) hG.size (fun b q1 q2 => hG.keep b q1 q2) hG.tape hG.os hG.output hG.ev
    (.inl fun q => h1 (.inl q)) (by
      show KidS Post s k x' w' _
      unfold KidS
      have : x'.st = .work := hx
      rw [this]
      exact ⟨h1, hC, RelyC.refl _ _ _, tm, by rw [show x'.c = x.c from rfl, hG.keep _ (hX.lo _ (.inr (.inr rfl))).2 hcO]; exact h4⟩)
  refine ⟨gs', w', _, x', a, r1, ?_, r2, r3, r4, r5, fun b hb _ => by rw [ha] at hb; cases hb; rfl⟩
  unfold Kid.lt
  rw [hx]
  exact ⟨rfl, rfl, rfl, rfl, rfl, w, es, h3, hst, rfl⟩

theorem Inv.kid_aft (h : Inv B0 W0 Post s PB kids gs w t) (hk : kids[k]? = some x) (ha : gs[0]? = some a) (hca : CA s w g z a) {j : Nat} (hx : x.st = .aft (j + 1)) : KGo B0 W0 Post s PB kids gs w t sl k x g z := by
  have hX := (h.kid k x hk).2
  have hS := hX.st
  unfold KidS at hS
  rw [hx] at hS
  obtain ⟨h1, h2, V, tm, h3, h4⟩ := hS
  obtain ⟨g', es, hst, hA, hes⟩ := aft_step h1 hX.box
  let x' : Kid := { x with g := g', st := .aft j }
  obtain ⟨gs', r1, r2, r3, r4, r5⟩ := h.kid_plain (x' := x') (sl := sl) hk ha hca hst rfl rfl rfl rfl (fun b hb => hb) (fun b hb hn => absurd hb hn) (Nat.le_refl _) (fun b _ _ => rfl) rfl rfl rfl
    (fun e he => by rw [hes e he]; exact .inr ⟨rfl, x.bc, .inl ⟨_, rfl, rfl⟩, .inr ⟨.inl rfl, rfl⟩⟩) (.inl h2) (by
      show KidS Post s k x' w _
      unfold KidS
      exact ⟨hA, h2, V, tm, h3, h4⟩)
  refine ⟨gs', w, _, x', a, r1, ?_, r2, r3, r4, r5, fun b hb _ => by rw [ha] at hb; cases hb; rfl⟩
  unfold Kid.lt
  rw [hx]
  exact Nat.lt_succ_self j

theorem Inv.kid_leave (h : Inv B0 W0 Post s PB kids gs w t) (hk : kids[k]? = some x) (ha : gs[0]? = some a) (hca : CA s w g z a) {q : Nat} (hx : x.st = .leave q) (hr : x.g.status = .running) : KGo B0 W0 Post s PB kids gs w t sl k x g z := by
  have hX := (h.kid k x hk).2
  have hS := hX.st
  unfold KidS at hS
  rw [hx] at hS
  obtain ⟨h1, h2, h3⟩ := hS
  cases q with
  | zero =>
    have : x.g.status = .finished := h1
    rw [hr] at this; cases this
  | succ q =>
    rcases h1 with h1 | ⟨_, g', hst, hq⟩
    · rw [hr] at h1; cases h1
    let x' : Kid := { x with g := g', st := .leave q }
    have hu : MemOp.ofEvents (k + 1) x.g.frame.fn x.g.frame.place #[] = #[] := rfl
    obtain ⟨gs', r1, r2, r3, r4, r5⟩ := h.kid_plain (x' := x') (sl := sl) hk ha hca (hst w) rfl rfl rfl rfl (fun b hb => hb) (fun b hb hn => absurd hb hn) (Nat.le_refl _) (fun b _ _ => rfl) rfl rfl rfl
      (fun e he => by simp at he) (.inr ⟨rfl, rfl⟩) (by
        show KidS Post s k x' w _
        unfold KidS
        refine ⟨hq, h2, fun hc => ?_⟩
        rw [hu, Array.append_empty]
        exact h3 hc)
    refine ⟨gs', w, _, x', a, r1, ?_, r2, r3, r4, r5, fun b hb _ => by rw [ha] at hb; cases hb; rfl⟩
    unfold Kid.lt
    rw [hx]
    exact Nat.lt_succ_self q
end
end Go.Proofs.Ytlndinigbppafaa

/-
  A child's send and close in the machine; the caller takes a value, or finds the channel closed.
-/
namespace Go.Proofs.Ytlndinigbppafaa
open Go.Sim Go.Conc

theorem tri_words {kid : Nat → Option KidT} : ∀ (l : List MemOp) {t : Trace}, TrI t kid → (∀ op ∈ l, op.act.touch? = none ∧ ∀ m, op.act ≠ .mark m) → TrI (t ++ l.toArray) kid
  | [], t, h, _ => by simpa using h
  | op :: l, t, h, hl => by
    have h1 := hl op (List.mem_cons_self ..)
    have := tri_words l (h.word op h1.1 fun o ho m hm => by simp at ho; subst ho; exact absurd hm (h1.2 m)) fun o ho => hl o (List.mem_cons_of_mem _ ho)
    have e : t ++ #[op] ++ l.toArray = t ++ (op :: l).toArray := by simp
    rwa [e] at this

section
variable {B0 : Nat} {W0 : World} {Post : Nat → Value → World → Prop} {s : St} {PB : Nat → Prop} {kids : List Kid} {gs : Array Goroutine} {w w' : World} {t u : Trace} {k cur : Nat} {x x' : Kid} {a g : Goroutine} {z : Value} {sl : Option (Nat × Nat)}

theorem chan_set {c : Nat} {o : Obj} (h : w.heap[c]? = some o) (cap : Nat) (buf : Array Value) (cl : Bool) (n m : Nat) (tm : Bool) : (w.setChan c cap buf cl n m tm).heap[c]? = some (.chan cap buf cl n m tm) := by
  have := (Array.getElem?_eq_some_iff.1 h).1
  simp [World.setChan, this]
theorem chan_other {b c : Nat} (h : b ≠ c) (cap : Nat) (buf : Array Value) (cl : Bool) (n m : Nat) (tm : Bool) : (w.setChan c cap buf cl n m tm).heap[b]? = w.heap[b]? := by
  simp only [World.setChan]
  rw [Array.getElem?_setIfInBounds_ne (Ne.symm h)]
theorem chan_size {c cap n m : Nat} {buf : Array Value} {cl tm : Bool} : (w.setChan c cap buf cl n m tm).heap.size = w.heap.size := by simp [World.setChan]
theorem chan_set2 {c cap n m cap' n' m' : Nat} {buf buf' : Array Value} {cl tm cl' tm' : Bool} : (w.setChan c cap buf cl n m tm).setChan c cap' buf' cl' n' m' tm' = w.setChan c cap' buf' cl' n' m' tm' := by simp [World.setChan]

/-- A child's step that turns its channel's block alone, and lists no touch. -/
theorem Inv.kid_chan (h : Inv B0 W0 Post s PB kids gs w t) (hk : kids[k]? = some x) {gs' : Array Goroutine} (hc : x'.c = x.c) (hbc : x'.bc = x.bc) (hrd : x'.rd = x.rd) (hO : x'.O = x.O) (hsz : w'.heap.size = w.heap.size) (hkeep : ∀ b, b ≠ x.c → w'.heap[b]? = w.heap[b]?)
    (htape : w'.tape = w.tape) (hos : w'.os = w.os) (hout : w'.output = w.output) (hu : ∀ op ∈ u, op.g = k + 1 ∨ op.act.touch? = none) (hlow : ∀ op ∈ u, ∀ a b, op.act.touch? = some a → blockOf a.loc = some b → b = x.c) (hT : TrI (t ++ u) (kidMap s.cur kids))
    (hI : KidS Post s k x' w' (t ++ u)) (hgs : gs'.size = gs.size) (hgk : gs'[k + 1]? = some x'.g) (hgo : ∀ j, j ≠ k → gs'[j + 1]? = gs[j + 1]?) : Inv B0 W0 Post s PB (kids.set k x') gs' w' (t ++ u) := by
  have hX := (h.kid k x hk).2
  refine h.kid_to hk hc hbc hrd (fun b hb => by rw [hO]; exact hb) (fun b hb hn => by rw [hO] at hb; exact absurd hb hn) (Nat.le_of_eq hsz.symm) (fun b _ h2 => hkeep b fun e => h2 (.inr (.inr e))) htape hos hout hu (fun op ho a b h1 h2 => ?_) ?_ hgs hgk hgo ?_
  · rw [hlow op ho a b h1 h2, hsz]; exact ⟨(hX.lo _ (.inr (.inr rfl))).2, fun hp => (h.pb _ hp).2.2 k x hk (.inr (.inr rfl))⟩
  · refine ⟨fun b hb => ?_, fun b hb => ?_, by rw [hrd, hc]; exact hX.selfc, ?_, hI⟩
    · unfold Kid.all at hb
      rw [hO, hrd, hc] at hb
      rw [hsz]
      exact hX.lo b hb
    · rw [hrd, hc]; rw [hO] at hb; exact hX.self b hb
    · rw [hbc, hc, hkeep _ fun e => hX.selfc (.inl e.symm)]; exact hX.box
  · rw [kidMap_same hk (by unfold Kid.kt; rw [hO, hrd, hc])]; exact hT

/-- THE SEND. -/
theorem Inv.sent (h : Inv B0 W0 Post s PB kids gs w t) (hk : kids[k]? = some x) (hx : x.st = .work) {V : Value} {tm : Bool} {g2 : Goroutine} {gs' : Array Goroutine} (hch : w.heap[x.c]? = some (.chan 1 #[] false 0 0 tm)) (hP : PostAt (Post k) x.O V w) (hs : Sent x.bc g2)
    (hu : ∀ op ∈ u, op.act.touch? = none ∧ ∀ m, op.act ≠ .mark m) (hgs : gs'.size = gs.size) (hgk : gs'[k + 1]? = some g2) (hgo : ∀ j, j ≠ k → gs'[j + 1]? = gs[j + 1]?) :
    Inv B0 W0 Post s PB (kids.set k { x with g := g2, st := .aft 3 }) gs' (w.setChan x.c 1 #[V] false 1 0 tm) (t ++ u) := by
  have hX := (h.kid k x hk).2
  have hS := hX.st
  unfold KidS at hS
  rw [hx] at hS
  have hT := tri_words u.toList h.tr fun op ho => hu op (by simpa using ho)
  refine h.kid_chan (x' := { x with g := g2, st := .aft 3 }) hk rfl rfl rfl rfl chan_size (fun b hb => chan_other hb ..) rfl rfl rfl (fun op ho => .inr (hu op ho).1) (fun op ho a b h1 _ => by rw [(hu op ho).1] at h1; cases h1) (by simpa using hT) ?_ hgs hgk hgo
  show KidS Post s k _ _ _
  unfold KidS
  exact ⟨hs, fun q => hS.1 (.inl q), V, tm, hP.keep fun b hb => chan_other (hX.self b hb).2 .., fun q => absurd q hS.1, fun _ => chan_set hch ..⟩

theorem St.take_has {V : Value} {l : Nat} (hl : l ≠ s.cur) : (s.take V).has l ↔ s.has l := by
  unfold St.has St.take
  constructor
  · rintro (q | ⟨q, _⟩)
    · exact .inl q
    · exact absurd q hl
  · rintro (q | ⟨q, _⟩)
    · exact .inl q
    · exact absurd q hl

/-- THE CALLER TAKES A VALUE. -/
theorem Inv.took (h : Inv B0 W0 Post s PB kids gs w t) (hgot : s.got = false) (hk : kids[s.cur]? = some x) {V : Value} {n m : Nat} {cl tm : Bool} {gs' : Array Goroutine} (hch : w.heap[x.c]? = some (.chan 1 #[V] cl n m tm))
    (hu : ∀ op ∈ u, op.act.touch? = none ∧ ∀ m, op.act ≠ .mark m) (hgs : gs'.size = gs.size) (hgo : ∀ j, gs'[j + 1]? = gs[j + 1]?) :
    n = 1 ∧ m = 0 ∧ Inv B0 W0 Post (s.take V) PB kids gs' (w.setChan x.c 1 #[] cl 1 1 tm) (t ++ u) := by
  have hX := (h.kid _ x hk).2
  have hnh : ¬ s.has s.cur := fun q => q.elim (fun q => Nat.lt_irrefl _ q) fun q => by rw [hgot] at q; cases q.2
  have hT := tri_words u.toList h.tr fun op ho => hu op (by simpa using ho)
  have hlen : s.vs.length = s.cur := by have := h.vs; rw [hgot] at this; simpa using this
  have hhas : (s.take V).has s.cur := .inr ⟨rfl, rfl⟩
  have hvs : (s.take V).vs[s.cur]? = some V := by
    show (s.vs ++ [V])[s.cur]? = some V
    rw [← hlen]; simp
  have key : n = 1 ∧ m = 0 ∧ KidS Post (s.take V) s.cur x (w.setChan x.c 1 #[] cl 1 1 tm) (t ++ u) := by
    have hS := hX.st
    unfold KidS at hS ⊢
    cases hx : x.st with
    | work =>
      rw [hx] at hS
      obtain ⟨_, _, _, tm', h4⟩ := hS
      rw [hch] at h4; cases h4
    | aft j =>
      rw [hx] at hS
      obtain ⟨h1, h2, V', tm', h3, h4⟩ := hS
      have h5 := h4.2 hnh
      rw [hch] at h5; cases h5
      exact ⟨rfl, rfl, h1, h2, V, tm, h3.keep fun b hb => chan_other (hX.self b hb).2 .., fun _ => ⟨chan_set hch .., hvs⟩, fun q => absurd hhas q⟩
    | leave q =>
      rw [hx] at hS
      obtain ⟨h1, ⟨V', tm', h3, h4⟩, hp⟩ := hS
      have h5 := h4.2 hnh
      rw [hch] at h5; cases h5
      refine ⟨rfl, rfl, h1, ⟨V, tm, h3.keep fun b hb => chan_other (hX.self b hb).2 .., fun _ => ⟨chan_set hch .., hvs⟩, fun q => absurd hhas q⟩, fun hc => ?_⟩
      obtain ⟨p, p1, p2, p3⟩ := hp hc
      exact ⟨p, close_app p1 p2 p3 fun op ho => .inr (hu op ho).1⟩
  refine ⟨key.1, key.2.1, by rw [hgs]; exact h.size, fun l y hl => ⟨by rw [hgo]; exact (h.kid l y hl).1, ?_⟩, h.link, h.cur, fun _ => (List.getElem?_eq_some_iff.1 hk).1, ?_, h.apart, fun b hb => ?_, (by have := hT; simp only [Array.toArray_toList] at this; exact this), fun i a b ha hb => ?_, fun i a b ha hb => ?_, fun b hb => ?_, by rw [chan_size]; exact h.b0, h.glob, h.tape, h.os, h.output⟩
  · by_cases e : l = s.cur
    · subst e
      rw [hk] at hl; cases hl
      exact ⟨fun b hb => by rw [chan_size]; exact hX.lo b hb, hX.self, hX.selfc, by rw [chan_other fun e => hX.selfc (.inl e.symm)]; exact hX.box, key.2.2⟩
    · have hY := (h.kid l y hl).2.frame (w' := w.setChan x.c 1 #[] cl 1 1 tm) (u := u) (Nat.le_of_eq chan_size.symm) (fun b hb => chan_other (fun q => h.apart l s.cur y x b hl hk e hb (.inr (.inr q))) ..) fun op ho => .inr (hu op ho).1
      refine ⟨hY.lo, hY.self, hY.selfc, hY.box, ?_⟩
      have hS := hY.st
      have hv : ∀ {l : Nat}, s.has l → (s.take V).vs[l]? = s.vs[l]? := by
        intro l q
        have : l < s.vs.length := by
          rcases q with q | q
          · omega
          · rw [hgot] at q; cases q.2
        exact List.getElem?_append_left this
      have hcs : ∀ {cl' V' tm'}, ChS s l y.c cl' V' tm' (w.setChan x.c 1 #[] cl 1 1 tm) → ChS (s.take V) l y.c cl' V' tm' (w.setChan x.c 1 #[] cl 1 1 tm) := fun q =>
        ⟨fun r => by rw [St.take_has e] at r; rw [hv r]; exact q.1 r, fun r => q.2 fun r' => r ((St.take_has e).2 r')⟩
      unfold KidS at hS ⊢
      cases hy : y.st with
      | work => rw [hy] at hS; exact ⟨fun q => hS.1 ((St.take_has e).1 q), hS.2⟩
      | aft j => rw [hy] at hS; obtain ⟨h1, h2, V', tm', h3, h4⟩ := hS; exact ⟨h1, h2, V', tm', h3, hcs h4⟩
      | leave q => rw [hy] at hS; obtain ⟨h1, ⟨V', tm', h3, h4⟩, h5⟩ := hS; exact ⟨h1, ⟨V', tm', h3, hcs h4⟩, h5⟩
  · show (s.vs ++ [V]).length = s.cur + (if true = true then 1 else 0)
    simp [hlen]
  · rw [chan_size]; exact h.pb b hb
  · rw [chan_size]
    rcases touchAt_cases ha with ⟨_, ha'⟩ | ⟨_, op, ho, _, hta⟩
    · exact h.low i a b ha' hb
    · rw [(hu op ho).1] at hta; cases hta
  · rcases touchAt_cases ha with ⟨_, ha'⟩ | ⟨_, op, ho, _, hta⟩
    · exact h.pbobj i a b ha' hb
    · rw [(hu op ho).1] at hta; cases hta
  · rw [chan_other, h.base b hb]
    intro e
    have := (hX.lo x.c (.inr (.inr rfl))).1
    omega

theorem St.next_has {l : Nat} (hg : s.got = true) : s.next.has l ↔ s.has l := by
  unfold St.has St.next
  constructor
  · rintro (q | ⟨_, q⟩)
    · have : l < s.cur + 1 := q
      rcases Nat.lt_or_ge l s.cur with q | q
      · exact .inl q
      · exact .inr ⟨by omega, hg⟩
    · cases q
  · rintro (q | ⟨q, _⟩)
    · left; show l < s.cur + 1; omega
    · left; show l < s.cur + 1; omega

/-- THE CALLER FINDS ITS CHANNEL CLOSED. -/
theorem Inv.shut (h : Inv B0 W0 Post s PB kids gs w t) (hgot : s.got = true) (hk : kids[s.cur]? = some x) {n m : Nat} {tm : Bool} {buf : Array Value} {gs' : Array Goroutine} (hch : w.heap[x.c]? = some (.chan 1 buf true n m tm)) {op : MemOp} (ho : op.g = 0 ∧ op.act = .recvClosed x.c)
    (hgs : gs'.size = gs.size) (hgo : ∀ j, gs'[j + 1]? = gs[j + 1]?) : Inv B0 W0 Post s.next PB kids gs' w (t ++ #[op]) := by
  have hX := (h.kid _ x hk).2
  have hlt := (List.getElem?_eq_some_iff.1 hk).1
  have hu : ∀ o ∈ #[op], o.g ≠ s.cur + 1 ∨ o.act.touch? = none := fun o hm => by simp at hm; subst hm; right; rw [ho.2]; rfl
  obtain ⟨q, hq, p, p1, p2, p3⟩ : ∃ q, x.st = .leave q ∧ ∃ p, t.act? p = some (.close x.c) ∧ t.g? p = some (s.cur + 1) ∧ ∀ i a, touchAt t i = some a → t.g? i = some (s.cur + 1) → i < p := by
    have hS := hX.st
    unfold KidS at hS
    cases hx : x.st with
    | work => rw [hx] at hS; exact absurd (.inr ⟨rfl, hgot⟩) hS.1
    | aft j =>
      rw [hx] at hS
      obtain ⟨_, _, V', tm', _, h4⟩ := hS
      have h5 := (h4.1 (.inr ⟨rfl, hgot⟩)).1
      rw [hch] at h5; cases h5
    | leave q =>
      rw [hx] at hS
      exact ⟨q, rfl, hS.2.2 (Nat.lt_irrefl _)⟩
  have hT := h.tr.through (kidMap_at hk (Nat.lt_irrefl _)) ho p1 p2 p3
  refine ⟨by rw [hgs]; exact h.size, fun l y hl => ⟨by rw [hgo]; exact (h.kid l y hl).1, ?_⟩, h.link, hlt, (fun q => (by cases q)), ?_, h.apart, h.pb, ?_, fun i a b ha hb => ?_, fun i a b ha hb => ?_, h.base, h.b0, h.glob, h.tape, h.os, h.output⟩
  · have hY := (h.kid l y hl).2.frame (w' := w) (u := #[op]) (Nat.le_refl _) (fun _ _ => rfl) fun o hm => by simp at hm; subst hm; right; rw [ho.2]; rfl
    refine ⟨hY.lo, hY.self, hY.selfc, hY.box, ?_⟩
    have hS := hY.st
    have hcs : ∀ {cl V' tm'}, ChS s l y.c cl V' tm' w → ChS s.next l y.c cl V' tm' w := fun q => ⟨fun r => q.1 ((St.next_has hgot).1 r), fun r => q.2 fun r' => r ((St.next_has hgot).2 r')⟩
    unfold KidS at hS ⊢
    cases hy : y.st with
    | work => rw [hy] at hS; exact ⟨fun q => hS.1 ((St.next_has hgot).1 q), hS.2⟩
    | aft j =>
      rw [hy] at hS
      obtain ⟨h1, h2, V', tm', h3, h4⟩ := hS
      refine ⟨h1, fun r => ?_, V', tm', h3, hcs h4⟩
      have r' : l < s.cur + 1 := r
      have e : l = s.cur := by omega
      subst e
      rw [hk] at hl; cases hl
      rw [hq] at hy; cases hy
    | leave q => rw [hy] at hS; obtain ⟨h1, ⟨V', tm', h3, h4⟩, h5⟩ := hS; exact ⟨h1, ⟨V', tm', h3, hcs h4⟩, fun r => h5 fun r' => r (by show l < s.cur + 1; omega)⟩
  · have := h.vs
    rw [hgot] at this
    show s.vs.length = s.cur + 1 + (if false = true then 1 else 0)
    simpa using this
  · have e : kidMap s.next.cur kids = fun d => if d = s.cur + 1 then none else kidMap s.cur kids d := by
      funext d
      unfold kidMap
      show (if d ≤ s.cur + 1 then none else _) = _
      by_cases h1 : d = s.cur + 1
      · rw [if_pos (by omega), if_pos h1]
      · rw [if_neg h1]
        by_cases h2 : d ≤ s.cur
        · rw [if_pos (by omega), if_pos h2]
        · rw [if_neg (by omega), if_neg h2]
    rw [e]
    exact hT
  · rcases touchAt_cases ha with ⟨_, ha'⟩ | ⟨_, o, hm, _, hta⟩
    · exact h.low i a b ha' hb
    · simp at hm; subst hm; rw [ho.2] at hta; cases hta
  · rcases touchAt_cases ha with ⟨_, ha'⟩ | ⟨_, o, hm, _, hta⟩
    · exact h.pbobj i a b ha' hb
    · simp at hm; subst hm; rw [ho.2] at hta; cases hta
end
end Go.Proofs.Ytlndinigbppafaa

/-
  Whatever a child's next step is, in the machine.
-/
namespace Go.Proofs.Ytlndinigbppafaa
open Go.Sim Go.Conc

section
variable {B0 : Nat} {W0 : World} {Post : Nat → Value → World → Prop} {s : St} {PB : Nat → Prop} {kids : List Kid} {gs : Array Goroutine} {w w' : World} {t u : Trace} {k cur : Nat} {x x' : Kid} {a g : Goroutine} {z : Value} {sl : Option (Nat × Nat)}

theorem offers_rf {b : Goroutine} (h : b.status = .running ∨ b.status = .finished) (r : Nat) (send : Bool) : offersAt b r send = [] := offersAt_of_not_blocked (by rcases h with h | h <;> rw [h] <;> simp) r send

/-- Who offers at channel c but the caller. -/
theorem Inv.offers (h : Inv B0 W0 Post s PB kids gs w t) {j : Nat} {b : Goroutine} (hb : gs[j + 1]? = some b) (r : Nat) (send : Bool) : offersAt b r send = [] := by
  have hj : j < kids.length := by
    have := (Array.getElem?_eq_some_iff.1 hb).1
    rw [h.size] at this
    omega
  have := h.kid j _ (List.getElem?_eq_getElem hj)
  rw [this.1] at hb
  cases hb
  exact offers_rf this.2.status r send

/-- Nobody offers a send. -/
theorem Inv.no_send (h : Inv B0 W0 Post s PB kids gs w t) (ha : gs[0]? = some a) (hca : CA s w g z a) (i c : Nat) : partners (gs.setIfInBounds i ph) c true = [] := by
  refine partners_nil fun j b hb => ?_
  rcases getElem?_stand gs i j b hb with ⟨_, rfl⟩ | ⟨_, hb⟩
  · exact offersAt_ph _ _
  · cases j with
    | zero =>
      rw [ha] at hb; cases hb
      cases hca with
      | run h => exact offers_rf (.inl h.run) _ _
      | wait => exact offersAt_parked_recv' ..
    | succ j => exact h.offers hb _ _

/-- Nobody offers a receive at channel c unless the caller is parked there. -/
theorem Inv.no_recv (h : Inv B0 W0 Post s PB kids gs w t) (ha : gs[0]? = some a) (i c : Nat) (hno : offersAt a c false = []) : partners (gs.setIfInBounds i ph) c false = [] := by
  refine partners_nil fun j b hb => ?_
  rcases getElem?_stand gs i j b hb with ⟨_, rfl⟩ | ⟨_, hb⟩
  · exact offersAt_ph _ _
  · cases j with
    | zero => rw [ha] at hb; cases hb; exact hno
    | succ j => exact h.offers hb _ _

theorem set_other {i j : Nat} {b : Goroutine} (h : j ≠ i) : (gs.setIfInBounds i b)[j]? = gs[j]? := Array.getElem?_setIfInBounds_ne (Ne.symm h)
theorem set_self {i : Nat} {b : Goroutine} (h : i < gs.size) : (gs.setIfInBounds i b)[i]? = some b := Array.getElem?_setIfInBounds_self_of_lt h

theorem keep_chan {c : Nat} {cap n m : Nat} {buf : Array Value} {cl tm : Bool} (b : Nat) (h : b ≠ c) : (w.setChan c cap buf cl n m tm).heap[b]? = w.heap[b]? := chan_other h ..

theorem Inv.ca_other (h : Inv B0 W0 Post s PB kids gs w t) (hk : kids[k]? = some x) (hkeep : ∀ b, b ≠ x.c → w'.heap[b]? = w.heap[b]?) (hne : ∀ c bc, s.cs[s.cur]? = some (c, bc) → a = parked g #[rcase c z] (.recv true) → s.cur ≠ k) (hca : CA s w g z a) : CA s w' g z a := by
  cases hca with
  | run h => exact .run h
  | wait c bc n m tm h1 h2 =>
    have hnk := hne c bc h1 rfl
    refine .wait c bc n m tm h1 ?_
    obtain ⟨y, hy, rfl, _⟩ := h.cur_kid h1
    rw [hkeep _ fun e => h.apart _ _ y x _ hy hk hnk (.inr (.inr rfl)) (.inr (.inr e)), h2]

/-- THE SEND, into the buffer. -/
theorem Inv.kid_send (h : Inv B0 W0 Post s PB kids gs w t) (hk : kids[k]? = some x) (ha : gs[0]? = some a) (hca : CA s w g z a) (hx : x.st = .work) (hS : AtSend Try.prog x.c (Post k) (Sent x.bc) x.O x.g w)
    (hne : ∀ c bc, s.cs[s.cur]? = some (c, bc) → a = parked g #[rcase c z] (.recv true) → s.cur ≠ k) : KGo B0 W0 Post s PB kids gs w t sl k x g z := by
  have hX := (h.kid k x hk).2
  have hgk := (h.kid k x hk).1
  have hi : k + 1 < gs.size := (Array.getElem?_eq_some_iff.1 hgk).1
  have hSt := hX.st
  unfold KidS at hSt
  rw [hx] at hSt
  obtain ⟨h1, _, _, tm, h4⟩ := hSt
  obtain ⟨g₂, V, z', hst, hP, hThen⟩ := hS
  have hno : offersAt a x.c false = [] := by
    cases hca with
    | run h => exact offers_rf (.inl h.run) _ _
    | wait c bc n m tm' e1 e2 =>
      rw [offersAt_parked_recv, if_neg]
      intro e
      obtain ⟨y, hy, rfl, _⟩ := h.cur_kid e1
      exact h.apart _ _ y x _ hy hk (hne _ _ e1 rfl) (.inr (.inr rfl)) (.inr (.inr e))
  have hrun := crowd_send_room (P := Try.prog) (sl := sl) hgk (by simpa using hst) h4 (by decide) (h.no_recv ha (k + 1) x.c hno)
  rw [finishComm_send] at hrun
  refine ⟨_, _, _, { x with g := Go.Conc.served g₂ undef, st := .aft 3 }, a, hrun, ?_, ?_, h.rely_kid hk (Nat.le_of_eq chan_size.symm) fun b _ _ hb => keep_chan b hb, by rw [set_other (by omega)]; exact ha, h.ca_other hk (fun b hb => keep_chan b hb) hne hca, fun b hb _ => by rw [ha] at hb; cases hb; rfl⟩
  · unfold Kid.lt
    rw [hx]
    exact trivial
  · refine h.sent hk hx h4 (fun W' hW => hP W' hW) hThen (fun op ho => ?_) (by simp) (set_self hi) fun j hj => set_other (by omega)
    simp [MemOp.ofEvents] at ho
    rcases ho with rfl | rfl
    · exact ⟨rfl, fun m e => by cases e⟩
    · exact ⟨rfl, fun m e => by cases e⟩

/-- THE SEND, to the caller that waits for it. -/
theorem Inv.kid_meets (h : Inv B0 W0 Post s PB kids gs w t) {c bc : Nat} (hc : s.cs[s.cur]? = some (c, bc)) (hk : kids[s.cur]? = some x) (ha : gs[0]? = some (parked g #[rcase c z] (.recv true))) (hx : x.st = .work) (hS : AtSend Try.prog x.c (Post s.cur) (Sent x.bc) x.O x.g w) :
    ∃ gs' w' u x' V, (∃ W, Post s.cur V W) ∧ runT Try.prog (crowd gs w sl) (s.cur + 1) = (.next (crowd gs' w' sl), u) ∧ Inv B0 W0 Post (s.take V) PB (kids.set s.cur x') gs' w' (t ++ u) ∧ RelyC PB s.rd w w' ∧ gs'[0]? = some (Go.Conc.served g (recvd true V true)) := by
  have hX := (h.kid _ x hk).2
  have hgk := (h.kid _ x hk).1
  have hi : s.cur + 1 < gs.size := (Array.getElem?_eq_some_iff.1 hgk).1
  obtain ⟨y, hy, hyc, _⟩ := h.cur_kid hc
  rw [hk] at hy; cases hy
  subst hyc
  have hSt := hX.st
  unfold KidS at hSt
  rw [hx] at hSt
  obtain ⟨h1, _, _, tm, h4⟩ := hSt
  have hgot : s.got = false := by
    cases e : s.got with
    | false => rfl
    | true => exact absurd (.inr ⟨rfl, e⟩) h1
  obtain ⟨g₂, V, z', hst, hP, hThen⟩ := hS
  have hp : partners (gs.setIfInBounds (s.cur + 1) ph) x.c false = [(0, 0)] := by
    rw [partners_one (j := 0) (g := parked g #[rcase x.c z] (.recv true)) (by rw [set_other (by omega)]; exact ha) fun l b hl hb => ?_, offersAt_parked_recv, if_pos rfl]
    · rfl
    · rcases getElem?_stand gs _ l b hb with ⟨_, rfl⟩ | ⟨_, hb⟩
      · exact offersAt_ph _ _
      · cases l with
        | zero => exact absurd rfl hl
        | succ l => exact h.offers hb _ _
  have hrun := crowd_send_meets (P := Try.prog) (sl := sl) hgk (by simpa using hst) h4 (by omega) ha hp
  rw [finishComm_send, finishComm_recv] at hrun
  have hgs0 : 0 < gs.size := by omega
  have hsent := h.sent (V := V) (g2 := Go.Conc.served g₂ undef) (gs' := (gs.setIfInBounds 0 (Go.Conc.served g (recvd true V true))).setIfInBounds (s.cur + 1) (Go.Conc.served g₂ undef))
    (u := MemOp.ofEvents (s.cur + 1) x.g.frame.fn x.g.frame.place #[] ++ #[{ g := s.cur + 1, fn := g₂.frame.fn, pos := g₂.frame.place, act := .send x.c 0 }, { g := 0, fn := g.frame.fn, pos := g.frame.place, act := .recv x.c 0 1 }, { g := s.cur + 1, fn := g₂.frame.fn, pos := g₂.frame.place, act := .sendDone x.c 0 }, { g := 0, fn := g.frame.fn, pos := g.frame.place, act := .recvDone x.c 0 }])
    hk hx h4 (fun W' hW => hP W' hW) hThen (fun op ho => by
      simp [MemOp.ofEvents] at ho
      rcases ho with rfl | rfl | rfl | rfl <;> exact ⟨rfl, fun m e => (by cases e)⟩) (by simp) (set_self (by simpa using hi)) fun j hj => by rw [set_other (by omega), set_other (by omega)]
  have hlen := (List.getElem?_eq_some_iff.1 hk).1
  have hk2 : (kids.set s.cur { x with g := Go.Conc.served g₂ undef, st := Stage.aft 3 })[s.cur]? = some { x with g := Go.Conc.served g₂ undef, st := Stage.aft 3 } := by simp [hlen]
  obtain ⟨_, _, htook⟩ := hsent.took (u := #[]) (gs' := (gs.setIfInBounds 0 (Go.Conc.served g (recvd true V true))).setIfInBounds (s.cur + 1) (Go.Conc.served g₂ undef)) hgot hk2 (V := V) (n := 1) (m := 0) (cl := false) (tm := tm) (chan_set h4 ..) (by simp) rfl fun _ => rfl
  refine ⟨_, _, _, { x with g := Go.Conc.served g₂ undef, st := .aft 3 }, V, ⟨w, hP w fun _ _ => rfl⟩, hrun, ?_, h.rely_kid hk (Nat.le_of_eq chan_size.symm) fun b _ _ hb => keep_chan b hb, by rw [set_other (by omega), set_self hgs0]⟩
  rw [chan_set2] at htook
  simpa using htook

/-- THE CLOSE. -/
theorem Inv.kid_close (h : Inv B0 W0 Post s PB kids gs w t) (hk : kids[k]? = some x) (ha : gs[0]? = some a) (hca : CA s w g z a) (hx : x.st = .aft 0) : KGo B0 W0 Post s PB kids gs w t sl k x g z := by
  have hX := (h.kid k x hk).2
  have hgk := (h.kid k x hk).1
  have hi : k + 1 < gs.size := (Array.getElem?_eq_some_iff.1 hgk).1
  have hSt := hX.st
  unfold KidS at hSt
  rw [hx] at hSt
  obtain ⟨h1, h2, V, tm, h3, h4⟩ := hSt
  obtain ⟨buf, m, hch, hnew⟩ : ∃ buf m, w.heap[x.c]? = some (.chan 1 buf false 1 m tm) ∧ ChS s k x.c true V tm (w.setChan x.c 1 buf true 1 m tm) := by
    by_cases hh : s.has k
    · exact ⟨#[], 1, (h4.1 hh).1, fun _ => ⟨chan_set (h4.1 hh).1 .., (h4.1 hh).2⟩, fun q => absurd hh q⟩
    · exact ⟨#[V], 0, h4.2 hh, fun q => absurd q hh, fun _ => chan_set (h4.2 hh) ..⟩
  obtain ⟨g', hst, hq, hgst, hmw⟩ := aft_close h1 hch
  obtain ⟨e1, e2, e3, e4⟩ := h.gs_go (i := k + 1) (g := x.g) (g' := g') (w2 := w.setChan x.c 1 buf true 1 m tm) hi
  have hrun := runT_crowd_go (P := Try.prog) (sl := sl) hgk (by simpa using hst)
  have hev : MemOp.ofEvents (k + 1) x.g.frame.fn x.g.frame.place #[⟨.obj x.c, false, true⟩, ⟨.obj x.c, true, true⟩] = #[{ g := k + 1, fn := x.g.frame.fn, pos := x.g.frame.place, act := .access ⟨.obj x.c, false, true⟩ }, { g := k + 1, fn := x.g.frame.fn, pos := x.g.frame.place, act := .close x.c }] := by rw [ofEvents_eq]; simp [MemAct.ofEvent]
  rw [hev] at hrun
  have lt : ∀ b, x.all b → b < w.heap.size := fun b hb => (hX.lo b hb).2
  -- the caller
  obtain ⟨a', ha', hca'⟩ : ∃ a', woken Try.prog x.g g' (w.setChan x.c 1 buf true 1 m tm) a = a' ∧ CA s (w.setChan x.c 1 buf true 1 m tm) g z a' := by
    cases hca with
    | run hl => exact ⟨a, woken_rf' (.inl hl.run), .run hl⟩
    | wait c bc n m' tm' q1 q2 =>
      by_cases hne : s.cur = k
      · subst hne
        obtain ⟨y, hy, hyc, _⟩ := h.cur_kid q1
        rw [hk] at hy; cases hy
        subst hyc
        refine ⟨{ parked g #[rcase x.c z] (.recv true) with status := .running }, ?_, .run ⟨rfl, rfl, rfl, rfl⟩⟩
        unfold woken
        rw [if_pos (by rw [hmw, hgst]; rfl)]
        exact again_recv_closed (chan_set hch ..)
      · obtain ⟨y, hy, rfl, _⟩ := h.cur_kid q1
        have hk' : (w.setChan x.c 1 buf true 1 m tm).heap[y.c]? = some (.chan 1 #[] false n m' tm') := by
          rw [keep_chan _ fun e => h.apart _ _ y x _ hy hk hne (.inr (.inr rfl)) (.inr (.inr e)), q2]
        exact ⟨_, woken_recv_open _ _ hk', .wait _ _ _ _ _ q1 hk'⟩
  refine ⟨_, _, _, { x with g := g', st := .leave 4 }, a', hrun, ?_, ?_, h.rely_kid hk (Nat.le_of_eq chan_size.symm) fun b _ _ hb => keep_chan b hb, by rw [e4 a (by omega) ha, ha'], hca', fun b hb hr => by rw [ha] at hb; cases hb; rw [← ha', woken_rf' (.inl hr)]⟩
  · unfold Kid.lt
    rw [hx]
    exact trivial
  · refine h.kid_chan (x' := { x with g := g', st := .leave 4 }) hk rfl rfl rfl rfl chan_size (fun b hb => keep_chan b hb) rfl rfl rfl (fun op ho => ?_) (fun op ho a b q1 q2 => ?_) ?_ ?_ e1 e2 fun j hj => e3 j (by omega)
    · simp at ho
      rcases ho with rfl | rfl <;> exact .inl rfl
    · simp at ho
      rcases ho with rfl | rfl
      · simp [MemAct.touch?] at q1
        subst q1
        simpa [blockOf] using q2.symm
      · simp [MemAct.touch?] at q1
    · have := h.tr.ownK (γ := k + 1) (x := x.kt) (O' := x.O) (kid' := kidMap s.cur kids) (u := #[{ g := k + 1, fn := x.g.frame.fn, pos := x.g.frame.place, act := .access ⟨.obj x.c, false, true⟩ }, { g := k + 1, fn := x.g.frame.fn, pos := x.g.frame.place, act := .close x.c }])
        (kidMap_at hk h2) ?_ (fun op ho => ?_) (fun op ho m hm => ?_) (fun b hb => hb) (fun b hb hn => absurd hb hn) (fun op ho a ha _ => ?_) fun d y hd hne => ?_
      · exact this
      · funext d
        split
        · rename_i e; subst e; rw [kidMap_at hk h2]; rfl
        · rfl
      · simp at ho
        rcases ho with rfl | rfl <;> rfl
      · simp at ho
        rcases ho with rfl | rfl <;> cases hm
      · simp at ho
        rcases ho with rfl | rfl
        · simp [MemAct.touch?] at ha
          subst ha
          exact .inr ⟨rfl, rfl, rfl⟩
        · simp [MemAct.touch?] at ha
      · obtain ⟨l, y', rfl, hl, hz, rfl⟩ := kidMap_some hd
        have hlk : l ≠ k := fun e => hne (by rw [e])
        have := h.apart k l x y' x.c hk hz (Ne.symm hlk) (.inr (.inr rfl))
        exact ⟨fun q => this (.inl q), fun q => this (.inr (.inl q)), fun q => this (.inr (.inr q.symm))⟩
    · show KidS Post s k _ _ _
      unfold KidS
      refine ⟨hq, ⟨V, tm, h3.keep fun b hb => keep_chan b (hX.self b hb).2, hnew⟩, fun _ => ⟨t.size + 1, ?_, ?_, fun i a ha hg => ?_⟩⟩
      · simp [Trace.act?]
      · simp [Trace.g?]
      · rcases touchAt_cases ha with ⟨hi', _⟩ | ⟨hi', op, ho, hio, hta⟩
        · omega
        · have hlt := (Array.getElem?_eq_some_iff.1 hio).1
          simp at hlt
          by_cases e : i = t.size + 1
          · subst e
            simp at hio
            rw [← hio] at hta
            simp [MemAct.touch?] at hta
          · omega

/-- WHATEVER A CHILD's NEXT STEP IS. -/
theorem Inv.kid_any (h : Inv B0 W0 Post s PB kids gs w t) (hk : kids[k]? = some x) (ha : gs[0]? = some a) (hca : CA s w g z a) (hr : x.g.status = .running) :
    KGo B0 W0 Post s PB kids gs w t sl k x g z ∨ ∃ c bc, s.cs[s.cur]? = some (c, bc) ∧ a = parked g #[rcase c z] (.recv true) ∧ k = s.cur ∧ s.got = false ∧
      ∃ gs' w' u x' V, (∃ W, Post s.cur V W) ∧ runT Try.prog (crowd gs w sl) (k + 1) = (.next (crowd gs' w' sl), u) ∧ Inv B0 W0 Post (s.take V) PB (kids.set k x') gs' w' (t ++ u) ∧ RelyC PB s.rd w w' ∧ gs'[0]? = some (Go.Conc.served g (recvd true V true)) := by
  have hX := (h.kid k x hk).2
  have hSt := hX.st
  unfold KidS at hSt
  cases hx : x.st with
  | work =>
    rw [hx] at hSt
    obtain ⟨h1, hC, hR, _⟩ := hSt
    cases hC with
    | go c1 c2 c3 =>
      obtain ⟨g', w', es, hst, hG⟩ := c2 w hR
      exact .inl (h.kid_work_go hk ha hca hx hst hG (c3 w g' w' es hR hst))
    | send c1 c2 =>
      have hS := c2 w hR
      by_cases hm : ∃ c bc, s.cs[s.cur]? = some (c, bc) ∧ a = parked g #[rcase c z] (.recv true) ∧ s.cur = k
      · obtain ⟨c, bc, q1, q2, q3⟩ := hm
        subst q3
        refine .inr ⟨c, bc, q1, q2, rfl, ?_, ?_⟩
        · cases e : s.got with
          | false => rfl
          | true => exact absurd (.inr ⟨rfl, e⟩) h1
        · exact h.kid_meets q1 hk (by rw [ha, q2]) hx hS
      · exact .inl (h.kid_send hk ha hca hx hS fun c bc q1 q2 q3 => hm ⟨c, bc, q1, q2, q3⟩)
  | aft j =>
    cases j with
    | zero => exact .inl (h.kid_close hk ha hca hx)
    | succ j => exact .inl (h.kid_aft hk ha hca hx)
  | leave q => exact .inl (h.kid_leave hk ha hca hx hr)
end
end Go.Proofs.Ytlndinigbppafaa

/-
  The caller's own steps in the machine.
-/
namespace Go.Proofs.Ytlndinigbppafaa
open Go.Sim Go.Conc

section
variable {B0 : Nat} {W0 : World} {Post : Nat → Value → World → Prop} {s : St} {PB : Nat → Prop} {kids : List Kid} {gs : Array Goroutine} {w w' : World} {t u : Trace} {k cur : Nat} {x x' : Kid} {a g g' : Goroutine} {z : Value} {sl : Option (Nat × Nat)}

theorem Like.step (h : Like a g) (w : World) : stepG Try.prog true a w = stepG Try.prog true g w := stepG_same h.frame h.callers h.dying w

theorem Inv.rd_kid (h : Inv B0 W0 Post s PB kids gs w t) {b : Nat} (hb : s.rd b) : ∃ (l : Nat) (y : Kid), kids[l]? = some y ∧ b = y.bc := by
  obtain ⟨p, hp, rfl⟩ := hb
  rw [h.link] at hp
  obtain ⟨y, hy, rfl⟩ := List.mem_map.1 hp
  obtain ⟨l, hl⟩ := List.getElem?_of_mem hy
  exact ⟨l, y, hl, rfl⟩

/-- AN OWN STEP OF THE CALLER's. -/
theorem Inv.go0 (h : Inv B0 W0 Post s PB kids gs w t) (ha : gs[0]? = some a) (hl : Like a g) {es : Array Event} (hst : stepG Try.prog true g w = .go g' w' es) (hG : GuarC PB s.rd w w' es) (hN : NoObj es) :
    ∃ gs' u, runT Try.prog (crowd gs w sl) 0 = (.next (crowd gs' w' sl), u) ∧ Inv B0 W0 Post s (grow PB w w') kids gs' w' (t ++ u) ∧ gs'[0]? = some g' := by
  have hi : 0 < gs.size := (Array.getElem?_eq_some_iff.1 ha).1
  obtain ⟨e1, e2, e3, _⟩ := h.gs_go (i := 0) (g := a) (g' := g') (w2 := w') hi
  have lt : ∀ {l : Nat} {y : Kid} {b : Nat}, kids[l]? = some y → y.all b → b < w.heap.size := fun hl hb => ((h.kid _ _ hl).2.lo _ hb).2
  have hev : ∀ op ∈ MemOp.ofEvents 0 a.frame.fn a.frame.place es, ∀ c, op.act.touch? = some c → ∃ b, blockOf c.loc = some b ∧ c.kind = .plain ∧ (grow PB w w' b ∨ (s.rd b ∧ c.write = false)) := by
    intro op ho c hc
    obtain ⟨e, he, rfl⟩ := Go.Conc.mem_ofEvents ho
    exact touch_evC (hG.ev e he) hc
  have hno : ∀ b, grow PB w w' b → ∀ (l : Nat) (y : Kid), kids[l]? = some y → ¬ y.all b := by
    intro b hb l y hy hyb
    rcases hb with hb | hb
    · exact (h.pb b hb).2.2 l y hy hyb
    · have := lt hy hyb
      omega
  refine ⟨_, _, runT_crowd_go ha (by rw [show ((0 : Nat) == 0) = true from rfl, hl.step]; exact hst), ?_, e2⟩
  refine ⟨by rw [e1]; exact h.size, fun l y hy => ⟨by rw [e3 l (by omega)]; exact (h.kid l y hy).1, (h.kid l y hy).2.frame hG.size (fun b hb => hG.keep b (lt hy hb) fun q => (h.pb b q).2.2 l y hy hb) fun op ho => .inl (by rw [g_ofEvents op ho]; omega)⟩, h.link, h.cur, h.got, h.vs, h.apart, fun b hb => ?_, ?_, fun i c b hc hb => ?_, fun i c b hc hb hp => ?_, fun b hb => ?_, Nat.le_trans h.b0 hG.size, h.glob, hG.tape.trans h.tape, hG.os.trans h.os, hG.output.trans h.output⟩
  · refine ⟨?_, ?_, hno b hb⟩
    · rcases hb with hb | hb
      · exact (h.pb b hb).1
      · exact Nat.le_trans h.b0 hb.1
    · rcases hb with hb | hb
      · exact Nat.lt_of_lt_of_le (h.pb b hb).2.1 hG.size
      · exact hb.2
  · refine h.tr.own0 g_ofEvents (wordless_evC hG.ev _ _ _) fun op ho c hc _ => ?_
    obtain ⟨b, b1, b2, b3⟩ := hev op ho c hc
    refine ⟨b, b1, b2, fun γ kt hk => ?_⟩
    obtain ⟨l, y, rfl, hl', hy, rfl⟩ := kidMap_some hk
    rcases b3 with b3 | ⟨b3, b4⟩
    · have := hno b b3 l y hy
      exact ⟨fun q => this (.inl q), fun q => absurd (.inr (.inl q)) this, fun q => this (.inr (.inr q))⟩
    · obtain ⟨m, y', hy', rfl⟩ := h.rd_kid b3
      by_cases e : m = l
      · subst e
        rw [hy] at hy'; cases hy'
        have hX := (h.kid m y hy).2
        exact ⟨fun q => (hX.self _ q).1 (.inl rfl), fun _ => b4, fun q => hX.selfc (.inl q.symm)⟩
      · have := h.apart m l y' y _ hy' hy e (.inr (.inl (.inl rfl)))
        exact ⟨fun q => this (.inl q), fun _ => b4, fun q => this (.inr (.inr q))⟩
  · rcases touchAt_cases hc with ⟨_, hc'⟩ | ⟨_, op, ho, _, hta⟩
    · exact Nat.lt_of_lt_of_le (h.low i c b hc' hb) hG.size
    · obtain ⟨b', b1, _, b3⟩ := hev op ho c hta
      rw [hb] at b1; cases b1
      rcases b3 with (b3 | b3) | ⟨b3, _⟩
      · exact Nat.lt_of_lt_of_le (h.pb b b3).2.1 hG.size
      · exact b3.2
      · obtain ⟨m, y', hy', rfl⟩ := h.rd_kid b3
        exact Nat.lt_of_lt_of_le (lt hy' (.inr (.inl (.inl rfl)))) hG.size
  · rcases touchAt_cases hc with ⟨_, hc'⟩ | ⟨_, op, ho, _, hta⟩
    · rcases hp with hp | hp
      · exact h.pbobj i c b hc' hb hp
      · have := h.low i c b hc' (by rw [hb]; rfl)
        omega
    · obtain ⟨e, he, rfl⟩ := Go.Conc.mem_ofEvents ho
      have hne := hN e he b
      have hev' := hG.ev e he
      obtain ⟨loc, wr, sy⟩ := e
      rcases hev' with q | ⟨q0, b2, q | q, _⟩
      · simp only at q
        subst q
        simp [MemAct.ofEvent, MemAct.touch?] at hta
      · obtain ⟨A, q, _⟩ := q
        simp only at q q0
        subst q; subst q0
        simp [MemAct.ofEvent, MemAct.touch?] at hta
        subst hta
        cases hb
      · exact hN _ he b2 q
  · rw [hG.keep b (Nat.lt_of_lt_of_le hb h.b0) fun q => ?_, h.base b hb]
    have := (h.pb b q).1
    omega

/-- THE CALLER's go STATEMENT. -/
theorem Inv.spawn0 (h : Inv B0 W0 Post s PB kids gs w t) (ha : gs[0]? = some a) (hl : Like a g) {bc bv bi bn c N : Nat} {ver : Value} {tm : Bool} (hst : stepG Try.prog true g w = .spawn g' (born Try.prog (childD bc bv bi bn)) w #[])
    (hgive : ∀ b, Give bc bv bi bn c b → PB b) (hsc : ¬ RdB bc bv bi bn c) (hB : Boxes bc bv bi bn c ver s.cs.length N w) (hch : w.heap[c]? = some (.chan 1 #[] false 0 0 tm)) (hM : MemberC bc bv bi bn c ver s.cs.length N (Post s.cs.length)) :
    ∃ gs' u x, runT Try.prog (crowd gs w sl) 0 = (.next (crowd gs' w sl), u) ∧ Inv B0 W0 Post (s.more c bc) (fun b => PB b ∧ ¬ Give bc bv bi bn c b) (kids ++ [x]) gs' w (t ++ u) ∧ gs'[0]? = some g' := by
  have hi : 0 < gs.size := (Array.getElem?_eq_some_iff.1 ha).1
  have hlen : s.cs.length = kids.length := by rw [h.link]; simp
  rw [hlen] at hM hB
  let x : Kid := ⟨c, bc, bv, bi, bn, fun _ => False, born Try.prog (childD bc bv bi bn), w, .work⟩
  have hgl : Try.prog.globals.size ≤ w.heap.size := Nat.le_trans h.glob h.b0
  have hrd : ∀ b, RdB bc bv bi bn b → b < w.heap.size ∧ ¬ False := fun b hb => ⟨(h.pb b (hgive b (.inl hb))).2.1, id⟩
  have hC : Ch Try.prog x.c x.rd (Post kids.length) (Sent x.bc) x.O x.g x.W := ch_born hM hB hrd hgl
  have xall : ∀ b, x.all b → Give bc bv bi bn c b := fun b hb => hb.elim False.elim id
  have hrun := runT_crowd_spawn (P := Try.prog) (sl := sl) ha (by rw [show ((0 : Nat) == 0) = true from rfl, hl.step]; exact hst)
  have get : ∀ {l : Nat} {y : Kid}, (kids ++ [x])[l]? = some y → (l < kids.length ∧ kids[l]? = some y) ∨ (l = kids.length ∧ y = x) := by
    intro l y hy
    rw [List.getElem?_append] at hy
    split at hy
    · rename_i q; exact .inl ⟨q, hy⟩
    · rename_i q
      right
      cases e : l - kids.length with
      | zero => rw [e] at hy; simp at hy; exact ⟨by omega, hy.symm⟩
      | succ n => rw [e] at hy; simp at hy
  have hmap : kidMap s.cur (kids ++ [x]) = fun d => if d = kids.length + 1 then some ⟨fun _ => False, RdB bc bv bi bn, c⟩ else kidMap s.cur kids d := by
    have := h.cur
    funext d
    unfold kidMap
    by_cases hd : d = kids.length + 1
    · subst hd
      rw [if_neg (by omega), if_pos rfl]
      simp
      rfl
    · rw [if_neg hd]
      by_cases h0 : d ≤ s.cur
      · rw [if_pos h0, if_pos h0]
      · rw [if_neg h0, if_neg h0, List.getElem?_append]
        split
        · rfl
        · rename_i q
          rw [List.getElem?_eq_none (l := kids) (by omega), List.getElem?_eq_none (by simp; omega)]
  have hnone : kidMap s.cur kids (kids.length + 1) = none := by
    unfold kidMap
    split
    · rfl
    · simp
  have hT := h.tr.born (γ := kids.length + 1) (Rd := RdB bc bv bi bn) (c := c) (o1 := { g := 0, fn := a.frame.fn, pos := a.frame.place, act := .go gs.size }) (o2 := { g := gs.size, fn := (born Try.prog (childD bc bv bi bn)).frame.fn, pos := a.frame.place, act := .start })
    ⟨rfl, by rw [h.size]⟩ ⟨h.size, rfl⟩ hnone (by omega) (fun b d y hb hd => by
      obtain ⟨l, y', rfl, _, hy, rfl⟩ := kidMap_some hd
      have := (h.pb b (hgive b (.inl hb))).2.2 l y' hy
      exact ⟨fun q => this (.inl q), fun q => this (.inr (.inr q))⟩) fun i b hb e => h.pbobj i b c hb e (hgive c (.inr rfl))
  have hu : ∀ op ∈ (#[{ g := 0, fn := a.frame.fn, pos := a.frame.place, act := .go gs.size }, { g := gs.size, fn := (born Try.prog (childD bc bv bi bn)).frame.fn, pos := a.frame.place, act := .start }] : Array MemOp), op.act.touch? = none := by
    intro op ho
    simp at ho
    rcases ho with rfl | rfl <;> rfl
  have hnew : ¬ s.has kids.length := by
    rintro (q | ⟨q, r⟩)
    · have := h.cur; omega
    · have := h.got r; omega
  refine ⟨_, #[{ g := 0, fn := a.frame.fn, pos := a.frame.place, act := .go gs.size }, { g := gs.size, fn := (born Try.prog (childD bc bv bi bn)).frame.fn, pos := a.frame.place, act := .start }], x, by rw [hrun]; rfl, ?_, ?_⟩
  · refine ⟨by simp [h.size], fun l y hy => ?_, by simp [St.more, h.link, x], by simp; exact Nat.le_succ_of_le h.cur, fun q => by simp; exact Nat.lt_succ_of_lt (h.got q), h.vs, fun l m y y' b hl' hm hne hb hb' => ?_, fun b hb => ⟨(h.pb b hb.1).1, (h.pb b hb.1).2.1, fun l y hy hyb => ?_⟩, ?_, fun i c' b hc hb => ?_, fun i c' b hc hb hp => ?_, h.base, h.b0, h.glob, h.tape, h.os, h.output⟩
    · rcases get hy with ⟨q, hy'⟩ | ⟨rfl, rfl⟩
      · refine ⟨?_, ?_⟩
        · rw [Array.getElem?_push, if_neg (by simp [h.size]; omega), Array.getElem?_setIfInBounds_ne (by omega)]
          exact (h.kid l y hy').1
        · have hY := (h.kid l y hy').2.frame (w' := w) (Nat.le_refl _) (fun _ _ => rfl) (u := #[{ g := 0, fn := a.frame.fn, pos := a.frame.place, act := .go gs.size }, { g := gs.size, fn := (born Try.prog (childD bc bv bi bn)).frame.fn, pos := a.frame.place, act := .start }]) fun op ho => .inr (hu op ho)
          exact ⟨hY.lo, hY.self, hY.selfc, hY.box, hY.st⟩
      · refine ⟨?_, ?_, (fun b q => q.elim), hsc, hB.hc, ?_⟩
        · rw [Array.getElem?_push, if_pos (by simp [h.size])]
        · intro b hb
          have := h.pb b (hgive b (xall b hb))
          exact ⟨this.1, this.2.1⟩
        · exact ⟨hnew, hC, RelyC.refl _ _ _, tm, hch⟩
    · rcases get hl' with ⟨_, q1⟩ | ⟨q1, rfl⟩ <;> rcases get hm with ⟨_, q2⟩ | ⟨q2, rfl⟩
      · exact h.apart l m y y' b q1 q2 hne hb hb'
      · exact (h.pb b (hgive b (xall b hb'))).2.2 l y q1 hb
      · exact (h.pb b (hgive b (xall b hb))).2.2 m y' q2 hb'
      · exact hne (q1.trans q2.symm)
    · rcases get hy with ⟨_, q1⟩ | ⟨_, rfl⟩
      · exact (h.pb b hb.1).2.2 l y q1 hyb
      · exact hb.2 (xall b hyb)
    · show TrI _ (kidMap s.cur (kids ++ [x]))
      rw [hmap]
      have e : t ++ #[({ g := 0, fn := a.frame.fn, pos := a.frame.place, act := .go gs.size } : MemOp)] ++ #[{ g := gs.size, fn := (born Try.prog (childD bc bv bi bn)).frame.fn, pos := a.frame.place, act := .start }] = t ++ #[{ g := 0, fn := a.frame.fn, pos := a.frame.place, act := .go gs.size }, { g := gs.size, fn := (born Try.prog (childD bc bv bi bn)).frame.fn, pos := a.frame.place, act := .start }] := by rw [Array.append_assoc]; rfl
      rw [e] at hT
      exact hT
    · rcases touchAt_cases hc with ⟨_, hc'⟩ | ⟨_, op, ho, _, hta⟩
      · exact h.low i c' b hc' hb
      · rw [hu op ho] at hta; cases hta
    · rcases touchAt_cases hc with ⟨_, hc'⟩ | ⟨_, op, ho, _, hta⟩
      · exact h.pbobj i c' b hc' hb hp.1
      · rw [hu op ho] at hta; cases hta
  · rw [Array.getElem?_push, if_neg (by simp; omega), set_self hi]

/-- THE CALLER WAITS. -/
theorem Inv.wait0 (h : Inv B0 W0 Post s PB kids gs w t) (ha : gs[0]? = some a) (hl : Like a g) {c bc n m : Nat} {tm : Bool} (hc : s.cs[s.cur]? = some (c, bc)) (hst : stepG Try.prog true g w = .comm g #[rcase c z] true (.recv true) w #[])
    (hch : w.heap[c]? = some (.chan 1 #[] false n m tm)) :
    ∃ gs', runT Try.prog (crowd gs w sl) 0 = (.next (crowd gs' w sl), #[]) ∧ Inv B0 W0 Post s PB kids gs' w t ∧ gs'[0]? = some (parked g #[rcase c z] (.recv true)) ∧ CA s w g z (parked g #[rcase c z] (.recv true)) := by
  have hi : 0 < gs.size := (Array.getElem?_eq_some_iff.1 ha).1
  have hrun := crowd_waits (P := Try.prog) (sl := sl) ha (by rw [show ((0 : Nat) == 0) = true from rfl, hl.step]; exact hst) fun cc hcc => by
    simp at hcc
    subst hcc
    exact ways_recv_none hch (h.no_send (g := g) (z := z) ha (.run hl) 0 c)
  refine ⟨_, hrun, ⟨by simp [h.size], fun l y hy => ⟨by rw [set_other (by omega)]; exact (h.kid l y hy).1, (h.kid l y hy).2⟩, h.link, h.cur, h.got, h.vs, h.apart, h.pb, h.tr, h.low, h.pbobj, h.base, h.b0, h.glob, h.tape, h.os, h.output⟩, set_self hi, .wait c bc n m tm hc hch⟩

/-- THE CALLER AT ITS RECEIVE. -/
theorem Inv.recv0 (h : Inv B0 W0 Post s PB kids gs w t) (ha : gs[0]? = some a) (hl : Like a g) {c bc : Nat} (hc : s.cs[s.cur]? = some (c, bc)) (hgot : s.got = false) (hst : stepG Try.prog true g w = .comm g #[rcase c z] true (.recv true) w #[]) :
    (∃ gs' w' u V, (∃ W, Post s.cur V W) ∧ runT Try.prog (crowd gs w sl) 0 = (.next (crowd gs' w' sl), u) ∧ Inv B0 W0 Post (s.take V) PB kids gs' w' (t ++ u) ∧ RelyC PB s.rd w w' ∧ gs'[0]? = some (Go.Conc.served g (recvd true V true))) ∨
    ∃ gs', runT Try.prog (crowd gs w sl) 0 = (.next (crowd gs' w sl), #[]) ∧ Inv B0 W0 Post s PB kids gs' w t ∧ gs'[0]? = some (parked g #[rcase c z] (.recv true)) ∧ CA s w g z (parked g #[rcase c z] (.recv true)) := by
  have hi : 0 < gs.size := (Array.getElem?_eq_some_iff.1 ha).1
  obtain ⟨x, hk, rfl, rfl⟩ := h.cur_kid hc
  have hnh : ¬ s.has s.cur := fun q => q.elim (fun q => Nat.lt_irrefl _ q) fun q => by rw [hgot] at q; cases q.2
  have buf : ∀ {V : Value} {cl tm : Bool}, (∃ W, Post s.cur V W) → w.heap[x.c]? = some (.chan 1 #[V] cl 1 0 tm) → ∃ gs' w' u V, (∃ W, Post s.cur V W) ∧ runT Try.prog (crowd gs w sl) 0 = (.next (crowd gs' w' sl), u) ∧ Inv B0 W0 Post (s.take V) PB kids gs' w' (t ++ u) ∧ RelyC PB s.rd w w' ∧ gs'[0]? = some (Go.Conc.served g (recvd true V true)) := by
    intro V cl tm hPV hch
    have hrun := crowd_recv_buf (P := Try.prog) (sl := sl) ha (by rw [show ((0 : Nat) == 0) = true from rfl, hl.step]; exact hst) hch (by simp) (h.no_send (g := g) (z := z) ha (.run hl) 0 x.c)
    rw [finishComm_recv] at hrun
    obtain ⟨_, _, hI⟩ := h.took (gs' := gs.setIfInBounds 0 (Go.Conc.served g (recvd true V true))) (u := #[{ g := 0, fn := g.frame.fn, pos := g.frame.place, act := .recv x.c 0 1 }, { g := 0, fn := g.frame.fn, pos := g.frame.place, act := .recvDone x.c 0 }]) hgot hk hch (fun op ho => by
      simp at ho
      rcases ho with rfl | rfl <;> exact ⟨rfl, fun m e => (by cases e)⟩) (by simp) fun j => set_other (by omega)
    refine ⟨gs.setIfInBounds 0 (Go.Conc.served g (recvd true V true)), _, _, V, hPV, hrun.trans ?_, hI, h.rely_kid hk (Nat.le_of_eq chan_size.symm) fun b _ _ hb => keep_chan b hb, set_self hi⟩
    rfl
  have hS := (h.kid _ x hk).2.st
  unfold KidS at hS
  cases hx : x.st with
  | work =>
    rw [hx] at hS
    obtain ⟨_, _, _, tm, h4⟩ := hS
    exact .inr (h.wait0 ha hl hc hst h4)
  | aft j =>
    rw [hx] at hS
    obtain ⟨_, _, V, tm, h3, h4⟩ := hS
    exact .inl (buf ⟨w, h3 w fun _ _ => rfl⟩ (h4.2 hnh))
  | leave q =>
    rw [hx] at hS
    obtain ⟨_, ⟨V, tm, h3, h4⟩, _⟩ := hS
    exact .inl (buf ⟨w, h3 w fun _ _ => rfl⟩ (h4.2 hnh))

/-- THE CALLER AT ITS SECOND RECEIVE. -/
theorem Inv.shut0 (h : Inv B0 W0 Post s PB kids gs w t) (ha : gs[0]? = some a) (hl : Like a g) {c bc : Nat} (hc : s.cs[s.cur]? = some (c, bc)) (hgot : s.got = true) (hst : stepG Try.prog true g w = .comm g #[rcase c z] true (.recv true) w #[]) :
    (∃ gs' u, runT Try.prog (crowd gs w sl) 0 = (.next (crowd gs' w sl), u) ∧ Inv B0 W0 Post s.next PB kids gs' w (t ++ u) ∧ gs'[0]? = some (Go.Conc.served g (recvd true z false))) ∨
    ∃ gs', runT Try.prog (crowd gs w sl) 0 = (.next (crowd gs' w sl), #[]) ∧ Inv B0 W0 Post s PB kids gs' w t ∧ gs'[0]? = some (parked g #[rcase c z] (.recv true)) ∧ CA s w g z (parked g #[rcase c z] (.recv true)) := by
  have hi : 0 < gs.size := (Array.getElem?_eq_some_iff.1 ha).1
  obtain ⟨x, hk, rfl, rfl⟩ := h.cur_kid hc
  have hh : s.has s.cur := .inr ⟨rfl, hgot⟩
  have hS := (h.kid _ x hk).2.st
  unfold KidS at hS
  cases hx : x.st with
  | work =>
    rw [hx] at hS
    exact absurd hh hS.1
  | aft j =>
    rw [hx] at hS
    obtain ⟨_, _, V, tm, _, h4⟩ := hS
    exact .inr (h.wait0 ha hl hc hst (h4.1 hh).1)
  | leave q =>
    rw [hx] at hS
    obtain ⟨_, ⟨V, tm, _, h4⟩, _⟩ := hS
    have hch := (h4.1 hh).1
    have hrun := crowd_recv_closed (P := Try.prog) (sl := sl) ha (by rw [show ((0 : Nat) == 0) = true from rfl, hl.step]; exact hst) hch (h.no_send (g := g) (z := z) ha (.run hl) 0 x.c)
    rw [finishComm_recv] at hrun
    refine .inl ⟨gs.setIfInBounds 0 (Go.Conc.served g (recvd true z false)), #[{ g := 0, fn := g.frame.fn, pos := g.frame.place, act := .recvClosed x.c }], hrun.trans rfl, h.shut hgot hk hch ⟨rfl, rfl⟩ (by simp) (fun j => set_other (by omega)), set_self hi⟩

/-- Who waits, waits for a child that runs. -/
theorem Inv.wait_runs (h : Inv B0 W0 Post s PB kids gs w t) {c bc n m : Nat} {tm : Bool} (hc : s.cs[s.cur]? = some (c, bc)) (hch : w.heap[c]? = some (.chan 1 #[] false n m tm)) : ∃ (i : Nat) (b : Goroutine), gs[i]? = some b ∧ b.status = .running := by
  obtain ⟨x, hk, rfl, rfl⟩ := h.cur_kid hc
  refine ⟨s.cur + 1, x.g, (h.kid _ x hk).1, ?_⟩
  have hS := (h.kid _ x hk).2.st
  unfold KidS at hS
  cases hx : x.st with
  | work => rw [hx] at hS; exact hS.2.1.running
  | aft j => rw [hx] at hS; exact hS.1.running
  | leave q =>
    rw [hx] at hS
    obtain ⟨_, ⟨V, tm', _, h4⟩, _⟩ := hS
    exfalso
    by_cases hh : s.has s.cur
    · have := (h4.1 hh).1
      rw [hch] at this; cases this
    · have := h4.2 hh
      rw [hch] at this; cases this
end
end Go.Proofs.Ytlndinigbppafaa

/-
  THE MACHINE: a caller on its way and its children, on whatever tape: it comes to its end, its children only leave.
-/
namespace Go.Proofs.Ytlndinigbppafaa
open Go.Sim Go.Conc

section
variable {B0 : Nat} {W0 : World} {Post : Nat → Value → World → Prop} {s : St} {PB : Nat → Prop} {kids : List Kid} {gs : Array Goroutine} {w w' : World} {t u : Trace} {k cur : Nat} {x x' : Kid} {a g g' : Goroutine} {z : Value} {sl : Option (Nat × Nat)}
variable {ver : Value} {N : Nat} {Fin : St → (Nat → Prop) → Goroutine → World → Prop}

/-- The machine comes to the caller's end. -/
def Ends (B0 : Nat) (W0 : World) (Post : Nat → Value → World → Prop) (Fin : St → (Nat → Prop) → Goroutine → World → Prop) (gs : Array Goroutine) (w : World) (sl : Option (Nat × Nat)) (t : Trace) : Prop :=
  ∃ n gs' w' sl' t' s' PB' kids' a' g', runNT Try.prog n (crowd gs w sl) t = (.next (crowd gs' w' sl'), t') ∧ Inv B0 W0 Post s' PB' kids' gs' w' t' ∧ s'.cur = s'.cs.length ∧ s'.got = false ∧ gs'[0]? = some a' ∧ Like a' g' ∧ Fin s' PB' g' w'

theorem Ends.step {gs' : Array Goroutine} {sl' sl2 : Option (Nat × Nat)} {d i : Nat} (h1 : stepT Try.prog (crowd gs w sl) = runT Try.prog (crowd gs (w.at d) sl') i) (h2 : runT Try.prog (crowd gs (w.at d) sl') i = (.next (crowd gs' w' sl2), u)) (h : Ends B0 W0 Post Fin gs' w' sl2 (t ++ u)) : Ends B0 W0 Post Fin gs w sl t := by
  obtain ⟨n, r⟩ := h
  refine ⟨n + 1, ?_⟩
  simp only [runNT, h1, h2]
  exact r

theorem Inv.awake (h : Inv B0 W0 Post s PB kids gs w t) (ha : gs[0]? = some a) (hca : CA s w g z a) : ∀ b ∈ gs, Go.Conc.awake b := by
  intro b hb
  obtain ⟨i, hi, rfl⟩ := Array.mem_iff_getElem.1 hb
  cases i with
  | zero =>
    have : gs[0] = a := by simpa [Array.getElem?_eq_getElem hi] using ha
    rw [this]
    cases hca with
    | run h => exact awake_of (.inl h.run)
    | wait => exact awake_of (.inr (.inl rfl))
  | succ j =>
    have hj : j < kids.length := by rw [h.size] at hi; omega
    have := h.kid j _ (List.getElem?_eq_getElem hj)
    rw [Array.getElem?_eq_getElem hi] at this
    rw [Option.some.inj this.1]
    exact awake_of (this.2.status.elim .inl fun q => .inr (.inr q))

theorem Inv.who (h : Inv B0 W0 Post s PB kids gs w t) {i : Nat} {b : Goroutine} (hb : gs[i + 1]? = some b) : ∃ x, kids[i]? = some x ∧ x.g = b := by
  have hj : i < kids.length := by
    have := (Array.getElem?_eq_some_iff.1 hb).1
    rw [h.size] at this; omega
  have := h.kid i _ (List.getElem?_eq_getElem hj)
  rw [hb] at this
  exact ⟨_, List.getElem?_eq_getElem hj, (Option.some.inj this.1).symm⟩

/-- A caller that goes on whatever its children do. -/
theorem ends_go
    (hown : ∀ kids gs w₁ t a sl, Inv B0 W0 Post s PB kids gs w₁ t → RelyC PB s.rd w w₁ → gs[0]? = some a → Like a g → ∃ gs' w' u, runT Try.prog (crowd gs w₁ sl) 0 = (.next (crowd gs' w' sl), u) ∧ Ends B0 W0 Post Fin gs' w' sl (t ++ u)) :
    ∀ kids, Acc (LL Kid.lt) kids → ∀ gs w₁ t a sl, Inv B0 W0 Post s PB kids gs w₁ t → RelyC PB s.rd w w₁ → gs[0]? = some a → Like a g → Ends B0 W0 Post Fin gs w₁ sl t := by
  intro kids hacc
  induction hacc with
  | intro kids _ ih =>
    intro gs w₁ t a sl hI hR ha hl
    obtain ⟨i, b, d, sl', hb, hbr, hst⟩ := crowd_pick (P := Try.prog) (w := w₁) (sl := sl) (hI.awake (g := g) (z := undef) ha (.run hl)) ⟨0, a, ha, hl.run⟩
    have hR' : RelyC PB s.rd w (w₁.at d) := ⟨hR.size, hR.keep⟩
    cases i with
    | zero =>
      obtain ⟨gs', w', u, r1, r2⟩ := hown kids gs (w₁.at d) t a sl' (hI.at d) hR' ha hl
      exact Ends.step hst r1 r2
    | succ i =>
      obtain ⟨x, hx, rfl⟩ := hI.who hb
      rcases (hI.at d).kid_any (sl := sl') hx ha (.run (z := undef) hl) hbr with ⟨gs', w', u, x', a', r1, r2, r3, r4, r5, r6, r7⟩ | ⟨c, bc, q1, q2, _⟩
      · have := r7 a ha hl.run
        subst this
        exact Ends.step hst r1 (ih _ (LL.set hx r2) gs' w' (t ++ u) a' sl' r3 (hR'.trans r4) r5 hl)
      · have := hl.run
        rw [q2] at this; cases this

/-- A caller at a receive. -/
theorem ends_wait
    (hown : ∀ kids gs w₁ t a sl, Inv B0 W0 Post s PB kids gs w₁ t → RelyC PB s.rd w w₁ → gs[0]? = some a → Like a g →
      (∃ gs' w' u, runT Try.prog (crowd gs w₁ sl) 0 = (.next (crowd gs' w' sl), u) ∧ Ends B0 W0 Post Fin gs' w' sl (t ++ u)) ∨
      ∃ gs' a', runT Try.prog (crowd gs w₁ sl) 0 = (.next (crowd gs' w₁ sl), #[]) ∧ Inv B0 W0 Post s PB kids gs' w₁ t ∧ gs'[0]? = some a' ∧ a'.status = .blocked ∧ CA s w₁ g z a')
    (hmeet : s.got = false → ∀ V kids gs w₁ t sl, (∃ W, Post s.cur V W) → Inv B0 W0 Post (s.take V) PB kids gs w₁ t → RelyC PB s.rd w w₁ → gs[0]? = some (Go.Conc.served g (recvd true V true)) → Ends B0 W0 Post Fin gs w₁ sl t) :
    ∀ kids, Acc (LL Kid.lt) kids → ∀ gs w₁ t a sl, Inv B0 W0 Post s PB kids gs w₁ t → RelyC PB s.rd w w₁ → gs[0]? = some a → CA s w₁ g z a → Ends B0 W0 Post Fin gs w₁ sl t := by
  intro kids hacc
  induction hacc with
  | intro kids _ ih =>
    have kid : ∀ gs w₁ t a sl sl' d i (b : Goroutine), Inv B0 W0 Post s PB kids gs w₁ t → RelyC PB s.rd w w₁ → gs[0]? = some a → CA s w₁ g z a → gs[i + 1]? = some b → b.status = .running → stepT Try.prog (crowd gs w₁ sl) = runT Try.prog (crowd gs (w₁.at d) sl') (i + 1) → Ends B0 W0 Post Fin gs w₁ sl t := by
      intro gs w₁ t a sl sl' d i b hI hR ha hca hb hbr hst
      have hR' : RelyC PB s.rd w (w₁.at d) := ⟨hR.size, hR.keep⟩
      have hca' : CA s (w₁.at d) g z a := by
        cases hca with
        | run h => exact .run h
        | wait c bc n m tm h1 h2 => exact .wait c bc n m tm h1 h2
      obtain ⟨x, hx, rfl⟩ := hI.who hb
      rcases (hI.at d).kid_any (sl := sl') hx ha hca' hbr with ⟨gs', w', u, x', a', r1, r2, r3, r4, r5, r6, r7⟩ | ⟨c, bc, q1, q2, q3, q4, gs', w', u, x', V, r0, r1, r2, r3, r4⟩
      · exact Ends.step hst r1 (ih _ (LL.set hx r2) gs' w' (t ++ u) a' sl' r3 (hR'.trans r4) r5 r6)
      · exact Ends.step hst r1 (hmeet q4 V _ gs' w' (t ++ u) sl' r0 r2 (hR'.trans r3) r4)
    have parked : ∀ gs w₁ t a sl, Inv B0 W0 Post s PB kids gs w₁ t → RelyC PB s.rd w w₁ → gs[0]? = some a → a.status = .blocked → CA s w₁ g z a → Ends B0 W0 Post Fin gs w₁ sl t := by
      intro gs w₁ t a sl hI hR ha hab hca
      have hsome : ∃ (i : Nat) (b : Goroutine), gs[i]? = some b ∧ b.status = .running := by
        cases hca with
        | run h => rw [h.run] at hab; cases hab
        | wait c bc n m tm h1 h2 => exact hI.wait_runs h1 h2
      obtain ⟨i, b, d, sl', hb, hbr, hst⟩ := crowd_pick (P := Try.prog) (w := w₁) (sl := sl) (hI.awake ha hca) hsome
      cases i with
      | zero =>
        rw [ha] at hb; cases hb
        rw [hab] at hbr; cases hbr
      | succ i => exact kid gs w₁ t a sl sl' d i b hI hR ha hca hb hbr hst
    intro gs w₁ t a sl hI hR ha hca
    by_cases hab : a.status = .blocked
    · exact parked gs w₁ t a sl hI hR ha hab hca
    have hl : Like a g := by
      cases hca with
      | run h => exact h
      | wait => exact absurd rfl hab
    obtain ⟨i, b, d, sl', hb, hbr, hst⟩ := crowd_pick (P := Try.prog) (w := w₁) (sl := sl) (hI.awake ha hca) ⟨0, a, ha, hl.run⟩
    cases i with
    | zero =>
      have hR' : RelyC PB s.rd w (w₁.at d) := ⟨hR.size, hR.keep⟩
      rcases hown kids gs (w₁.at d) t a sl' (hI.at d) hR' ha hl with ⟨gs', w', u, r1, r2⟩ | ⟨gs', a', r1, r2, r3, r4, r5⟩
      · exact Ends.step hst r1 r2
      · refine Ends.step hst r1 ?_
        rw [Array.append_empty]
        exact parked gs' (w₁.at d) t a' sl' r2 hR' r3 r4 r5
    | succ i => exact kid gs w₁ t a sl sl' d i b hI hR ha hca hb hbr hst

theorem PS.running (h : PS ver N Fin s PB g w) : g.status = .running := by cases h <;> assumption
theorem Like.refl (h : g.status = .running) : Like g g := ⟨h, rfl, rfl, rfl⟩

/-- ████ THE MACHINE ████ -/
theorem machine (hV : ∀ k V w, Post k V w → Sl V) (hM : ∀ k bc bv bi bn c, k < N → MemberC bc bv bi bn c ver k N (Post k)) (h : PS ver N Fin s PB g w) :
    ∀ kids gs w₁ t a sl, Inv B0 W0 Post s PB kids gs w₁ t → RelyC PB s.rd w w₁ → gs[0]? = some a → Like a g → Ends B0 W0 Post Fin gs w₁ sl t := by
  induction h with
  | @go s PB g w h1 h2 h3 ih =>
    intro kids gs w₁ t a sl hI
    refine ends_go (fun kids gs w₁ t a sl hI hR ha hl => ?_) kids hI.acc gs w₁ t a sl hI
    obtain ⟨g', w', es, e, hG, hN⟩ := h2 w₁ hR
    obtain ⟨gs', u, r1, r2, r3⟩ := hI.go0 (sl := sl) ha hl e hG hN
    exact ⟨gs', w', u, r1, ih w₁ g' w' es hR e kids gs' w' (t ++ u) g' sl r2 (RelyC.refl _ _ _) r3 (Like.refl (h3 w₁ g' w' es hR e).running)⟩
  | @spawn s PB g g' w bc bv bi bn c tm h1 h2 h3 h4 h5 h6 h7 h8 ih =>
    intro kids gs w₁ t a sl hI
    refine ends_go (fun kids gs w₁ t a sl hI hR ha hl => ?_) kids hI.acc gs w₁ t a sl hI
    have kp : ∀ b, PB b → w₁.heap[b]? = w.heap[b]? := fun b hb => hR.keep b (.inl hb)
    have hB : Boxes bc bv bi bn c ver s.cs.length N w₁ := ⟨by rw [kp _ (h2 _ (.inl (.inl rfl)))]; exact h6.hc, by rw [kp _ (h2 _ (.inl (.inr (.inl rfl))))]; exact h6.hv, by rw [kp _ (h2 _ (.inl (.inr (.inr (.inl rfl)))))]; exact h6.hi, by rw [kp _ (h2 _ (.inl (.inr (.inr (.inr rfl)))))]; exact h6.hn⟩
    obtain ⟨gs', u, x, r1, r2, r3⟩ := hI.spawn0 (sl := sl) ha hl (h5 w₁ hR) h2 h3 hB (by rw [kp _ (h2 _ (.inr rfl))]; exact h7) (hM _ bc bv bi bn c h4)
    refine ⟨gs', w₁, u, r1, ih _ gs' w₁ (t ++ u) g' sl r2 ⟨hR.size, fun b hb => ?_⟩ r3 (Like.refl h8.running)⟩
    rcases hb with hb | ⟨p, hp, rfl⟩
    · exact kp b hb.1
    · have hp' : p ∈ s.cs ++ [(c, bc)] := hp
      rcases List.mem_append.1 hp' with hp' | hp'
      · exact hR.keep _ (.inr ⟨p, hp', rfl⟩)
      · simp at hp'
        subst hp'
        exact kp _ (h2 _ (.inl (.inl rfl)))
  | @recv s PB g w c bc z h1 h2 h3 h4 h5 ih =>
    intro kids gs w₁ t a sl hI hR ha hl
    refine ends_wait (z := z) (w := w) (fun kids gs w₁ t a sl hI hR ha hl => ?_) (fun _ V kids gs w₁ t sl hP hI hR ha => ih V w₁ (hP.elim fun W q => hV _ _ _ q) hR kids gs w₁ t _ sl hI (RelyC.refl _ _ _) ha (Like.refl rfl)) kids hI.acc gs w₁ t a sl hI hR ha (.run hl)
    rcases hI.recv0 (sl := sl) ha hl h2 h3 (h4 w₁ hR) with ⟨gs', w', u, V, r0, r1, r2, r3, r4⟩ | ⟨gs', r1, r2, r3, r4⟩
    · exact .inl ⟨gs', w', u, r1, ih V w' (r0.elim fun W q => hV _ _ _ q) (hR.trans r3) kids gs' w' (t ++ u) _ sl r2 (RelyC.refl _ _ _) r4 (Like.refl rfl)⟩
    · exact .inr ⟨gs', _, r1, r2, r3, rfl, r4⟩
  | @shut s PB g w c bc z h1 h2 h3 h4 h5 ih =>
    intro kids gs w₁ t a sl hI hR ha hl
    refine ends_wait (z := z) (w := w) (fun kids gs w₁ t a sl hI hR ha hl => ?_) (fun q => by rw [h3] at q; cases q) kids hI.acc gs w₁ t a sl hI hR ha (.run hl)
    rcases hI.shut0 (sl := sl) ha hl h2 h3 (h4 w₁ hR) with ⟨gs', u, r1, r2, r3⟩ | ⟨gs', r1, r2, r3, r4⟩
    · exact .inl ⟨gs', w₁, u, r1, ih w₁ hR kids gs' w₁ (t ++ u) _ sl r2 (RelyC.refl _ _ _) r3 (Like.refl rfl)⟩
    · exact .inr ⟨gs', _, r1, r2, r3, rfl, r4⟩
  | @fin s PB g w h1 h2 h3 h4 =>
    intro kids gs w₁ t a sl hI hR ha hl
    exact ⟨0, gs, w₁, sl, t, s, PB, kids, a, g, rfl, hI, h2, h3, ha, hl, h4 w₁ hR⟩
end
end Go.Proofs.Ytlndinigbppafaa

/-
  The caller's script, told along its code.
-/
namespace Go.Proofs.Ytlndinigbppafaa
open Go.Sim Go.Conc

/-- What is held of the world stands whatever the children do. -/
def Stab (PB : Nat → Prop) (s : St) (F : World → Prop) : Prop := ∀ w w₁, F w → RelyC PB s.rd w w₁ → F w₁

/-- The value of a plain operation, which looks at no memory. -/
def pv (ρ : Operand → Value) : Op → Option Value
  | .move x => some (ρ x)
  | .assign x => some (ρ x)
  | .binOp op _ x y _ => match op, ρ x, ρ y with
    | .lss, .int k a, .int k' b => if k = k' then some (.bool (a < b)) else none
    | .add, .int k a, .int k' b => if k = k' then some (.int k (k.wrap (a + b))) else none
    | _, _, _ => none
  | .extract x i => match ρ x with
    | .tuple vs => vs[i]?
    | _ => none
  | .makeFunc f a c => some (.func f (a.map ρ) (c.map ρ))
  | _ => none

theorem pv_run {ρ : Operand → Value} {o : Oper} {v : Value} (h : pv ρ o.op = some v) (w : World) : (execOp ρ o).run Try.prog w = .ok (.value v) w ∧ (execOp ρ o).events Try.prog w #[] = #[] := by
  unfold execOp
  generalize o.op = op at h ⊢
  cases op with
  | move x => cases h; exact ⟨rfl, rfl⟩
  | assign x => cases h; exact ⟨rfl, rfl⟩
  | makeFunc f a c => cases h; exact ⟨rfl, rfl⟩
  | extract x i =>
    simp only [pv] at h
    dsimp only
    split at h
    · rename_i vs hv
      rw [hv]
      simp [Instr.extract, h]
    · cases h
  | binOp bop t x y _ =>
    simp only [pv] at h
    dsimp only
    split at h
    · rename_i k a k' b hx hy
      split at h
      · rename_i hk
        cases h
        subst hk
        rw [hx, hy]
        simp [eqGuard, binOp, Op.intCmp]
      · cases h
    · rename_i k a k' b hx hy
      split at h
      · rename_i hk
        cases h
        subst hk
        rw [hx, hy]
        simp [eqGuard, binOp, Op.intArith]
      · cases h
    · cases h
  | _ => cases h

/-- Plain operations, one behind the other. -/
def pureOps (ops : Array Oper) : List Nat → Act → Option Act
  | [], a => some a
  | i :: rest, a => match ops[i]? with
    | some o => match o.guard, pv a.eval o.op with
      | none, some v => pureOps ops rest (a.put o.dst v)
      | _, _ => none
    | none => none

section
variable {ver : Value} {N : Nat} {Fin : St → (Nat → Prop) → Goroutine → World → Prop} {s : St} {PB : Nat → Prop} {F : World → Prop} {b : Frame} {a a' : Act} {k : List Item} {cs : List Frame} {ops : Array Oper} {i : Nat} {rest : List Nat} {o : Oper} {g g' : Goroutine}

variable (ver N Fin s PB F g) in
/-- From wherever F holds, the script goes on. -/
def At : Prop := ∀ w, F w → PS ver N Fin s PB g w

theorem At.pure (hS : Stab PB s F) (hg : g.status = .running) (h : ∀ w, stepG Try.prog true g w = .go g' w #[]) (hk : At ver N Fin s PB F g') : At ver N Fin s PB F g :=
  fun w hw => PS.one hg fun w₁ hr => ⟨g', w₁, #[], h w₁, ⟨guar_none rfl rfl rfl rfl, fun e he => by simp at he⟩, by rw [grow_same rfl]; exact hk w₁ (hS w w₁ hw hr)⟩

theorem wanted_of {y : Nat → Option Bool} (h : o.guard = none) : Region.wanted o y = true := by unfold Region.wanted; rw [h]

/-- An operation that yields a value. -/
theorem At.op (hS : Stab PB s F) (hk : b.kind ≠ .early) (ho : ops[i]? = some o) (hg : o.guard = none)
    (h : ∀ w, F w → ∃ v w', (execOp a.eval o).run Try.prog w = .ok (.value v) w' ∧ (GuarC PB s.rd w w' (listed Try.prog b.fn a o w) ∧ NoObj (listed Try.prog b.fn a o w)) ∧ PS ver N Fin s (grow PB w w') (G (b.at (a.put o.dst v) (.inRegion ops rest :: k)) cs) w') :
    At ver N Fin s PB F (G (b.at a (.inRegion ops (i :: rest) :: k)) cs) := by
  intro w hw
  refine PS.one rfl fun w₁ hr => ?_
  obtain ⟨v, w', h1, h2, h3⟩ := h w₁ (hS w w₁ hw hr)
  exact ⟨_, w', _, stepG_value ho (wanted_of hg) hk h1, h2, h3⟩
/-- .. that yields nothing. -/
theorem At.op0 (hS : Stab PB s F) (hk : b.kind ≠ .early) (ho : ops[i]? = some o) (hg : o.guard = none)
    (h : ∀ w, F w → ∃ w', (execOp a.eval o).run Try.prog w = .ok .skip w' ∧ (GuarC PB s.rd w w' (listed Try.prog b.fn a o w) ∧ NoObj (listed Try.prog b.fn a o w)) ∧ PS ver N Fin s (grow PB w w') (G (b.at (a.put o.dst undef) (.inRegion ops rest :: k)) cs) w') :
    At ver N Fin s PB F (G (b.at a (.inRegion ops (i :: rest) :: k)) cs) := by
  intro w hw
  refine PS.one rfl fun w₁ hr => ?_
  obtain ⟨w', h1, h2, h3⟩ := h w₁ (hS w w₁ hw hr)
  exact ⟨_, w', _, stepG_none ho (wanted_of hg) hk h1, h2, h3⟩

/-- .. that looks at no memory. -/
theorem At.val {v : Value} (hS : Stab PB s F) (hk : b.kind ≠ .early) (ho : ops[i]? = some o) (hg : o.guard = none) (h : ∀ w, (execOp a.eval o).run Try.prog w = .ok (.value v) w ∧ (execOp a.eval o).events Try.prog w #[] = #[])
    (hK : At ver N Fin s PB F (G (b.at (a.put o.dst v) (.inRegion ops rest :: k)) cs)) : At ver N Fin s PB F (G (b.at a (.inRegion ops (i :: rest) :: k)) cs) := by
  refine At.pure hS rfl (fun w => ?_) hK
  rw [stepG_value ho (wanted_of hg) hk (h w).1]
  unfold listed
  rw [(h w).2, seen_none]

theorem At.pures {l : List Nat} (hS : Stab PB s F) (hk : b.kind ≠ .early) (h : pureOps ops l a = some a') (hK : At ver N Fin s PB F (G (b.at a' (.inRegion ops rest :: k)) cs)) : At ver N Fin s PB F (G (b.at a (.inRegion ops (l ++ rest) :: k)) cs) := by
  induction l generalizing a with
  | nil => cases h; exact hK
  | cons i l ih =>
    unfold pureOps at h
    split at h
    · rename_i o ho
      split at h
      · rename_i v hg hv
        exact At.val hS hk ho hg (pv_run hv) (ih h)
      · cases h
    · cases h

/-- A region of plain operations. -/
theorem At.region {id : Nat} (hS : Stab PB s F) (hk : b.kind ≠ .early) (h : pureOps ops (List.range ops.size) a = some a') (hK : At ver N Fin s PB F (G (b.at a' k) cs)) : At ver N Fin s PB F (G (b.at a (.code (.region id ops false) :: k)) cs) := by
  refine At.pure hS rfl (fun w => stepG_region) ?_
  have := At.pures (rest := []) (k := k) (cs := cs) hS hk h (At.pure hS rfl (fun w => stepG_region_end) hK)
  rwa [List.append_nil] at this
/-- Into a region. -/
theorem At.into {id : Nat} (hS : Stab PB s F) (hK : At ver N Fin s PB F (G (b.at a (.inRegion ops (List.range ops.size) :: k)) cs)) : At ver N Fin s PB F (G (b.at a (.code (.region id ops false) :: k)) cs) := At.pure hS rfl (fun _ => stepG_region) hK
theorem At.out (hS : Stab PB s F) (hK : At ver N Fin s PB F (G (b.at a k) cs)) : At ver N Fin s PB F (G (b.at a (.inRegion ops [] :: k)) cs) := At.pure hS rfl (fun _ => stepG_region_end) hK
theorem At.seq {x y : Code} (hS : Stab PB s F) (hK : At ver N Fin s PB F (G (b.at a (.code x :: .code y :: k)) cs)) : At ver N Fin s PB F (G (b.at a (.code (.seq x y) :: k)) cs) := At.pure hS rfl (fun _ => stepG_seq) hK
theorem At.skip (hS : Stab PB s F) (hK : At ver N Fin s PB F (G (b.at a k) cs)) : At ver N Fin s PB F (G (b.at a (.code .skip :: k)) cs) := At.pure hS rfl (fun _ => stepG_skip) hK
theorem At.inBlock {id : Nat} (hS : Stab PB s F) (hK : At ver N Fin s PB F (G (b.at a k) cs)) : At ver N Fin s PB F (G (b.at a (.inBlock id :: k)) cs) := At.pure hS rfl (fun _ => stepG_inBlock) hK
theorem At.block {id : Nat} {c : Code} (hS : Stab PB s F) (hK : At ver N Fin s PB F (G (b.at a (.code c :: .inBlock id :: k)) cs)) : At ver N Fin s PB F (G (b.at a (.code (.block id c) :: k)) cs) := At.pure hS rfl (fun _ => stepG_block) hK
theorem At.loop {c : Code} (hS : Stab PB s F) (hK : At ver N Fin s PB F (G (b.at a (.code c :: .inLoop c :: k)) cs)) : At ver N Fin s PB F (G (b.at a (.code (.loop c) :: k)) cs) := At.pure hS rfl (fun _ => stepG_loop) hK
theorem At.inLoop {c : Code} (hS : Stab PB s F) (hK : At ver N Fin s PB F (G (b.at a (.code c :: .inLoop c :: k)) cs)) : At ver N Fin s PB F (G (b.at a (.inLoop c :: k)) cs) := At.pure hS rfl (fun _ => stepG_inLoop) hK
theorem At.cond {c : Operand} {x y : Code} {t : Bool} (hS : Stab PB s F) (h : a.eval c = .bool t) (hK : At ver N Fin s PB F (G (b.at a (.code (if t then x else y) :: k)) cs)) : At ver N Fin s PB F (G (b.at a (.code (.cond c x y) :: k)) cs) := At.pure hS rfl (fun _ => stepG_cond h) hK
theorem At.exit {id : Nat} {k' : List Item} (hS : Stab PB s F) (h : exitTo id k = some k') (hK : At ver N Fin s PB F (G (b.at a k') cs)) : At ver N Fin s PB F (G (b.at a (.code (.exit id) :: k)) cs) := At.pure hS rfl (fun _ => stepG_exit h) hK
theorem At.ret (hS : Stab PB s F) (hK : At ver N Fin s PB F (G { b.at a (.code .ret :: k) with mode := .returning } cs)) : At ver N Fin s PB F (G (b.at a (.code .ret :: k)) cs) := At.pure hS rfl (fun _ => stepG_ret') hK

/-- A call by name. -/
theorem At.call {f : FuncId} {fn : Func} {c : Code} {args : Array Operand} {ats : Array TypeId} (hS : Stab PB s F) (hk : b.kind ≠ .early) (ho : ops[i]? = some o) (hg : o.guard = none) (hop : o.op = .call { callee := .value (.func f), args, argTypes := ats })
    (hf : Try.prog.funcs[f]? = some fn) (hname : (fn.name == "runtime.NumGoroutine") = false) (hb : fn.body = some c)
    (hK : At ver N Fin s PB F (G ((base f).at { tmps := args.map a.eval ++ Array.replicate (fn.ntmps - (args.map a.eval).size) undef, defers := [] } [.code c]) (b.at a (.inRegion ops (i :: rest) :: k) :: cs))) :
    At ver N Fin s PB F (G (b.at a (.inRegion ops (i :: rest) :: k)) cs) := by
  have hb' : fn.body.isNone = false := by rw [hb]; rfl
  refine At.pure hS rfl (fun w => ?_) hK
  rw [stepG_enter ho (wanted_of hg) hk (run_call_body hop hf hname hb'), enter_at _ hf hb]
  unfold listed
  rw [events_call_body hop hf hname hb', seen_none]
/-- The return to the caller. -/
theorem At.leave1 {fn : Func} {t : Tmp} {todo : List Item} {b₀ : Frame} {a₀ : Act} (hS : Stab PB s F) (hn : b.kind = .normal) (hd : a.defers = []) (hf : Try.prog.funcs[b.fn]? = some fn) (hr : fn.results = #[.tmp t])
    (hK : At ver N Fin s PB F (G (b₀.at (a₀.put ((ops[i]?).bind (·.dst)) (a.tmps.getD t undef)) (.inRegion ops rest :: k)) cs)) :
    At ver N Fin s PB F (G { b.at a todo with mode := .returning } (b₀.at a₀ (.inRegion ops (i :: rest) :: k) :: cs)) := by
  refine At.pure hS rfl (fun w => ?_) hK
  rw [stepG_leave hn hd hf (results_tmp hr _ Try.prog w) (events_results_tmp hr _ _), Frame.finish_at]
end

/-! ### memory -/
theorem guar_push {O Rd : Nat → Prop} {W : World} {o : Obj} {es : Array Event} (h : ∀ e ∈ es, e.loc = .mark .noRoom) : GuarC O Rd W { W with heap := W.heap.push o } es :=
  ⟨by simp, fun b hb _ => by show (W.heap.push o)[b]? = _; rw [Array.getElem?_push, if_neg (by omega)], rfl, rfl, rfl, fun e he => .inl (h e he)⟩
theorem grow_push {O : Nat → Prop} {W : World} {o : Obj} : grow O W { W with heap := W.heap.push o } = fun b => O b ∨ b = W.heap.size := by
  funext b
  unfold grow
  simp only [Array.size_push]
  apply propext
  constructor
  · rintro (h | h)
    · exact .inl h
    · right; omega
  · rintro (h | h)
    · exact .inl h
    · right; omega
theorem guar_cell {O Rd : Nat → Prop} {W : World} {A : Addr} {wr : Bool} {es : Array Event} (hb : O A.block ∨ (Rd A.block ∧ wr = false)) (he : ∀ e ∈ es, e = ⟨.cell A, wr, false⟩) : GuarC O Rd W W es :=
  ⟨Nat.le_refl _, fun _ _ _ => rfl, rfl, rfl, rfl, fun e h => by rw [he e h]; exact .inr ⟨rfl, A.block, .inl ⟨_, rfl, rfl⟩, hb.imp .inl id⟩⟩
theorem noObj_cell {A : Addr} {wr : Bool} {es : Array Event} (he : ∀ e ∈ es, e = ⟨.cell A, wr, false⟩) : NoObj es := fun e h b q => by rw [he e h] at q; cases q
theorem noObj_mark {es : Array Event} (he : ∀ e ∈ es, e.loc = .mark .noRoom) : NoObj es := fun e h b q => by rw [he e h] at q; cases q
end Go.Proofs.Ytlndinigbppafaa
