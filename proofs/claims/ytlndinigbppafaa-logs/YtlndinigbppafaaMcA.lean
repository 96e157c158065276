/-
  For the machine: a list of which one member falls; the children's rank.
-/
import Derived.Test.YtlndinigbppafaaChF
namespace Go.Sim

/-- One member of the list falls. -/
def LL {α : Type} (r : α → α → Prop) (l' l : List α) : Prop := ∃ pre x' x post, l' = pre ++ x' :: post ∧ l = pre ++ x :: post ∧ r x' x

theorem acc_cons {α : Type} {r : α → α → Prop} {a : α} (ha : Acc r a) : ∀ {l : List α}, Acc (LL r) l → Acc (LL r) (a :: l) := by
  induction ha with
  | intro a _ iha =>
    intro l hl
    induction hl with
    | intro l hl ihl =>
      refine Acc.intro _ fun m hm => ?_
      obtain ⟨pre, x', x, post, e1, e2, h⟩ := hm
      cases pre with
      | nil =>
        simp only [List.nil_append, List.cons.injEq] at e2
        obtain ⟨rfl, rfl⟩ := e2
        rw [e1]
        exact iha x' h (Acc.intro _ hl)
      | cons p pre =>
        simp only [List.cons_append, List.cons.injEq] at e2
        obtain ⟨rfl, rfl⟩ := e2
        rw [e1]
        exact ihl _ ⟨pre, x', x, post, rfl, rfl, h⟩
theorem acc_nil {α : Type} (r : α → α → Prop) : Acc (LL r) ([] : List α) := Acc.intro _ fun m hm => by
  obtain ⟨pre, x', x, post, _, e2, _⟩ := hm
  cases pre <;> cases e2
theorem acc_list {α : Type} {r : α → α → Prop} : ∀ {l : List α}, (∀ a ∈ l, Acc r a) → Acc (LL r) l
  | [], _ => acc_nil r
  | _ :: _, h => acc_cons (h _ (List.mem_cons_self ..)) (acc_list fun a ha => h a (List.mem_cons_of_mem _ ha))
theorem LL.set {α : Type} {r : α → α → Prop} {l : List α} {k : Nat} {x x' : α} (h : l[k]? = some x) (hr : r x' x) : LL r (l.set k x') l := by
  obtain ⟨hlt, rfl⟩ := List.getElem?_eq_some_iff.1 h
  exact ⟨l.take k, x', l[k], l.drop (k + 1), by rw [List.set_eq_take_append_cons_drop, if_pos hlt], by simp, hr⟩
end Go.Sim

namespace Go.Proofs.Ytlndinigbppafaa
open Go.Sim Go.Conc

inductive Stage
  | work | aft (j : Nat) | leave (q : Nat)

/-- What is kept of a child: its channel, its boxes, what it owns, its record, the world at its last own step. -/
structure Kid where
  c : Nat
  bc : Nat
  bv : Nat
  bi : Nat
  bn : Nat
  O : Nat → Prop
  g : Goroutine
  W : World
  st : Stage

/-- A child's own step makes it less. -/
def Kid.lt (x' x : Kid) : Prop := match x.st, x'.st with
  | .work, .work => x'.c = x.c ∧ x'.bc = x.bc ∧ x'.bv = x.bv ∧ x'.bi = x.bi ∧ x'.bn = x.bn ∧ ∃ W₁ es, RelyC x.O (RdB x.bc x.bv x.bi x.bn) x.W W₁ ∧ stepG Try.prog false x.g W₁ = .go x'.g x'.W es ∧ x'.O = grow x.O W₁ x'.W
  | .work, _ => True
  | .aft j, .aft j' => j' < j
  | .aft _, .leave _ => True
  | .leave q, .leave q' => q' < q
  | _, _ => False

theorem acc_leave : ∀ (q : Nat) (x : Kid), x.st = .leave q → Acc Kid.lt x := by
  intro q
  induction q using Nat.strongRecOn with
  | _ q ih =>
    intro x hx
    refine Acc.intro _ fun y hy => ?_
    unfold Kid.lt at hy
    rw [hx] at hy
    cases hs : y.st with
    | work => rw [hs] at hy; exact hy.elim
    | aft j => rw [hs] at hy; exact hy.elim
    | leave q' => rw [hs] at hy; exact ih q' hy y hs
theorem acc_aft : ∀ (j : Nat) (x : Kid), x.st = .aft j → Acc Kid.lt x := by
  intro j
  induction j using Nat.strongRecOn with
  | _ j ih =>
    intro x hx
    refine Acc.intro _ fun y hy => ?_
    unfold Kid.lt at hy
    rw [hx] at hy
    cases hs : y.st with
    | work => rw [hs] at hy; exact hy.elim
    | aft j' => rw [hs] at hy; exact ih j' hy y hs
    | leave q' => exact acc_leave q' y hs
theorem acc_work {c : Nat} {Rd : Nat → Prop} {Post : Value → World → Prop} {Then : Goroutine → Prop} {O : Nat → Prop} {g : Goroutine} {W : World} (h : Ch Try.prog c Rd Post Then O g W) :
    ∀ x : Kid, x.st = .work → x.O = O → x.g = g → x.W = W → Rd = RdB x.bc x.bv x.bi x.bn → Acc Kid.lt x := by
  induction h with
  | @go O g W h1 h2 h3 ih =>
    intro x hx e1 e2 e3 e4
    refine Acc.intro _ fun y hy => ?_
    unfold Kid.lt at hy
    rw [hx] at hy
    cases hs : y.st with
    | work =>
      rw [hs] at hy
      obtain ⟨_, b1, b2, b3, b4, W₁, es, hr, hst, hO⟩ := hy
      subst e1; subst e2; subst e3; subst e4
      exact ih W₁ y.g y.W es hr hst y hs hO rfl rfl (by rw [b1, b2, b3, b4])
    | aft j => exact acc_aft j y hs
    | leave q => exact acc_leave q y hs
  | @send O g W h1 h2 =>
    intro x hx e1 e2 e3 e4
    refine Acc.intro _ fun y hy => ?_
    unfold Kid.lt at hy
    rw [hx] at hy
    cases hs : y.st with
    | work =>
      rw [hs] at hy
      obtain ⟨_, _, _, _, _, W₁, es, hr, hst, _⟩ := hy
      subst e1; subst e2; subst e3; subst e4
      obtain ⟨g₂, V, z, hc, _⟩ := h2 W₁ hr
      rw [hc] at hst
      cases hst
    | aft j => exact acc_aft j y hs
    | leave q => exact acc_leave q y hs
end Go.Proofs.Ytlndinigbppafaa
