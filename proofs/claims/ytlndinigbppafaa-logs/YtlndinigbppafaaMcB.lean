/-
  The trace in a phase: who knows what.
-/
import Derived.Test.YtlndinigbppafaaMcA
import Derived.Conc.Beside
namespace Go.Sim
open Go.Conc

def blockOf : Loc → Option Nat
  | .cell a => some a.block
  | .obj r => some r
  | _ => none

/-- What the trace keeps of a child. -/
structure KidT where
  O : Nat → Prop
  Rd : Nat → Prop
  c : Nat

/-- Whose touch it may be, of a child that is not known through yet. -/
def KidT.may (x : KidT) (a : Touch) : Prop := ∃ b, blockOf a.loc = some b ∧ (x.O b ∨ (x.Rd b ∧ a.write = false) ∨ (a.loc = .obj x.c ∧ a.kind = .atomic))

structure TrI (t : Trace) (kid : Nat → Option KidT) : Prop where
  wl : Wordless t
  clean : ∀ said, ¬ Race said t
  touch : ∀ i a, touchAt t i = some a → a.loc.isMemory = true → Knows t 0 i ∨ ∃ γ x, kid γ = some x ∧ t.g? i = some γ ∧ x.may a
  own : ∀ γ x i a b, kid γ = some x → touchAt t i = some a → blockOf a.loc = some b → x.O b → t.g? i = some γ
  wr : ∀ γ x i a b, kid γ = some x → touchAt t i = some a → blockOf a.loc = some b → x.Rd b → a.write = true → Knows t γ i
  chan : ∀ γ x i a, kid γ = some x → touchAt t i = some a → a.loc = .obj x.c → a.kind = .atomic
  nokid0 : kid 0 = none
  apart : ∀ γ γ' x x' b, kid γ = some x → kid γ' = some x' → γ ≠ γ' → x.O b → ¬ x'.O b ∧ ¬ x'.Rd b
  apartOwn : ∀ γ x b, kid γ = some x → x.O b → ¬ x.Rd b ∧ b ≠ x.c

theorem knows_self {t : Trace} {i g : Nat} (h : t.g? i = some g) : Knows t g i := by
  unfold Trace.g? at h
  obtain ⟨z, hz, rfl⟩ := Option.map_eq_some_iff.1 h
  exact knows_own hz

theorem g?_old' {t u : Trace} {i g : Nat} (h : t.g? i = some g) : (t ++ u).g? i = some g := by
  unfold Trace.g? at h ⊢
  obtain ⟨z, hz, rfl⟩ := Option.map_eq_some_iff.1 h
  rw [getElem?_append_old (lt_size_of_getElem? hz), hz]
  rfl

theorem isMem_block {l : Loc} (h : l.isMemory = true) : ∃ b, blockOf l = some b := by
  cases l with
  | cell a => exact ⟨a.block, rfl⟩
  | obj r => exact ⟨r, rfl⟩
  | output => cases h
  | goroutines => cases h
  | mark m => cases h

theorem touchAt_cases {t u : Trace} {i : Nat} {a : Touch} (h : touchAt (t ++ u) i = some a) : (i < t.size ∧ touchAt t i = some a) ∨ (t.size ≤ i ∧ ∃ op ∈ u, (t ++ u)[i]? = some op ∧ op.act.touch? = some a) := by
  by_cases hi : i < t.size
  · exact .inl ⟨hi, by rw [touchAt_old hi] at h; exact h⟩
  · refine .inr ⟨by omega, ?_⟩
    obtain ⟨x, hx, hxa⟩ := touch_of h
    rcases getElem?_append_cases hx with ⟨hj, _⟩ | ⟨_, hu⟩
    · omega
    · exact ⟨x, hu, hx, hxa⟩

/-- THE CALLER's OWN STEP: it touches no block of a child's, and writes none that a child reads. -/
theorem TrI.own0 {t u : Trace} {kid : Nat → Option KidT} (h : TrI t kid) (hu : ∀ op ∈ u, op.g = 0) (hw : Wordless u)
    (hb : ∀ op ∈ u, ∀ a, op.act.touch? = some a → a.loc.isMemory = true → ∃ b, blockOf a.loc = some b ∧ a.kind = .plain ∧ ∀ γ x, kid γ = some x → ¬ x.O b ∧ (x.Rd b → a.write = false) ∧ b ≠ x.c) : TrI (t ++ u) kid := by
  have new : ∀ {i : Nat} {a : Touch} {op : MemOp}, op ∈ u → (t ++ u)[i]? = some op → Knows (t ++ u) 0 i := fun {i a op} ho hi => by
    have := knows_own hi
    rw [hu _ ho] at this
    exact this
  refine ⟨h.wl.append hw, fun said => noRace_append (h.clean said) hu fun i a ha op hop b hopb hc => ?_, fun i a ha hm => ?_, fun γ x i a b hk ha hbl hO => ?_, fun γ x i a b hk ha hbl hR hwr => ?_, fun γ x i a hk ha hl => ?_, h.nokid0, h.apart, h.apartOwn⟩
  · obtain ⟨hloc, hmem, hwr, hkd⟩ := hc
    rcases h.touch i a ha hmem with hk | ⟨γ, x, hk, hg, bl, hbl, hmay⟩
    · exact hk
    · exfalso
      obtain ⟨b', hb', hpl, hno⟩ := hb op hop b hopb (by rw [← hloc]; exact hmem)
      rw [hloc] at hbl
      rw [hb'] at hbl
      cases hbl
      obtain ⟨n1, n2, n3⟩ := hno γ x hk
      rcases hmay with hm | ⟨hm, hw'⟩ | ⟨hm, hat⟩
      · exact n1 hm
      · rcases hwr with e | e
        · rw [hw'] at e; cases e
        · rw [n2 hm] at e; cases e
      · apply n3
        rw [hloc] at hm
        rw [hm] at hb'
        simpa [blockOf] using hb'.symm
  · rcases touchAt_cases ha with ⟨hi, ha'⟩ | ⟨_, op, ho, hi, _⟩
    · rcases h.touch i a ha' hm with hk | ⟨γ, x, hk, hg, hmay⟩
      · exact .inl (hk.app u)
      · exact .inr ⟨γ, x, hk, g?_old' hg, hmay⟩
    · exact .inl (new (a := a) ho hi)
  · rcases touchAt_cases ha with ⟨hi, ha'⟩ | ⟨_, op, ho, hi, hta⟩
    · exact g?_old' (h.own γ x i a b hk ha' hbl hO)
    · exfalso
      have hm : a.loc.isMemory = true := by cases hl : a.loc <;> rw [hl] at hbl <;> first | rfl | cases hbl
      obtain ⟨b', hb', _, hno⟩ := hb op ho a hta hm
      rw [hbl] at hb'; cases hb'
      exact (hno γ x hk).1 hO
  · rcases touchAt_cases ha with ⟨hi, ha'⟩ | ⟨_, op, ho, hi, hta⟩
    · exact (h.wr γ x i a b hk ha' hbl hR hwr).app u
    · exfalso
      have hm : a.loc.isMemory = true := by cases hl : a.loc <;> rw [hl] at hbl <;> first | rfl | cases hbl
      obtain ⟨b', hb', _, hno⟩ := hb op ho a hta hm
      rw [hbl] at hb'; cases hb'
      rw [(hno γ x hk).2.1 hR] at hwr; cases hwr
  · rcases touchAt_cases ha with ⟨hi, ha'⟩ | ⟨_, op, ho, hi, hta⟩
    · exact h.chan γ x i a hk ha' hl
    · exfalso
      obtain ⟨b', hb', _, hno⟩ := hb op ho a hta (by rw [hl]; rfl)
      rw [hl] at hb'
      cases hb'
      exact (hno γ x hk).2.2 rfl
end Go.Sim
