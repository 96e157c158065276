/-
  A simulation up to a renaming of blocks: what a piece of the model's effects does in one world it does in any other that holds the same data under other block numbers, beside whatever else is there. Values, memory, and the rules by which effects are put together.
-/
import Derived.Calls
import Derived.Conc.Events
namespace Go.Sim

/-- Which block stands for which. -/
abbrev BR := Nat → Nat → Prop

def AR (R : BR) (a A : Addr) : Prop := R a.block A.block ∧ a.off = A.off ∧ a.spot = none ∧ A.spot = none

/-- The functions that a proof for one event comes to. -/
def names : List String := ["stele/stele.member", "stele/tree.MemberRule", "stele/tree.MemberRule$1", "(stele/tree.Stretch).Holds", "(stele/tree.Stretch).End", "(stele/tree.Stretch).LeftOut",
  "(stele/tree.leaf).Prune", "(stele/tree.two).Prune", "(stele/tree.alone).Prune", "stele/tree.leftOut", "slices.Concat[[]stele/api.Node,stele/api.Node]", "slices.Grow[[]stele/api.Node,stele/api.Node]",
  "stele/codec.Write", "stele/codec.head", "stele/codec.node", "stele/wire.Join", "stele/wire.Two",
  "stele/stele.Sum", "stele/stelekeep.rooted", "stele/stelekeep.kept", "stele/stelekeep.pick", "(*stele/stele.Log).Growth", "(*stele/stele.Log).Member", "(*stele/stele.Log).Root", "stele/sum.Of", "stele/stele.NewLog", "(*stele/stele.Log).Append", "(*stele/stele.Log).Len", "(*stele/stele.Log).check", "stele/stele.growth", "(*stele/stele.Log).version", "(*stele/stele.Log).closed", "strings.Clone", "stele/tree.GrowthRule", "stele/tree.Build", "internal/stringslite.Clone", "stele/tree.GrowthRule$1", "(stele/tree.Stretch).Below", "(stele/tree.Stretch).Beyond", "stele/tree.build", "stele/tree.Whole", "stele/tree.newLeaf", "(stele/tree.Stretch).Left", "(stele/tree.Stretch).Single", "stele/tree.newAlone", "stele/tree.newTwo", "(stele/tree.Stretch).Right", "math/bits.Len", "stele/tree.leafParts", "stele/tree.aloneParts", "stele/tree.twoParts", "math/bits.Len32", "math/bits.Len64", "(stele/tree.leaf).Digest", "(stele/tree.alone).Digest", "(stele/tree.two).Digest",
  "stele/stelelaw.begun", "(*stele/stelelaw.side).root", "(*stele/stelelaw.side).say", "(*stele/stelelaw.side).lay", "(*stele/stelelaw.side).version", "(*stele/stelelaw.side).want", "stele/stelelaw.num", "stele/steleref.Digest", "stele/steleref.Depth", "stele/steleref.power", "stele/steleref.kind", "stele/steleref.Tree", "stele/steleref.Bytes", "stele/steleref.Two", "stele/steleref.Sum", "(*stele/stele.Log).Commitment"]
/-- One of them, with a body. -/
def BodyOK (P : Program) (f : FuncId) : Prop := ∃ fn, P.funcs[f]? = some fn ∧ fn.body.isSome = true ∧ fn.name ∈ names
/-- A method that no type has from an embedded field, each of a function with a body. -/
def MethOK (P : Program) (name : String) : Prop := ∀ t i m, t < P.types.size → P.info? t = some i → i.methods.find? (·.name == name) = some m → m.path = #[] ∧ ∃ f pr, m.func = some (f, pr) ∧ BodyOK P f
/-- A function value that may be met. -/
def FnOK (P : Program) : Fn → Prop
  | .func f => BodyOK P f
  | .method name => MethOK P name
  | _ => False

inductive VR (P : Program) (R : BR) : Value → Value → Prop
  | bool (b : Bool) : VR P R (.bool b) (.bool b)
  | int (k : IntKind) (n : Int) : VR P R (.int k n) (.int k n)
  | string (s : ByteArray) : VR P R (.string s) (.string s)
  | nilPtr : VR P R (.pointer none) (.pointer none)
  | ptr {a A : Addr} : AR R a A → VR P R (.pointer (some a)) (.pointer (some A))
  | nilSlice (l c : Nat) : VR P R (.slice none l c) (.slice none l c)
  | slice {a A : Addr} (l c : Nat) : AR R a A → VR P R (.slice (some a) l c) (.slice (some A) l c)
  | nilMap : VR P R (.map none) (.map none)
  | nilChan : VR P R (.chan none) (.chan none)
  | func (f : Fn) {x X y Y : Array Value} : FnOK P f → x.size = X.size → (∀ (i : Nat) v V, x[i]? = some v → X[i]? = some V → VR P R v V) →
      y.size = Y.size → (∀ (i : Nat) v V, y[i]? = some v → Y[i]? = some V → VR P R v V) → VR P R (.func f x y) (.func f X Y)
  | nilFunc : VR P R .nilFunc .nilFunc
  | iface (t : TypeId) {v V : Value} : t < P.types.size → VR P R v V → VR P R (.iface t v) (.iface t V)
  | nilIface : VR P R .nilIface .nilIface
  | agg {x X : Array Value} : x.size = X.size → (∀ (i : Nat) v V, x[i]? = some v → X[i]? = some V → VR P R v V) → VR P R (.agg x) (.agg X)
  | tuple {x X : Array Value} : x.size = X.size → (∀ (i : Nat) v V, x[i]? = some v → X[i]? = some V → VR P R v V) → VR P R (.tuple x) (.tuple X)

def VRs (P : Program) (R : BR) (x X : Array Value) : Prop := x.size = X.size ∧ ∀ (i : Nat) v V, x[i]? = some v → X[i]? = some V → VR P R v V

theorem AR.mono {R R' : BR} (h : ∀ b B, R b B → R' b B) {a A : Addr} (ha : AR R a A) : AR R' a A := ⟨h _ _ ha.1, ha.2⟩
theorem VR.mono {P : Program} {R R' : BR} (h : ∀ b B, R b B → R' b B) {v V : Value} (hv : VR P R v V) : VR P R' v V := by
  induction hv with
  | bool b => exact .bool b
  | int k n => exact .int k n
  | string s => exact .string s
  | nilPtr => exact .nilPtr
  | ptr ha => exact .ptr (ha.mono h)
  | nilSlice l c => exact .nilSlice l c
  | slice l c ha => exact .slice l c (ha.mono h)
  | nilMap => exact .nilMap
  | nilChan => exact .nilChan
  | func f hf h1 _ h2 _ i1 i2 => exact .func f hf h1 i1 h2 i2
  | nilFunc => exact .nilFunc
  | iface t ht _ ih => exact .iface t ht ih
  | nilIface => exact .nilIface
  | agg h1 _ ih => exact .agg h1 ih
  | tuple h1 _ ih => exact .tuple h1 ih
theorem VRs.mono {P : Program} {R R' : BR} (h : ∀ b B, R b B → R' b B) {x X : Array Value} (hv : VRs P R x X) : VRs P R' x X := ⟨hv.1, fun i v V a b => (hv.2 i v V a b).mono h⟩

theorem VRs.get {P : Program} {R : BR} {x X : Array Value} (h : VRs P R x X) {i : Nat} {v : Value} (hi : x[i]? = some v) : ∃ V, X[i]? = some V ∧ VR P R v V := by
  obtain ⟨hlt, _⟩ := Array.getElem?_eq_some_iff.1 hi
  have : i < X.size := h.1 ▸ hlt
  exact ⟨X[i], Array.getElem?_eq_getElem this, h.2 i v _ hi (Array.getElem?_eq_getElem this)⟩
theorem VRs.nil {P : Program} {R : BR} : VRs P R #[] #[] := ⟨rfl, fun i v V h => by simp at h⟩
theorem VRs.one {P : Program} {R : BR} {v V : Value} (h : VR P R v V) : VRs P R #[v] #[V] := by
  refine ⟨rfl, fun i a A h1 h2 => ?_⟩
  cases i with
  | zero => simp at h1 h2; subst h1; subst h2; exact h
  | succ i => simp at h1
theorem VRs.append {P : Program} {R : BR} {x X y Y : Array Value} (h : VRs P R x X) (k : VRs P R y Y) : VRs P R (x ++ y) (X ++ Y) := by
  refine ⟨by simp [h.1, k.1], fun i v V h1 h2 => ?_⟩
  simp only [Array.getElem?_append] at h1 h2
  have e := h.1
  split at h1
  · rw [if_pos (by omega)] at h2; exact h.2 _ _ _ h1 h2
  · rw [if_neg (by omega), ← e] at h2; exact k.2 _ _ _ h1 h2
theorem VRs.push {P : Program} {R : BR} {x X : Array Value} (h : VRs P R x X) {v V : Value} (k : VR P R v V) : VRs P R (x.push v) (X.push V) := by
  have := h.append (VRs.one k)
  simpa using this
theorem VRs.extract {P : Program} {R : BR} {x X : Array Value} (h : VRs P R x X) (a b : Nat) : VRs P R (x.extract a b) (X.extract a b) := by
  refine ⟨by simp [h.1], fun i v V h1 h2 => ?_⟩
  simp only [Array.getElem?_extract] at h1 h2
  split at h1
  · split at h2
    · exact h.2 _ _ _ h1 h2
    · cases h2
  · cases h1
theorem VRs.rep {P : Program} {R : BR} (n : Nat) {v V : Value} (h : VR P R v V) : VRs P R (Array.replicate n v) (Array.replicate n V) := by
  refine ⟨by simp, fun i a A h1 h2 => ?_⟩
  simp only [Array.getElem?_replicate] at h1 h2
  split at h1
  · rename_i hi; rw [if_pos hi] at h2; cases h1; cases h2; exact h
  · cases h1
theorem VRs.set {P : Program} {R : BR} {x X : Array Value} (h : VRs P R x X) (i : Nat) {v V : Value} (k : VR P R v V) : VRs P R (x.setIfInBounds i v) (X.setIfInBounds i V) := by
  refine ⟨by simp [h.1], fun j a A h1 h2 => ?_⟩
  have e := h.1
  simp only [Array.getElem?_setIfInBounds] at h1 h2
  split at h1
  · rename_i hj; rw [if_pos hj] at h2
    split at h1
    · rw [if_pos (by omega)] at h2; cases h1; cases h2; exact k
    · cases h1
  · rename_i hj; rw [if_neg hj] at h2; exact h.2 _ _ _ h1 h2
theorem VRs.getD {P : Program} {R : BR} {x X : Array Value} (h : VRs P R x X) (i : Nat) {v V : Value} (k : VR P R v V) : VR P R (x.getD i v) (X.getD i V) := by
  have e := h.1
  by_cases hi : i < x.size
  · have hi' : i < X.size := by omega
    have := h.2 i _ _ (Array.getElem?_eq_getElem hi) (Array.getElem?_eq_getElem hi')
    simpa [Array.getD, hi, hi'] using this
  · have hi' : ¬ i < X.size := by omega
    simpa [Array.getD, hi, hi'] using k
theorem VR.cells {P : Program} {R : BR} {v V : Value} (h : VR P R v V) : VRs P R v.cells V.cells := by
  cases h with
  | agg h1 h2 => exact ⟨h1, h2⟩
  | _ => exact VRs.one (by constructor <;> assumption)

/-- A block and the one that stands for it: rows of cells, or numbers made of addresses. ('Shd': the blocks of the lone world that nobody writes: frozen there.) -/
inductive OR (P : Program) (Shd : Nat → Prop) (R : BR) (b : Nat) : Obj → Obj → Prop
  | cells {c C : Array Value} (t : TypeId) {fz Fz : Nat × Nat} : VRs P R c C → (¬ Shd b → fz = Fz) → (Shd b → ∀ i, i < c.size → fz.1 ≤ i ∧ i < fz.2) → OR P Shd R b (.cells c t fz) (.cells C t Fz)
  | number {a A : Addr} (lost : Bool) : AR R a A → ¬ Shd b → OR P Shd R b (.number a lost) (.number A lost)
theorem OR.mono {P : Program} {Shd : Nat → Prop} {R R' : BR} (h : ∀ b B, R b B → R' b B) {b : Nat} {o O : Obj} (ho : OR P Shd R b o O) : OR P Shd R' b o O := by
  cases ho with
  | cells t h1 h2 h3 => exact .cells t (h1.mono h) h2 h3
  | number l h1 h2 => exact .number l (h1.mono h) h2

structure WR (P : Program) (Shd : Nat → Prop) (R : BR) (w W : World) : Prop where
  dom : ∀ b B, R b B → ∃ o O, w.heap[b]? = some o ∧ W.heap[B]? = some O ∧ OR P Shd R b o O
  inj : ∀ b b' B B', R b B → R b' B' → (b = b' ↔ B = B')
  shd : ∀ b, Shd b → b < w.heap.size
  low : ∀ b B, R b B → P.globals.size ≤ b ∧ P.globals.size ≤ B
  glob : P.globals.size ≤ w.heap.size ∧ P.globals.size ≤ W.heap.size

/-- What a piece may have done, in the lone world and in the other. -/
structure EX (Shd : Nat → Prop) (R R' : BR) (w W w' W' : World) : Prop where
  sub : ∀ b B, R b B → R' b B
  new : ∀ b B, R' b B → R b B ∨ (w.heap.size ≤ b ∧ W.heap.size ≤ B)
  lsize : w.heap.size ≤ w'.heap.size
  size : W.heap.size ≤ W'.heap.size
  keep : ∀ B, B < W.heap.size → (∀ b, R b B → Shd b) → W'.heap[B]? = W.heap[B]?
  ltape : w'.tape = w.tape
  tape : W'.tape = W.tape
  drawn : ∃ k, w'.drawn = w.drawn + k ∧ W'.drawn = W.drawn + k
  los : w'.os = w.os
  os : W'.os = W.os
  output : W'.output = W.output

theorem EX.refl (Shd : Nat → Prop) (R : BR) (w W : World) : EX Shd R R w W w W :=
  ⟨fun _ _ h => h, fun _ _ h => .inl h, Nat.le_refl _, Nat.le_refl _, fun _ _ _ => rfl, rfl, rfl, ⟨0, rfl, rfl⟩, rfl, rfl, rfl⟩
theorem EX.trans {Shd : Nat → Prop} {R R' R'' : BR} {w W w' W' w'' W'' : World} (h : EX Shd R R' w W w' W') (k : EX Shd R' R'' w' W' w'' W'') : EX Shd R R'' w W w'' W'' where
  sub b B x := k.sub _ _ (h.sub _ _ x)
  new b B x := by
    rcases k.new _ _ x with x | ⟨x, y⟩
    · exact h.new _ _ x
    · exact .inr ⟨Nat.le_trans h.lsize x, Nat.le_trans h.size y⟩
  lsize := Nat.le_trans h.lsize k.lsize
  size := Nat.le_trans h.size k.size
  keep B hB hs := by
    rw [k.keep B (Nat.lt_of_lt_of_le hB h.size) (fun b x => ?_), h.keep B hB hs]
    rcases h.new _ _ x with x | ⟨_, y⟩
    · exact hs _ x
    · omega
  ltape := k.ltape.trans h.ltape
  tape := k.tape.trans h.tape
  drawn := by
    obtain ⟨a, a1, a2⟩ := h.drawn
    obtain ⟨b, b1, b2⟩ := k.drawn
    exact ⟨a + b, by omega, by omega⟩
  los := k.los.trans h.los
  os := k.os.trans h.os
  output := k.output.trans h.output

/-- An entry of the trace that the other world's piece may list: a plain touch of a block that stands for one of ours, and no write of a shared one. -/
def EvOK (Shd : Nat → Prop) (R : BR) (e : Event) : Prop :=
  e.loc = .mark .noRoom ∨ (e.sync = false ∧ ∃ b B, R b B ∧ ((∃ A : Addr, e.loc = .cell A ∧ A.block = B) ∨ e.loc = .obj B) ∧ (e.write = true → ¬ Shd b))
theorem EvOK.mono {Shd : Nat → Prop} {R R' : BR} (h : ∀ b B, R b B → R' b B) {e : Event} (he : EvOK Shd R e) : EvOK Shd R' e := by
  rcases he with he | ⟨e0, b, B, e1, e2, e3⟩
  · exact .inl he
  · exact .inr ⟨e0, b, B, h _ _ e1, e2, e3⟩

/-- The ways in which a piece may fail: never such as lets the goroutine wait, or begin something else. -/
def HaltOK : Halt → Prop
  | .panic _ | .stuck _ => True
  | .unsupported (.initOrder _) => False
  | .unsupported _ => True
  | _ => False
def Mild (P : Program) {α : Type} (s : Sem α) : Prop := ∀ w h w', s.run P w = .halt h w' → HaltOK h
def Dead (P : Program) {α : Type} (s : Sem α) : Prop := ∀ w, ∃ h w', s.run P w = .halt h w' ∧ HaltOK h

/-- A world on another tape. -/
def _root_.Go.World.tp (w : World) (τ : Nat → Question → Nat) : World := { w with tape := τ }

def Sim (P : Program) (Shd : Nat → Prop) {α β : Type} (Q : BR → α → β → Prop) (R : BR) (s : Sem α) (S : Sem β) : Prop :=
  ∀ w W, WR P Shd R w W → (∀ j q, w.tape (w.drawn + j) q = W.tape (W.drawn + j) q) → (∀ h w', s.run P w = .halt h w' → HaltOK h) ∧ ∀ a w', s.run P w = .ok a w' →
    ∃ R' b W', S.run P W = .ok b W' ∧ Q R' a b ∧ WR P Shd R' w' W' ∧ EX Shd R R' w W w' W' ∧ (∀ e ∈ S.events P W #[], EvOK Shd R' e) ∧
      ∀ τ, (∀ j q, w.drawn ≤ j → j < w'.drawn → τ j q = w.tape j q) → s.run P (w.tp τ) = .ok a (w'.tp τ)

section
variable {P : Program} {Shd : Nat → Prop} {α β γ δ : Type} {Q : BR → α → β → Prop} {Q' : BR → γ → δ → Prop} {R : BR}

theorem Sim.pure {a : α} {b : β} (h : Q R a b) : Sim P Shd Q R (Pure.pure a) (Pure.pure b) := by
  intro w W hw ht
  refine ⟨fun h w' e => (by cases e), fun a' w' e => ?_⟩
  cases e
  exact ⟨R, b, W, rfl, h, hw, EX.refl _ _ _ _, by simp, fun τ _ => rfl⟩

theorem Sim.dead {s : Sem α} {S : Sem β} (h : Dead P s) : Sim P Shd Q R s S := by
  intro w W _ _
  obtain ⟨x, w', e, hx⟩ := h w
  exact ⟨fun y w'' e' => by rw [e] at e'; cases e'; exact hx, fun a w'' e' => by rw [e] at e'; cases e'⟩

theorem Sim.bind {s : Sem α} {S : Sem β} {f : α → Sem γ} {F : β → Sem δ} (h : Sim P Shd Q R s S)
    (k : ∀ R' a b, (∀ x X, R x X → R' x X) → Q R' a b → Sim P Shd Q' R' (f a) (F b)) : Sim P Shd Q' R (s >>= f) (S >>= F) := by
  intro w W hw ht
  cases hs : s.run P w with
  | halt x y =>
    have hx := (h w W hw ht).1 _ _ hs
    exact ⟨fun z w' e => by rw [Sem.run_bind, hs] at e; simp [Result.andThen] at e; rw [← e.1]; exact hx, fun a w' e => by rw [Sem.run_bind, hs] at e; simp [Result.andThen] at e⟩
  | ok a1 w1 =>
    obtain ⟨R1, b1, W1, r1, q1, hw1, x1, ev1, t1⟩ := (h w W hw ht).2 a1 w1 hs
    have ht1 : ∀ j q, w1.tape (w1.drawn + j) q = W1.tape (W1.drawn + j) q := by
      intro j q
      obtain ⟨k, k1, k2⟩ := x1.drawn
      rw [x1.ltape, x1.tape, k1, k2, Nat.add_assoc, Nat.add_assoc]
      exact ht _ _
    have k1 := k R1 a1 b1 x1.sub q1 w1 W1 hw1 ht1
    refine ⟨fun z w' e => k1.1 z w' (by rw [Sem.run_bind, hs] at e; exact e), fun a w' e => ?_⟩
    obtain ⟨R2, b2, W2, r2, q2, hw2, x2, ev2, t2⟩ := k1.2 a w' (by rw [Sem.run_bind, hs] at e; exact e)
    refine ⟨R2, b2, W2, by rw [Sem.run_bind, r1]; exact r2, q2, hw2, x1.trans x2, fun e he => ?_, fun τ hτ => ?_⟩
    · rw [Sem.events_bind, r1] at he
      simp only [Result.evThen_ok] at he
      rw [Sem.events_acc] at he
      rcases Array.mem_append.1 he with he | he
      · exact (ev1 e he).mono x2.sub
      · exact ev2 e he
    · obtain ⟨k1, d1, _⟩ := x1.drawn
      obtain ⟨k2, d2, _⟩ := x2.drawn
      rw [Sem.run_bind, t1 τ fun j q h1 h2 => hτ j q h1 (by omega)]
      refine t2 τ fun j q h1 h2 => ?_
      rw [hτ j q (by omega) h2, x1.ltape]

theorem Sim.mono {Q2 : BR → α → β → Prop} {s : Sem α} {S : Sem β} (h : Sim P Shd Q R s S) (k : ∀ R' a b, Q R' a b → Q2 R' a b) : Sim P Shd Q2 R s S := by
  intro w W hw ht
  refine ⟨(h w W hw ht).1, fun a w' e => ?_⟩
  obtain ⟨R1, b1, W1, r1, q1, x⟩ := (h w W hw ht).2 a w' e
  exact ⟨R1, b1, W1, r1, k _ _ _ q1, x⟩
end
end Go.Sim
