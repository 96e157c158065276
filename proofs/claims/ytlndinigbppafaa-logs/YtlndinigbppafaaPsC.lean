/-
  startMember, along its code: boxes and a channel are made, a child is started.
-/
import Derived.Test.YtlndinigbppafaaPsB
namespace Go.Proofs.Ytlndinigbppafaa
open Go.Sim Go.Conc

def r64_0 : Array Oper :=
  #[{ dst := some 3, op := .box 84 (.tmp 0), type := 0, pos := "log.go:140", after := #[], guard := none },
    { dst := some 4, op := .box 3 (.tmp 1), type := 0, pos := "log.go:140", after := #[], guard := none },
    { dst := some 5, op := .box 3 (.tmp 2), type := 0, pos := "log.go:140", after := #[], guard := none },
    { dst := some 6, op := .assign (.const (.chan none)), type := 107, pos := "log.go:140", after := #[], guard := none }]
def r64_1 : Array Oper :=
  #[{ dst := some 8, op := .makeChan 121 (.const (.int .i64 1)), type := 121, pos := "log.go:141", after := #[], guard := none },
    { dst := some 7, op := .alloc 121, type := 0, pos := "log.go:141", after := #[], guard := none },
    { dst := none, op := .store 121 (.tmp 7) (.tmp 8), type := 0, pos := "log.go:141", after := #[{ on := 1, ground := .data }, { on := 0, ground := .data }, { on := 0, ground := .phase }, { on := 1, ground := .phase }], guard := none }]
def r64_2 : Array Oper :=
  #[{ dst := some 9, op := .makeFunc (.func 80) #[] #[.tmp 7, .tmp 3, .tmp 4, .tmp 5], type := 1, pos := "log.go:142", after := #[], guard := none },
    { dst := none, op := .go { callee := .value (.tmp 9), args := #[], argTypes := #[] }, type := 0, pos := "log.go:142", after := #[{ on := 0, ground := .data }], guard := none }]
def r64_3 : Array Oper :=
  #[{ dst := some 10, op := .load 121 (.tmp 7), type := 121, pos := "log.go:146", after := #[], guard := none },
    { dst := some 6, op := .assign (.tmp 10), type := 107, pos := "log.go:146", after := #[{ on := 0, ground := .data }, { on := 0, ground := .phase }], guard := none }]
def c64 : Code := .seq (.region 0 r64_0 false) (.seq (.region 1 r64_1 false) (.seq (.region 2 r64_2 false) (.seq (.region 3 r64_3 false) .ret)))
theorem body64 : Try.f64.body = some c64 := rfl

/-- What is held: it stands whatever the children do, and the blocks are there. -/
structure Ok (PB : Nat → Prop) (s : St) (F : World → Prop) : Prop where
  stab : Stab PB s F
  low : ∀ w, F w → ∀ b, PB b ∨ s.rd b → b < w.heap.size

/-- .. and this block holds that. -/
def And1 (F : World → Prop) (r : Nat) (ob : Obj) (w : World) : Prop := F w ∧ w.heap[r]? = some ob

section
variable {ver : Value} {N : Nat} {Fin : St → (Nat → Prop) → Goroutine → World → Prop} {s : St} {PB PB' : Nat → Prop} {F F0 : World → Prop} {b : Frame} {a a' : Act} {k : List Item} {cs : List Frame} {ops : Array Oper} {i : Nat} {rest : List Nat} {o : Oper} {g g' : Goroutine} {r : Nat} {ob : Obj}

theorem Ok.and1 (h : Ok PB s F) (hsub : ∀ b, PB b → PB' b) (hr : PB' r) (hall : ∀ b, PB' b → PB b ∨ b = r) : Ok PB' s (And1 F r ob) := by
  refine ⟨fun w w₁ hw hR => ⟨h.stab w w₁ hw.1 ⟨hR.size, fun b hb => hR.keep b (hb.imp (hsub b) id)⟩, by rw [hR.keep r (.inl hr)]; exact hw.2⟩, fun w hw b hb => ?_⟩
  rcases hb with hb | hb
  · rcases hall b hb with hb | rfl
    · exact h.low w hw.1 b (.inl hb)
    · exact (Array.getElem?_eq_some_iff.1 hw.2).1
  · exact h.low w hw.1 b (.inr hb)

theorem rely_alloc (h : Ok PB s F) {w : World} (hw : F w) : RelyC PB s.rd w (w.alloc ob) :=
  ⟨by simp, fun b hb => by show (w.heap.push ob)[b]? = _; rw [Array.getElem?_push, if_neg (by have := h.low w hw b hb; omega)]⟩

/-- A block is made. -/
theorem AtP.alloc {v : Nat → Value} (hO : Ok PB s F) (hk : b.kind ≠ .early) (ho : ops[i]? = some o) (hg : o.guard = none)
    (h : ∀ w, F w → (execOp a.eval o).run Try.prog w = .ok (.value (v w.heap.size)) (w.alloc ob) ∧ ∀ e ∈ (execOp a.eval o).events Try.prog w #[], e.loc = .mark .noRoom)
    (hK : ∀ r, ¬ PB r → ¬ s.rd r → AtP ver N Fin s (fun b => PB b ∨ b = r) (And1 F r ob) (G (b.at (a.put o.dst (v r)) (.inRegion ops rest :: k)) cs)) :
    AtP ver N Fin s PB F (G (b.at a (.inRegion ops (i :: rest) :: k)) cs) := by
  refine AtP.op hO.stab hk ho hg fun w hw => ?_
  obtain ⟨h1, h2⟩ := h w hw
  have h3 : ∀ e ∈ listed Try.prog b.fn a o w, e.loc = .mark .noRoom := fun e he => h2 e (mem_seen he)
  refine ⟨_, _, h1, ⟨guar_push h3, noObj_mark h3⟩, ?_⟩
  rw [show w.alloc ob = { w with heap := w.heap.push ob } from rfl, grow_push]
  refine hK w.heap.size (fun q => ?_) (fun q => ?_) _ ⟨hO.stab w _ hw (rely_alloc hO hw), by simp⟩
  · have := hO.low w hw _ (.inl q); omega
  · have := hO.low w hw _ (.inr q); omega

/-- A cell is written. -/
theorem AtP.store {t e : TypeId} {x y : Operand} {v : Value} {off : Nat} {c : Array Value} (hS0 : Stab (fun b => PB b ∧ b ≠ r) s F0) (hS : Stab PB s (And1 F0 r (.cells c e))) (hk : b.kind ≠ .early) (ho : ops[i]? = some o) (hg : o.guard = none) (hop : o.op = .store t x y)
    (hr : PB r) (hrd : ¬ s.rd r) (hx : a.eval x = .pointer (some ⟨r, off, none⟩)) (hy : a.eval y = v) (hsz : (Try.prog.info? t).map (fun i => i.size) = some 1) (hv : v.oneCell' = true) (hc : v.cells = #[v]) (hoff : off < c.size)
    (hK : AtP ver N Fin s PB (And1 F0 r (.cells (c.setIfInBounds off v) e)) (G (b.at (a.put o.dst undef) (.inRegion ops rest :: k)) cs)) :
    AtP ver N Fin s PB (And1 F0 r (.cells c e)) (G (b.at a (.inRegion ops (i :: rest) :: k)) cs) := by
  refine AtP.op0 hS hk ho hg fun w hw => ?_
  obtain ⟨h1, h2⟩ := storeAt_run (w := w) (t := t) hsz hv hc hw.2 hoff
  have e1 : (execOp a.eval o).run Try.prog w = .ok .skip (w.setCell ⟨r, off, none⟩ v) := by
    unfold execOp
    simp only [hop, hx, hy]
    rw [Sem.run_bind, h1]
    rfl
  have e2 : ∀ ev ∈ listed Try.prog b.fn a o w, ev = ⟨.cell ⟨r, off, none⟩, true, false⟩ := by
    intro ev hev
    have := mem_seen hev
    unfold execOp at this
    simp only [hop, hx, hy] at this
    rw [Sem.events_bind, h1, h2] at this
    simpa using this
  refine ⟨_, e1, ⟨⟨Nat.le_of_eq setCell_size.symm, fun b' hb' hn => setCell_other fun e => hn (by rw [e]; exact hr), rfl, rfl, rfl, fun ev hev => ?_⟩, noObj_cell e2⟩, ?_⟩
  · rw [e2 ev hev]
    exact .inr ⟨rfl, r, .inl ⟨_, rfl, rfl⟩, .inl (.inl hr)⟩
  · have hg' : grow PB w (w.setCell ⟨r, off, none⟩ v) = PB := by
      funext b'
      unfold grow
      rw [setCell_size]
      apply propext
      constructor
      · rintro (q | q)
        · exact q
        · omega
      · exact .inl
    rw [hg']
    refine hK _ ⟨hS0 w _ hw.1 ⟨Nat.le_of_eq setCell_size.symm, fun b' hb' => setCell_other fun e => ?_⟩, setCell_at hw.2⟩
    rcases hb' with q | q
    · exact q.2 e
    · exact hrd (e ▸ q)

/-- A cell is read. -/
theorem AtP.load {t e : TypeId} {x : Operand} {v : Value} {off : Nat} {c : Array Value} (hS : Stab PB s F) (hk : b.kind ≠ .early) (ho : ops[i]? = some o) (hg : o.guard = none) (hop : o.op = .load t x)
    (hr : PB r ∨ s.rd r) (hx : a.eval x = .pointer (some ⟨r, off, none⟩)) (ha : ∀ w, (isAgg t).run Try.prog w = .ok false w) (hF : ∀ w, F w → w.heap[r]? = some (.cells c e)) (hoff : c[off]? = some v)
    (hK : AtP ver N Fin s PB F (G (b.at (a.put o.dst v) (.inRegion ops rest :: k)) cs)) :
    AtP ver N Fin s PB F (G (b.at a (.inRegion ops (i :: rest) :: k)) cs) := by
  refine AtP.op hS hk ho hg fun w hw => ?_
  obtain ⟨h1, h2⟩ := loadAt_run (w := w) (t := t) (ha w) (hF w hw) hoff
  have e1 : (execOp a.eval o).run Try.prog w = .ok (.value v) w := by
    unfold execOp
    simp only [hop, hx]
    rw [Sem.run_bind, h1]
    rfl
  have e2 : ∀ ev ∈ listed Try.prog b.fn a o w, ev = ⟨.cell ⟨r, off, none⟩, false, false⟩ := by
    intro ev hev
    have := mem_seen hev
    unfold execOp at this
    simp only [hop, hx] at this
    rw [Sem.events_bind, h1, h2] at this
    simpa using this
  refine ⟨_, w, e1, ⟨guar_cell (A := ⟨r, off, none⟩) (hr.imp id fun q => ⟨q, rfl⟩) e2, noObj_cell e2⟩, ?_⟩
  rw [grow_same rfl]
  exact hK w hw
end
end Go.Proofs.Ytlndinigbppafaa
