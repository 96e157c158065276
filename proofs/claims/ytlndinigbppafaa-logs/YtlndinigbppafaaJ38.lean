/-
  Texts of ours, joined: PsE, PsF, PsG, PsH, FiA, FiB, FiC, FiD, FiE, FiF.
-/
import Derived.Test.YtlndinigbppafaaPsD
import Derived.Calls
import Derived.Laws.Sem
import Derived.Conc.Events
import Derived.Test.YtlndinigbppafaaSimN
/-
  The operations of proofs: an element's address, the length, the receive, a slice of one, the append in place.
-/
namespace Go.Proofs.Ytlndinigbppafaa
open Go.Sim Go.Conc

theorem indexAt_run {r n i : Nat} (hi : i < n) (w : World) :
    (Instr.indexAt 106 (.slice (some ⟨r, 0, none⟩) n n) (.int .i64 i)).run Try.prog w = .ok (.pointer (some ⟨r, i, none⟩)) w ∧ (Instr.indexAt 106 (.slice (some ⟨r, 0, none⟩) n n) (.int .i64 i)).events Try.prog w #[] = #[] := by
  have h1 : (0 : Int) ≤ i := by omega
  have h2 : (i : Int) < n := by omega
  constructor
  · simp [Instr.indexAt, asIntOf, und_run Try.und106, size_run Try.size107, hi, Addr.add]
    exact Eq.symm
  · simp [Instr.indexAt, asIntOf, und_run Try.und106, hi]

theorem len_run {ρ : Operand → Value} {o : Oper} {x : Operand} {b : Option Addr} {l c : Nat} (hop : o.op = .call { callee := .builtin .len, args := #[x], argTypes := #[106] }) (hx : ρ x = .slice b l c) (w : World) :
    (execOp ρ o).run Try.prog w = .ok (.value (.int .i64 l)) w ∧ (execOp ρ o).events Try.prog w #[] = #[] := by
  unfold execOp
  simp only [hop]
  constructor
  · simp [resolve, invoke, builtin, Builtin.len_, hx, und_run Try.und106, goInt]
  · simp [resolve, invoke, builtin, Builtin.len_, hx, und_run Try.und106]

theorem recv_run {ρ : Operand → Value} {o : Oper} {x : Operand} {c : Nat} (hop : o.op = .recv 107 x true) (hx : ρ x = .chan (some c)) (w : World) :
    (execOp ρ o).run Try.prog w = .ok (.comm #[rcase c (.slice none 0 0)] true (.recv true)) w ∧ (execOp ρ o).events Try.prog w #[] = #[] := by
  unfold execOp
  simp only [hop]
  constructor
  · simp [hx, und_run Try.und107, zero_run Try.zero24, rcase]
  · simp [und_run Try.und107]

theorem range1_map {α : Type} (f : Nat → α) : (Array.range 1).map f = #[f 0] := by
  apply Array.ext
  · simp
  · intro i h1 h2
    have : i = 0 := by simp at h1; exact h1
    subst this
    simp

theorem buildSlice_run {V : Value} (hV : Sl V) (w : World) :
    (Instr.buildSlice 23 1 #[(0, V)]).run Try.prog w = .ok (.slice (some ⟨w.heap.size, 0, none⟩) 1 1) (w.alloc (.cells #[V] 24)) ∧ (Instr.buildSlice 23 1 #[(0, V)]).events Try.prog w #[] = #[] := by
  have hf : Instr.fill (fun i => some (i, 1)) (#[.slice none 0 0] : Array Value) [(0, V)] = some #[V] := by
    simp [Instr.fill, hV.2]
  have hz : (Value.slice none 0 0).cells = #[.slice none 0 0] := rfl
  constructor
  · simp [Instr.buildSlice, und_run Try.und23, size_run Try.size24, zero_run Try.zero24, hz, range1_map, hf, newRow]
  · simp [Instr.buildSlice, und_run Try.und23, size_run Try.size24, zero_run Try.zero24, hz, range1_map, hf, newRow]

theorem append_run {ga tb m n : Nat} {c : Array Value} {V : Value} (hV : Sl V) (hm : m < n) (hc : c.size = n) {w : World} (hg : w.heap[ga]? = some (.cells c 24)) (ht : w.heap[tb]? = some (.cells #[V] 24)) :
    (Builtin.append_ #[23, 23] 23 #[.slice (some ⟨ga, 0, none⟩) m n, .slice (some ⟨tb, 0, none⟩) 1 1]).run Try.prog w = .ok (.slice (some ⟨ga, 0, none⟩) (m + 1) n) (w.setCell ⟨ga, m, none⟩ V) ∧
    (Builtin.append_ #[23, 23] 23 #[.slice (some ⟨ga, 0, none⟩) m n, .slice (some ⟨tb, 0, none⟩) 1 1]).events Try.prog w #[] = #[⟨.cell ⟨tb, 0, none⟩, false, false⟩, ⟨.cell ⟨ga, m, none⟩, true, false⟩] := by
  have hct : w.cell? ⟨tb, 0, none⟩ = some V := by simp [World.cell?, ht]
  have hcg : w.cell? ⟨ga, m, none⟩ = some c[m] := by simp [World.cell?, hg, hc, hm]
  have hfr : w.frozen? ⟨ga, m, none⟩ = false := by simp [World.frozen?, hg]
  have hr := run_store Try.prog w ⟨ga, m, none⟩ V .plain hV.1
  rw [hcg] at hr
  simp only [hfr] at hr
  have hr' : (store ⟨ga, m, none⟩ V).run Try.prog w = .ok () (w.setCell ⟨ga, m, none⟩ V) := by simpa using hr
  have he : ∀ es, (store ⟨ga, m, none⟩ V).events Try.prog w es = es.push ⟨.cell ⟨ga, m, none⟩, true, false⟩ := by
    intro es
    rw [events_store (hv := hV.1), hcg]
    simp only [hfr, Bool.false_eq_true, if_false]
    rfl
  have hmn : m + 1 ≤ n := hm
  have hif : (if m = 0 then (⟨ga, 0, none⟩ : Addr) else ⟨ga, m, none⟩) = ⟨ga, m, none⟩ := by
    split
    · rename_i h; rw [h]
    · rfl
  constructor
  · simp [Builtin.append_, und_run Try.und23, size_run Try.size24, Builtin.lenOf, hmn, Builtin.firstCells, loadCells, loadCellsFrom, storeCells, Addr.add, hct]
    rw [hif, hr']
    rfl
  · simp [Builtin.append_, und_run Try.und23, size_run Try.size24, Builtin.lenOf, hmn, Builtin.firstCells, loadCells, loadCellsFrom, storeCells, Addr.add, hct]
    rw [hif, he]
    rfl
end Go.Proofs.Ytlndinigbppafaa

/-
  proofs: its code, its first loop.
-/
namespace Go.Proofs.Ytlndinigbppafaa
open Go.Sim Go.Conc

def r46_0 : Array Oper :=
  #[{ dst := some 4, op := .assign (.const (.slice none 0 0)), type := 23, pos := "log.go:123", after := #[], guard := none }]
def r46_1 : Array Oper :=
  #[{ dst := some 11, op := .move (.tmp 1), type := 3, pos := "log.go:124", after := #[], guard := none },
    { dst := some 12, op := .makeSlice 106 (.tmp 11) (.tmp 11), type := 106, pos := "log.go:124", after := #[{ on := 0, ground := .data }, { on := 0, ground := .data }], guard := none },
    { dst := some 5, op := .assign (.tmp 12), type := 106, pos := "log.go:124", after := #[{ on := 1, ground := .data }, { on := 0, ground := .phase }, { on := 1, ground := .phase }], guard := none }]
def r46_2 : Array Oper :=
  #[{ dst := some 13, op := .move (.tmp 5), type := 106, pos := "log.go:125", after := #[], guard := none },
    { dst := some 14, op := .call { callee := .builtin .len, args := #[.tmp 13], argTypes := #[106] }, type := 3, pos := "log.go:125", after := #[{ on := 0, ground := .data }], guard := none },
    { dst := some 15, op := .move (.const (.int .i64 0)), type := 3, pos := "log.go:125", after := #[], guard := none }]
def r46_3 : Array Oper :=
  #[{ dst := some 16, op := .binOp .lss 3 (.tmp 15) (.tmp 14) 3, type := 0, pos := "log.go:125", after := #[], guard := none }]
def r46_4 : Array Oper :=
  #[{ dst := some 17, op := .move (.tmp 15), type := 3, pos := "log.go:125", after := #[], guard := none },
    { dst := some 6, op := .assign (.tmp 17), type := 3, pos := "log.go:125", after := #[{ on := 0, ground := .data }, { on := 0, ground := .phase }], guard := none }]
def r46_5 : Array Oper :=
  #[{ dst := some 18, op := .move (.tmp 5), type := 106, pos := "log.go:126", after := #[], guard := none },
    { dst := some 19, op := .move (.tmp 6), type := 3, pos := "log.go:126", after := #[], guard := none },
    { dst := some 20, op := .move (.tmp 0), type := 84, pos := "log.go:126", after := #[], guard := none },
    { dst := some 21, op := .move (.tmp 6), type := 3, pos := "log.go:126", after := #[], guard := none },
    { dst := some 22, op := .move (.tmp 1), type := 3, pos := "log.go:126", after := #[], guard := none },
    { dst := some 23, op := .call { callee := .value (.func 64), args := #[.tmp 20, .tmp 21, .tmp 22], argTypes := #[84, 3, 3] }, type := 107, pos := "log.go:126", after := #[{ on := 2, ground := .data }, { on := 3, ground := .data }, { on := 4, ground := .data }], guard := none },
    { dst := some 24, op := .indexAddr 106 (.tmp 18) (.tmp 19), type := 0, pos := "log.go:126", after := #[{ on := 0, ground := .data }, { on := 1, ground := .data }, { on := 0, ground := .phase }, { on := 1, ground := .phase }, { on := 2, ground := .phase }, { on := 3, ground := .phase }, { on := 4, ground := .phase }, { on := 5, ground := .phase }], guard := none },
    { dst := none, op := .store 107 (.tmp 24) (.tmp 23), type := 0, pos := "log.go:126", after := #[{ on := 6, ground := .data }, { on := 5, ground := .data }, { on := 5, ground := .chain }, { on := 0, ground := .phase }, { on := 1, ground := .phase }, { on := 2, ground := .phase }, { on := 3, ground := .phase }, { on := 4, ground := .phase }, { on := 5, ground := .phase }], guard := none }]
def r46_6 : Array Oper :=
  #[{ dst := some 25, op := .binOp .add 3 (.tmp 15) (.const (.int .i64 1)) 3, type := 3, pos := "log.go:125", after := #[], guard := none },
    { dst := some 15, op := .move (.tmp 25), type := 3, pos := "log.go:125", after := #[{ on := 0, ground := .data }], guard := none }]
def r46_7 : Array Oper :=
  #[{ dst := some 26, op := .move (.tmp 1), type := 3, pos := "log.go:128", after := #[], guard := none },
    { dst := some 27, op := .makeSlice 23 (.const (.int .i64 0)) (.tmp 26), type := 23, pos := "log.go:128", after := #[{ on := 0, ground := .data }], guard := none },
    { dst := some 7, op := .assign (.tmp 27), type := 23, pos := "log.go:128", after := #[{ on := 1, ground := .data }, { on := 0, ground := .phase }, { on := 1, ground := .phase }], guard := none }]
def r46_8 : Array Oper :=
  #[{ dst := some 28, op := .move (.tmp 5), type := 106, pos := "log.go:129", after := #[], guard := none },
    { dst := some 29, op := .call { callee := .builtin .len, args := #[.tmp 28], argTypes := #[106] }, type := 3, pos := "log.go:129", after := #[{ on := 0, ground := .data }], guard := none },
    { dst := some 30, op := .move (.const (.int .i64 0)), type := 3, pos := "log.go:129", after := #[], guard := none }]
def r46_9 : Array Oper :=
  #[{ dst := some 31, op := .binOp .lss 3 (.tmp 30) (.tmp 29) 3, type := 0, pos := "log.go:129", after := #[], guard := none }]
def r46_10 : Array Oper :=
  #[{ dst := some 32, op := .indexAddr 106 (.tmp 28) (.tmp 30), type := 0, pos := "log.go:129", after := #[], guard := none },
    { dst := some 33, op := .load 107 (.tmp 32), type := 107, pos := "log.go:129", after := #[{ on := 0, ground := .data }], guard := none },
    { dst := some 9, op := .assign (.tmp 33), type := 107, pos := "log.go:129", after := #[{ on := 1, ground := .data }, { on := 0, ground := .phase }, { on := 1, ground := .phase }], guard := none }]
def r46_11 : Array Oper :=
  #[{ dst := some 34, op := .move (.tmp 9), type := 107, pos := "log.go:130", after := #[], guard := none }]
def r46_12 : Array Oper :=
  #[{ dst := some 35, op := .recv 107 (.tmp 34) true, type := 0, pos := "log.go:130", after := #[], guard := none },
    { dst := some 36, op := .extract (.tmp 35) 1, type := 4, pos := "log.go:130", after := #[{ on := 0, ground := .data }], guard := none }]
def r46_13 : Array Oper :=
  #[{ dst := some 37, op := .extract (.tmp 35) 0, type := 24, pos := "log.go:130", after := #[], guard := none },
    { dst := some 10, op := .assign (.tmp 37), type := 24, pos := "log.go:130", after := #[{ on := 0, ground := .data }, { on := 0, ground := .phase }], guard := none }]
def r46_14 : Array Oper :=
  #[{ dst := some 38, op := .move (.tmp 7), type := 23, pos := "log.go:131", after := #[], guard := none },
    { dst := some 39, op := .move (.tmp 10), type := 24, pos := "log.go:131", after := #[], guard := none },
    { dst := some 40, op := .buildSlice 23 1 #[(0, .tmp 39)], type := 23, pos := "log.go:131", after := #[{ on := 1, ground := .data }], guard := none },
    { dst := some 41, op := .call { callee := .builtin .append, args := #[.tmp 38, .tmp 40], argTypes := #[23, 23] }, type := 23, pos := "log.go:131", after := #[{ on := 0, ground := .data }, { on := 2, ground := .data }], guard := none },
    { dst := some 7, op := .assign (.tmp 41), type := 23, pos := "log.go:131", after := #[{ on := 3, ground := .data }, { on := 3, ground := .chain }, { on := 0, ground := .phase }, { on := 1, ground := .phase }, { on := 2, ground := .phase }, { on := 3, ground := .phase }], guard := none }]
def r46_15 : Array Oper :=
  #[{ dst := some 42, op := .binOp .add 3 (.tmp 30) (.const (.int .i64 1)) 3, type := 3, pos := "log.go:129", after := #[], guard := none },
    { dst := some 30, op := .move (.tmp 42), type := 3, pos := "log.go:129", after := #[{ on := 0, ground := .data }], guard := none }]
def r46_16 : Array Oper :=
  #[{ dst := some 43, op := .move (.tmp 7), type := 23, pos := "log.go:134", after := #[], guard := none },
    { dst := some 4, op := .assign (.tmp 43), type := 23, pos := "log.go:134", after := #[{ on := 0, ground := .data }, { on := 0, ground := .phase }], guard := none }]
def L1 : Code := .seq (.region 3 r46_3 false) (.seq (.cond (.tmp 16) .skip (.exit 0)) (.seq (.block 1 (.seq (.region 4 r46_4 false) (.region 5 r46_5 false))) (.region 6 r46_6 false)))
def L3 : Code := .seq (.region 12 r46_12 false) (.seq (.cond (.tmp 36) .skip (.exit 4)) (.block 5 (.seq (.region 13 r46_13 false) (.region 14 r46_14 false))))
def L2 : Code := .seq (.region 9 r46_9 false) (.seq (.cond (.tmp 31) .skip (.exit 2)) (.seq (.block 3 (.seq (.region 10 r46_10 false) (.seq (.region 11 r46_11 false) (.block 4 (.loop L3))))) (.region 15 r46_15 false)))
def c46 : Code := .seq (.region 0 r46_0 false) (.seq (.region 1 r46_1 false) (.seq (.seq (.region 2 r46_2 false) (.block 0 (.loop L1))) (.seq (.region 7 r46_7 false) (.seq (.seq (.region 8 r46_8 false) (.block 2 (.loop L2))) (.seq (.region 16 r46_16 false) .ret)))))
theorem body46 : Try.f46.body = some c46 := rfl

/-- The frame in the first loop, and in the second. -/
def aL1 (ver : Value) (N ch : Nat) (i : Int) (x6 x16 x17 x18 x19 x20 x21 x22 x23 x24 x25 : Value) : Act :=
  ⟨#[ver, .int .i64 N, undef, undef, .slice none 0 0, .slice (some ⟨ch, 0, none⟩) N N, x6, undef, undef, undef, undef, .int .i64 N, .slice (some ⟨ch, 0, none⟩) N N, .slice (some ⟨ch, 0, none⟩) N N, .int .i64 N, .int .i64 i, x16, x17, x18, x19, x20, x21, x22, x23, x24, x25, undef, undef, undef, undef, undef, undef, undef, undef, undef, undef, undef, undef, undef, undef, undef, undef, undef, undef], []⟩
def aL2 (ver : Value) (N ch ga m : Nat) (j : Int) (x6 x15 x16 x17 x18 x19 x20 x21 x22 x23 x24 x25 y9 y10 y31 y32 y33 y34 y35 y36 y37 y38 y39 y40 y41 y42 : Value) : Act :=
  ⟨#[ver, .int .i64 N, undef, undef, .slice none 0 0, .slice (some ⟨ch, 0, none⟩) N N, x6, .slice (some ⟨ga, 0, none⟩) m N, undef, y9, y10, .int .i64 N, .slice (some ⟨ch, 0, none⟩) N N, .slice (some ⟨ch, 0, none⟩) N N, .int .i64 N, x15, x16, x17, x18, x19, x20, x21, x22, x23, x24, x25, .int .i64 N, .slice (some ⟨ga, 0, none⟩) 0 N, .slice (some ⟨ch, 0, none⟩) N N, .int .i64 N, .int .i64 j, y31, y32, y33, y34, y35, y36, y37, y38, y39, y40, y41, y42, undef], []⟩

/-- The channels so far, and what is gathered so far. -/
def chArr (cs : List (Nat × Nat)) (N : Nat) : Array Value := (cs.map (fun p : Nat × Nat => Value.chan (some p.1)) ++ List.replicate (N - cs.length) (Value.chan none)).toArray
def gaArr (vs : List Value) (N : Nat) : Array Value := (vs ++ List.replicate (N - vs.length) (Value.slice none 0 0)).toArray
theorem chArr_nil (N : Nat) : chArr [] N = Array.replicate N (.chan none) := by simp [chArr]
theorem gaArr_nil (N : Nat) : gaArr [] N = Array.replicate N (.slice none 0 0) := by simp [gaArr]
theorem pad_set {α : Type} (l : List α) (n : Nat) (z v : α) (h : l.length < n) : (l ++ List.replicate (n - l.length) z).set l.length v = (l ++ [v]) ++ List.replicate (n - (l ++ [v]).length) z := by
  rw [List.set_append_right _ _ (Nat.le_refl _)]
  obtain ⟨m, hm⟩ : ∃ m, n - l.length = m + 1 := ⟨n - l.length - 1, by omega⟩
  have h2 : n - (l ++ [v]).length = m := by simp; omega
  rw [hm, h2]
  simp [List.replicate_succ]
theorem chArr_set {cs : List (Nat × Nat)} {N c bc : Nat} (h : cs.length < N) : (chArr cs N).setIfInBounds cs.length (.chan (some c)) = chArr (cs ++ [(c, bc)]) N := by
  unfold chArr
  have := pad_set (cs.map fun p => Value.chan (some p.1)) N (.chan none) (.chan (some c)) (by simpa using h)
  simp only [List.length_map] at this
  rw [List.setIfInBounds_toArray, this]
  simp
theorem gaArr_set {vs : List Value} {N : Nat} {V : Value} (h : vs.length < N) : (gaArr vs N).setIfInBounds vs.length V = gaArr (vs ++ [V]) N := by
  unfold gaArr
  rw [List.setIfInBounds_toArray, pad_set _ _ _ _ h]
theorem chArr_size {cs : List (Nat × Nat)} {N : Nat} (h : cs.length ≤ N) : (chArr cs N).size = N := by simp [chArr]; omega
theorem gaArr_size {vs : List Value} {N : Nat} (h : vs.length ≤ N) : (gaArr vs N).size = N := by simp [gaArr]; omega

/-- The boxes of the children are there. -/
def FB (s : St) (w : World) : Prop := ∀ b, s.rd b → b < w.heap.size
theorem fb_stab {PB : Nat → Prop} {s : St} : Stab PB s (FB s) := fun _ _ h hR b hb => Nat.lt_of_lt_of_le (h b hb) hR.size

theorem wrap_nat {n : Nat} (h : n < 2 ^ 62) : IntKind.i64.wrap ((n : Int) + 1) = ((n + 1 : Nat) : Int) := by rw [IntKind.wrap_i64]; omega

section
variable {ver : Value} {N : Nat} {Fin : St → (Nat → Prop) → Goroutine → World → Prop} {s : St} {PB : Nat → Prop} {k : List Item} {cs : List Frame} {ch : Nat}

theorem ok_ch (hch : PB ch) (hPB : ∀ b, PB b → b = ch) {ob : Obj} : Ok PB s (And1 (FB s) ch ob) := by
  refine ⟨fun w w₁ hw hR => ⟨fb_stab w w₁ hw.1 hR, by rw [hR.keep ch (.inl hch)]; exact hw.2⟩, fun w hw b hb => ?_⟩
  rcases hb with hb | hb
  · rw [hPB b hb]; exact (Array.getElem?_eq_some_iff.1 hw.2).1
  · exact hw.1 b hb

theorem hk46 : (base 46).kind ≠ .early := by intro h; cases h

/-- THE FIRST LOOP: a child for each. -/
theorem loop1 (hch : PB ch) (hPB : ∀ b, PB b → b = ch) (hver : ver.cells = #[ver]) (hN : N < 2 ^ 40)
    (hK : ∀ (s : St) (x6 x16 x17 x18 x19 x20 x21 x22 x23 x24 x25 : Value), s.cs.length = N → s.cur = 0 → s.got = false → s.vs = [] → ¬ s.rd ch → AtP ver N Fin s PB (And1 (FB s) ch (.cells (chArr s.cs N) 107)) (G ((base 46).at (aL1 ver N ch (N) x6 x16 x17 x18 x19 x20 x21 x22 x23 x24 x25) k) cs)) :
    ∀ (m : Nat) (s : St) (x6 x16 x17 x18 x19 x20 x21 x22 x23 x24 x25 : Value), s.cs.length + m = N → s.cur = 0 → s.got = false → s.vs = [] → ¬ s.rd ch →
      AtP ver N Fin s PB (And1 (FB s) ch (.cells (chArr s.cs N) 107)) (G ((base 46).at (aL1 ver N ch (s.cs.length) x6 x16 x17 x18 x19 x20 x21 x22 x23 x24 x25) (.code L1 :: .inLoop L1 :: .inBlock 0 :: k)) cs) := by
  intro m
  induction m with
  | zero =>
    intro s x6 x16 x17 x18 x19 x20 x21 x22 x23 x24 x25 hs h1 h2 h3 h4
    have O := ok_ch (s := s) (ob := .cells (chArr s.cs N) 107) hch hPB
    have hN' : s.cs.length = N := by omega
    refine AtP.seq O.stab (AtP.region (a' := (aL1 ver N ch (s.cs.length) x6 (.bool (decide ((s.cs.length : Int) < (N : Int)))) x17 x18 x19 x20 x21 x22 x23 x24 x25)) O.stab hk46 rfl ?_)
    rw [show decide ((s.cs.length : Int) < (N : Int)) = false by simp; omega]
    refine AtP.seq O.stab (AtP.cond (t := false) O.stab rfl ?_)
    refine AtP.exit (k' := k) O.stab rfl ?_
    rw [hN']
    exact hK s _ _ _ _ _ _ _ _ _ _ _ hN' h1 h2 h3 h4
  | succ m ih =>
    intro s x6 x16 x17 x18 x19 x20 x21 x22 x23 x24 x25 hs h1 h2 h3 h4
    have O := ok_ch (s := s) (ob := .cells (chArr s.cs N) 107) hch hPB
    have hlt : s.cs.length < N := by omega
    refine AtP.seq O.stab (AtP.region (a' := (aL1 ver N ch (s.cs.length) x6 (.bool (decide ((s.cs.length : Int) < (N : Int)))) x17 x18 x19 x20 x21 x22 x23 x24 x25)) O.stab hk46 rfl ?_)
    rw [show decide ((s.cs.length : Int) < (N : Int)) = true by simp; omega]
    refine AtP.seq O.stab (AtP.cond (t := true) O.stab rfl (AtP.skip O.stab ?_))
    refine AtP.seq O.stab (AtP.block O.stab (AtP.seq O.stab ?_))
    refine AtP.region (a' := (aL1 ver N ch (s.cs.length) (.int .i64 s.cs.length) (.bool true) (.int .i64 s.cs.length) x18 x19 x20 x21 x22 x23 x24 x25)) O.stab hk46 rfl ?_
    refine AtP.into O.stab (AtP.pures (l := [0, 1, 2, 3, 4]) (rest := [5, 6, 7]) (a' := (aL1 ver N ch (s.cs.length) (.int .i64 s.cs.length) (.bool true) (.int .i64 s.cs.length) (.slice (some ⟨ch, 0, none⟩) N N) (.int .i64 s.cs.length) ver (.int .i64 s.cs.length) (.int .i64 N) x23 x24 x25)) O.stab hk46 rfl ?_)
    refine AtP.call (o := r46_5[5]) O.stab hk46 rfl rfl rfl Try.func64 (by simp [Try.f64]) body64 ?_
    have hst := start_at (Fin := Fin) (ops := r46_5) (j := 5) (rest := [6, 7]) (k := .inBlock 1 :: .code (.region 6 r46_6 false) :: .inLoop L1 :: .inBlock 0 :: k) (cs := cs) (b₀ := base 46) (a₀ := (aL1 ver N ch (s.cs.length) (.int .i64 s.cs.length) (.bool true) (.int .i64 s.cs.length) (.slice (some ⟨ch, 0, none⟩) N N) (.int .i64 s.cs.length) ver (.int .i64 s.cs.length) (.int .i64 N) x23 x24 x25)) O hlt hver fun c bc hbc => ?_
    · have e : (#[.tmp 20, .tmp 21, .tmp 22] : Array Operand).map (aL1 ver N ch (s.cs.length) (.int .i64 s.cs.length) (.bool true) (.int .i64 s.cs.length) (.slice (some ⟨ch, 0, none⟩) N N) (.int .i64 s.cs.length) ver (.int .i64 s.cs.length) (.int .i64 N) x23 x24 x25).eval ++ Array.replicate (Try.f64.ntmps - ((#[.tmp 20, .tmp 21, .tmp 22] : Array Operand).map (aL1 ver N ch (s.cs.length) (.int .i64 s.cs.length) (.bool true) (.int .i64 s.cs.length) (.slice (some ⟨ch, 0, none⟩) N N) (.int .i64 s.cs.length) ver (.int .i64 s.cs.length) (.int .i64 N) x23 x24 x25).eval).size) undef = #[ver, .int .i64 s.cs.length, .int .i64 N, undef, undef, undef, undef, undef, undef, undef, undef] := by
        simp [aL1, Act.eval, Try.f64]
      rw [e]
      exact hst
    -- behind the call
    have hcb : bc ≠ ch := fun e => hbc (e ▸ hch)
    have hrd : ¬ (s.more c bc).rd ch := fun q => (rd_more.1 q).elim h4 fun e => hcb e.symm
    have O' := ok_ch (s := s.more c bc) (ob := .cells (chArr s.cs N) 107) hch hPB
    have O2 := ok_ch (s := s.more c bc) (ob := .cells (chArr (s.more c bc).cs N) 107) hch hPB
    refine AtP.mono (F := And1 (FB (s.more c bc)) ch (.cells (chArr s.cs N) 107)) (fun w hw => ⟨fun b hb => ?_, hw.1.2⟩) ?_
    · rcases rd_more.1 hb with hb | rfl
      · exact hw.1.1 b hb
      · exact (Array.getElem?_eq_some_iff.1 hw.2).1
    show AtP _ _ _ _ _ _ (G ((base 46).at (aL1 ver N ch (s.cs.length) (.int .i64 s.cs.length) (.bool true) (.int .i64 s.cs.length) (.slice (some ⟨ch, 0, none⟩) N N) (.int .i64 s.cs.length) ver (.int .i64 s.cs.length) (.int .i64 N) (.chan (some c)) x24 x25) _) _)
    refine AtP.val (o := r46_5[6]) (v := .pointer (some ⟨ch, s.cs.length, none⟩)) O'.stab hk46 rfl rfl (fun w => ?_) ?_
    · obtain ⟨q1, q2⟩ := indexAt_run (r := ch) hlt w
      exact ⟨run_v q1, (ev_v q1).trans q2⟩
    show AtP _ _ _ _ _ _ (G ((base 46).at (aL1 ver N ch (s.cs.length) (.int .i64 s.cs.length) (.bool true) (.int .i64 s.cs.length) (.slice (some ⟨ch, 0, none⟩) N N) (.int .i64 s.cs.length) ver (.int .i64 s.cs.length) (.int .i64 N) (.chan (some c)) (.pointer (some ⟨ch, s.cs.length, none⟩)) x25) _) _)
    refine AtP.store (o := r46_5[7]) (r := ch) (off := s.cs.length) (v := .chan (some c)) fb_stab O'.stab hk46 rfl rfl rfl hch hrd rfl rfl Try.size107 rfl rfl (by rw [chArr_size (by omega)]; exact hlt) ?_
    rw [chArr_set (bc := bc) hlt]
    refine AtP.out O2.stab (AtP.inBlock O2.stab ?_)
    refine AtP.region (a' := (aL1 ver N ch (IntKind.i64.wrap ((s.cs.length : Int) + 1)) (.int .i64 s.cs.length) (.bool true) (.int .i64 s.cs.length) (.slice (some ⟨ch, 0, none⟩) N N) (.int .i64 s.cs.length) ver (.int .i64 s.cs.length) (.int .i64 N) (.chan (some c)) (.pointer (some ⟨ch, s.cs.length, none⟩)) (.int .i64 (IntKind.i64.wrap ((s.cs.length : Int) + 1))))) O2.stab hk46 rfl (AtP.inLoop O2.stab ?_)
    rw [wrap_nat (by omega)]
    have hlen : (s.more c bc).cs.length = s.cs.length + 1 := by simp [St.more]
    rw [← hlen]
    exact ih (s.more c bc) _ _ _ _ _ _ _ _ _ _ _ (by rw [hlen]; omega) h1 h2 h3 hrd
end
end Go.Proofs.Ytlndinigbppafaa

/-
  proofs: its second loop.
-/
namespace Go.Proofs.Ytlndinigbppafaa
open Go.Sim Go.Conc

section
variable {ver : Value} {N : Nat} {Fin : St → (Nat → Prop) → Goroutine → World → Prop} {s : St} {PB : Nat → Prop} {F : World → Prop} {b : Frame} {a : Act} {k : List Item} {cs : List Frame} {ops : Array Oper} {i c bc : Nat} {rest : List Nat} {o : Oper} {x : Operand} {ch ga : Nat}

theorem served_G (fr : Frame) (cs : List Frame) (v : Value) : Go.Conc.served (G fr cs) v = G (fr.finish v) cs := rfl

theorem step_recv (hk : b.kind ≠ .early) (ho : ops[i]? = some o) (hg : o.guard = none) (hop : o.op = .recv 107 x true) (hx : a.eval x = .chan (some c)) (w : World) :
    stepG Try.prog true (G (b.at a (.inRegion ops (i :: rest) :: k)) cs) w = .comm (G (b.at a (.inRegion ops (i :: rest) :: k)) cs) #[rcase c (.slice none 0 0)] true (.recv true) w #[] := by
  obtain ⟨h1, h2⟩ := recv_run hop hx w
  rw [stepG_comm ho (wanted_of hg) hk h1]
  unfold listed
  rw [h2, seen_none]

theorem AtP.recv (hS : Stab PB s F) (hk : b.kind ≠ .early) (ho : ops[i]? = some o) (hg : o.guard = none) (hop : o.op = .recv 107 x true) (hx : a.eval x = .chan (some c)) (hcs : s.cs[s.cur]? = some (c, bc)) (hgot : s.got = false)
    (hK : ∀ V, Sl V → AtP ver N Fin (s.take V) PB F (G (b.at (a.put o.dst (.tuple #[V, .bool true])) (.inRegion ops rest :: k)) cs)) : AtP ver N Fin s PB F (G (b.at a (.inRegion ops (i :: rest) :: k)) cs) := by
  intro w hw
  refine PS.recv c bc (.slice none 0 0) rfl hcs hgot (fun w₁ _ => step_recv hk ho hg hop hx w₁) fun V w₁ hV hR => ?_
  have := hK V hV w₁ (hS w w₁ hw hR)
  rw [served_G, Frame.finish_at, ho]
  exact this
theorem AtP.shut (hS : Stab PB s F) (hk : b.kind ≠ .early) (ho : ops[i]? = some o) (hg : o.guard = none) (hop : o.op = .recv 107 x true) (hx : a.eval x = .chan (some c)) (hcs : s.cs[s.cur]? = some (c, bc)) (hgot : s.got = true)
    (hK : AtP ver N Fin s.next PB F (G (b.at (a.put o.dst (.tuple #[.slice none 0 0, .bool false])) (.inRegion ops rest :: k)) cs)) : AtP ver N Fin s PB F (G (b.at a (.inRegion ops (i :: rest) :: k)) cs) := by
  intro w hw
  refine PS.shut c bc (.slice none 0 0) rfl hcs hgot (fun w₁ _ => step_recv hk ho hg hop hx w₁) fun w₁ hR => ?_
  have := hK w₁ (hS w w₁ hw hR)
  rw [served_G, Frame.finish_at, ho]
  exact this

/-- The blocks are there. -/
def FB2 (PB : Nat → Prop) (s : St) (w : World) : Prop := ∀ b, PB b ∨ s.rd b → b < w.heap.size
theorem fb2_stab {PB PB' : Nat → Prop} : Stab PB' s (FB2 PB s) := fun _ _ h hR b hb => Nat.lt_of_lt_of_le (h b hb) hR.size

theorem ok2 (hch : PB ch) (hga : PB ga) {o1 o2 : Obj} : Ok PB s (And1 (And1 (FB2 PB s) ch o1) ga o2) :=
  ⟨fun w w₁ hw hR => ⟨⟨fb2_stab w w₁ hw.1.1 hR, by rw [hR.keep ch (.inl hch)]; exact hw.1.2⟩, by rw [hR.keep ga (.inl hga)]; exact hw.2⟩, fun _ hw b hb => hw.1.1 b hb⟩

theorem chArr_get {cs : List (Nat × Nat)} {N j c bc : Nat} (h : cs[j]? = some (c, bc)) : (chArr cs N)[j]? = some (.chan (some c)) := by
  have hlt := (List.getElem?_eq_some_iff.1 h).1
  unfold chArr
  rw [List.getElem?_toArray, List.getElem?_append_left (by simpa using hlt), List.getElem?_map, h]
  rfl

/-- The append in place. -/
theorem AtP.append {tb m : Nat} {vs : List Value} {V : Value} {x y : Operand} (hV : Sl V) (hga : PB ga) (htb : PB tb) (hne : ch ≠ ga) (hm : vs.length = m) (hmN : m < N) (hk : b.kind ≠ .early) (ho : ops[i]? = some o) (hg : o.guard = none)
    (hop : o.op = .call { callee := .builtin .append, args := #[x, y], argTypes := #[23, 23] }) (hty : o.type = 23) (hx : a.eval x = .slice (some ⟨ga, 0, none⟩) m N) (hy : a.eval y = .slice (some ⟨tb, 0, none⟩) 1 1)
    (hS : Stab PB s (And1 (And1 (And1 (FB2 PB s) ch (.cells (chArr s.cs N) 107)) ga (.cells (gaArr vs N) 24)) tb (.cells #[V] 24)))
    (hK : AtP ver N Fin s PB (And1 (And1 (FB2 PB s) ch (.cells (chArr s.cs N) 107)) ga (.cells (gaArr (vs ++ [V]) N) 24)) (G (b.at (a.put o.dst (.slice (some ⟨ga, 0, none⟩) (m + 1) N)) (.inRegion ops rest :: k)) cs)) :
    AtP ver N Fin s PB (And1 (And1 (And1 (FB2 PB s) ch (.cells (chArr s.cs N) 107)) ga (.cells (gaArr vs N) 24)) tb (.cells #[V] 24)) (G (b.at a (.inRegion ops (i :: rest) :: k)) cs) := by
  refine AtP.op hS hk ho hg fun w hw => ?_
  obtain ⟨⟨⟨hfb, hwch⟩, hwga⟩, hwtb⟩ := hw
  obtain ⟨h1, h2⟩ := append_run (m := m) hV hmN (gaArr_size (by omega)) hwga hwtb
  have hex : execOp a.eval o = (Builtin.append_ #[23, 23] 23 #[.slice (some ⟨ga, 0, none⟩) m N, .slice (some ⟨tb, 0, none⟩) 1 1] >>= fun v => Pure.pure (Next.value v)) := by
    unfold execOp
    simp [hop, resolve, invoke, builtin, hx, hy, hty]
  have e2 : ∀ ev ∈ listed Try.prog b.fn a o w, ev = ⟨.cell ⟨tb, 0, none⟩, false, false⟩ ∨ ev = ⟨.cell ⟨ga, m, none⟩, true, false⟩ := by
    intro ev hev
    have := mem_seen hev
    rw [hex, ev_v h1, h2] at this
    simpa using this
  refine ⟨_, _, by rw [hex]; exact run_v h1, ⟨⟨Nat.le_of_eq setCell_size.symm, fun b' hb' hn => setCell_other fun e => hn (by rw [e]; exact hga), rfl, rfl, rfl, fun ev hev => ?_⟩, fun ev hev b' q => ?_⟩, ?_⟩
  · rcases e2 ev hev with rfl | rfl
    · exact .inr ⟨rfl, tb, .inl ⟨_, rfl, rfl⟩, .inl (.inl htb)⟩
    · exact .inr ⟨rfl, ga, .inl ⟨_, rfl, rfl⟩, .inl (.inl hga)⟩
  · rcases e2 ev hev with rfl | rfl <;> cases q
  · have hg' : grow PB w (w.setCell ⟨ga, m, none⟩ V) = PB := by
      funext b'
      unfold grow
      rw [setCell_size]
      apply propext
      constructor
      · rintro (q | q)
        · exact q
        · omega
      · exact .inl
    rw [hg']
    refine hK _ ⟨⟨fun b' hb' => by rw [setCell_size]; exact hfb b' hb', by rw [setCell_other hne]; exact hwch⟩, ?_⟩
    rw [setCell_at hwga, ← gaArr_set (by omega), hm]

/-- THE SECOND LOOP: each child is heard out. -/
theorem loop2 (hne : ch ≠ ga) (hN : N < 2 ^ 40)
    (hK : ∀ (s : St) (PB : Nat → Prop) (x6 x15 x16 x17 x18 x19 x20 x21 x22 x23 x24 x25 y9 y10 y31 y32 y33 y34 y35 y36 y37 y38 y39 y40 y41 y42 : Value), s.cs.length = N → s.cur = N → s.got = false → s.vs.length = N → PB ch → PB ga → AtP ver N Fin s PB (And1 (And1 (FB2 PB s) ch (.cells (chArr s.cs N) 107)) ga (.cells (gaArr s.vs N) 24)) (G ((base 46).at (aL2 ver N ch ga (N) (N) x6 x15 x16 x17 x18 x19 x20 x21 x22 x23 x24 x25 y9 y10 y31 y32 y33 y34 y35 y36 y37 y38 y39 y40 y41 y42) k) cs)) :
    ∀ (r : Nat) (s : St) (PB : Nat → Prop) (x6 x15 x16 x17 x18 x19 x20 x21 x22 x23 x24 x25 y9 y10 y31 y32 y33 y34 y35 y36 y37 y38 y39 y40 y41 y42 : Value), s.cur + r = N → s.cs.length = N → s.got = false → s.vs.length = s.cur → PB ch → PB ga →
      AtP ver N Fin s PB (And1 (And1 (FB2 PB s) ch (.cells (chArr s.cs N) 107)) ga (.cells (gaArr s.vs N) 24)) (G ((base 46).at (aL2 ver N ch ga (s.cur) (s.cur) x6 x15 x16 x17 x18 x19 x20 x21 x22 x23 x24 x25 y9 y10 y31 y32 y33 y34 y35 y36 y37 y38 y39 y40 y41 y42) (.code L2 :: .inLoop L2 :: .inBlock 2 :: k)) cs) := by
  intro r
  induction r with
  | zero =>
    intro s PB x6 x15 x16 x17 x18 x19 x20 x21 x22 x23 x24 x25 y9 y10 y31 y32 y33 y34 y35 y36 y37 y38 y39 y40 y41 y42 hr hcs hgot hvs hch hga
    have O := ok2 (s := s) (o1 := .cells (chArr s.cs N) 107) (o2 := .cells (gaArr s.vs N) 24) hch hga
    have hN' : s.cur = N := by omega
    refine AtP.seq O.stab (AtP.region (a' := (aL2 ver N ch ga (s.cur) (s.cur) x6 x15 x16 x17 x18 x19 x20 x21 x22 x23 x24 x25 y9 y10 (.bool (decide ((s.cur : Int) < (N : Int)))) y32 y33 y34 y35 y36 y37 y38 y39 y40 y41 y42)) O.stab hk46 rfl ?_)
    rw [show decide ((s.cur : Int) < (N : Int)) = false by simp; omega]
    refine AtP.seq O.stab (AtP.cond (t := false) O.stab rfl ?_)
    refine AtP.exit (k' := k) O.stab rfl ?_
    rw [hN']
    exact hK s PB _ _ _ _ _ _ _ _ _ _ _ _ _ _ _ _ _ _ _ _ _ _ _ _ _ _ hcs hN' hgot (by omega) hch hga
  | succ r ih =>
    intro s PB x6 x15 x16 x17 x18 x19 x20 x21 x22 x23 x24 x25 y9 y10 y31 y32 y33 y34 y35 y36 y37 y38 y39 y40 y41 y42 hr hcs hgot hvs hch hga
    have O := ok2 (s := s) (o1 := .cells (chArr s.cs N) 107) (o2 := .cells (gaArr s.vs N) 24) hch hga
    have hlt : s.cur < N := by omega
    obtain ⟨⟨c, bc⟩, hcc⟩ : ∃ p, s.cs[s.cur]? = some p := ⟨_, List.getElem?_eq_getElem (by omega)⟩
    refine AtP.seq O.stab (AtP.region (a' := (aL2 ver N ch ga (s.cur) (s.cur) x6 x15 x16 x17 x18 x19 x20 x21 x22 x23 x24 x25 y9 y10 (.bool (decide ((s.cur : Int) < (N : Int)))) y32 y33 y34 y35 y36 y37 y38 y39 y40 y41 y42)) O.stab hk46 rfl ?_)
    rw [show decide ((s.cur : Int) < (N : Int)) = true by simp; omega]
    refine AtP.seq O.stab (AtP.cond (t := true) O.stab rfl (AtP.skip O.stab ?_))
    refine AtP.seq O.stab (AtP.block O.stab (AtP.seq O.stab (AtP.into O.stab ?_)))
    refine AtP.val (o := r46_10[0]) (v := .pointer (some ⟨ch, s.cur, none⟩)) O.stab hk46 rfl rfl (fun w => ?_) ?_
    · obtain ⟨q1, q2⟩ := indexAt_run (r := ch) hlt w
      exact ⟨run_v q1, (ev_v q1).trans q2⟩
    show AtP _ _ _ _ _ _ (G ((base 46).at (aL2 ver N ch ga (s.cur) (s.cur) x6 x15 x16 x17 x18 x19 x20 x21 x22 x23 x24 x25 y9 y10 (.bool true) (.pointer (some ⟨ch, s.cur, none⟩)) y33 y34 y35 y36 y37 y38 y39 y40 y41 y42) _) _)
    refine AtP.load (o := r46_10[1]) (r := ch) (off := s.cur) (v := .chan (some c)) O.stab hk46 rfl rfl rfl (.inl hch) rfl (fun w => by simp) (fun w hw => hw.1.2) (chArr_get hcc) ?_
    show AtP _ _ _ _ _ _ (G ((base 46).at (aL2 ver N ch ga (s.cur) (s.cur) x6 x15 x16 x17 x18 x19 x20 x21 x22 x23 x24 x25 y9 y10 (.bool true) (.pointer (some ⟨ch, s.cur, none⟩)) (.chan (some c)) y34 y35 y36 y37 y38 y39 y40 y41 y42) _) _)
    refine AtP.pures (l := [2]) (rest := []) (a' := (aL2 ver N ch ga (s.cur) (s.cur) x6 x15 x16 x17 x18 x19 x20 x21 x22 x23 x24 x25 (.chan (some c)) y10 (.bool true) (.pointer (some ⟨ch, s.cur, none⟩)) (.chan (some c)) y34 y35 y36 y37 y38 y39 y40 y41 y42)) O.stab hk46 rfl (AtP.out O.stab ?_)
    refine AtP.seq O.stab (AtP.region (a' := (aL2 ver N ch ga (s.cur) (s.cur) x6 x15 x16 x17 x18 x19 x20 x21 x22 x23 x24 x25 (.chan (some c)) y10 (.bool true) (.pointer (some ⟨ch, s.cur, none⟩)) (.chan (some c)) (.chan (some c)) y35 y36 y37 y38 y39 y40 y41 y42)) O.stab hk46 rfl ?_)
    refine AtP.block O.stab (AtP.loop O.stab (AtP.seq O.stab (AtP.into O.stab ?_)))
    -- the value
    refine AtP.recv (o := r46_12[0]) (bc := bc) O.stab hk46 rfl rfl rfl rfl hcc hgot fun V hV => ?_
    have Ot := ok2 (s := s.take V) (o1 := .cells (chArr s.cs N) 107) (o2 := .cells (gaArr s.vs N) 24) hch hga
    show AtP ver N Fin (s.take V) PB (And1 (And1 (FB2 PB (s.take V)) ch (.cells (chArr s.cs N) 107)) ga (.cells (gaArr s.vs N) 24)) (G ((base 46).at (aL2 ver N ch ga (s.cur) (s.cur) x6 x15 x16 x17 x18 x19 x20 x21 x22 x23 x24 x25 (.chan (some c)) y10 (.bool true) (.pointer (some ⟨ch, s.cur, none⟩)) (.chan (some c)) (.chan (some c)) (.tuple #[V, .bool true]) y36 y37 y38 y39 y40 y41 y42) (.inRegion r46_12 [1] :: _)) _)
    refine AtP.pures (l := [1]) (rest := []) (a' := (aL2 ver N ch ga (s.cur) (s.cur) x6 x15 x16 x17 x18 x19 x20 x21 x22 x23 x24 x25 (.chan (some c)) y10 (.bool true) (.pointer (some ⟨ch, s.cur, none⟩)) (.chan (some c)) (.chan (some c)) (.tuple #[V, .bool true]) (.bool true) y37 y38 y39 y40 y41 y42)) Ot.stab hk46 rfl (AtP.out Ot.stab ?_)
    refine AtP.seq Ot.stab (AtP.cond (t := true) Ot.stab rfl (AtP.skip Ot.stab ?_))
    refine AtP.block Ot.stab (AtP.seq Ot.stab ?_)
    refine AtP.region (a' := (aL2 ver N ch ga (s.cur) (s.cur) x6 x15 x16 x17 x18 x19 x20 x21 x22 x23 x24 x25 (.chan (some c)) V (.bool true) (.pointer (some ⟨ch, s.cur, none⟩)) (.chan (some c)) (.chan (some c)) (.tuple #[V, .bool true]) (.bool true) V y38 y39 y40 y41 y42)) Ot.stab hk46 rfl ?_
    refine AtP.into Ot.stab (AtP.pures (l := [0, 1]) (rest := [2, 3, 4]) (a' := (aL2 ver N ch ga (s.cur) (s.cur) x6 x15 x16 x17 x18 x19 x20 x21 x22 x23 x24 x25 (.chan (some c)) V (.bool true) (.pointer (some ⟨ch, s.cur, none⟩)) (.chan (some c)) (.chan (some c)) (.tuple #[V, .bool true]) (.bool true) V (.slice (some ⟨ga, 0, none⟩) s.cur N) V y40 y41 y42)) Ot.stab hk46 rfl ?_)
    refine AtP.alloc (o := r46_14[2]) (ob := .cells #[V] 24) (v := fun r => .slice (some ⟨r, 0, none⟩) 1 1) Ot hk46 rfl rfl (fun w _ => ?_) fun tb n1 m1 => ?_
    · obtain ⟨q1, q2⟩ := buildSlice_run hV w
      have hex : execOp (aL2 ver N ch ga (s.cur) (s.cur) x6 x15 x16 x17 x18 x19 x20 x21 x22 x23 x24 x25 (.chan (some c)) V (.bool true) (.pointer (some ⟨ch, s.cur, none⟩)) (.chan (some c)) (.chan (some c)) (.tuple #[V, .bool true]) (.bool true) V (.slice (some ⟨ga, 0, none⟩) s.cur N) V y40 y41 y42).eval r46_14[2] = (do pure (Next.value (← Instr.buildSlice 23 1 #[(0, V)])) : Sem Next) := by simp [execOp, r46_14, aL2, Act.eval]
      rw [hex]
      exact ⟨run_v q1, fun e he => by rw [ev_v q1, q2] at he; simp at he⟩
    show AtP _ _ _ _ _ _ (G ((base 46).at (aL2 ver N ch ga (s.cur) (s.cur) x6 x15 x16 x17 x18 x19 x20 x21 x22 x23 x24 x25 (.chan (some c)) V (.bool true) (.pointer (some ⟨ch, s.cur, none⟩)) (.chan (some c)) (.chan (some c)) (.tuple #[V, .bool true]) (.bool true) V (.slice (some ⟨ga, 0, none⟩) s.cur N) V (.slice (some ⟨tb, 0, none⟩) 1 1) y41 y42) _) _)
    have hch' : (fun b => PB b ∨ b = tb) ch := .inl hch
    have hga' : (fun b => PB b ∨ b = tb) ga := .inl hga
    have Oa : Ok (fun b => PB b ∨ b = tb) (s.take V) (And1 (And1 (And1 (FB2 (fun b => PB b ∨ b = tb) (s.take V)) ch (.cells (chArr (s.take V).cs N) 107)) ga (.cells (gaArr s.vs N) 24)) tb (.cells #[V] 24)) :=
      (ok2 (PB := fun b => PB b ∨ b = tb) hch' hga').and1 (fun _ q => q) (.inr rfl) fun _ q => .inl q
    refine AtP.mono (F := And1 (And1 (And1 (FB2 (fun b => PB b ∨ b = tb) (s.take V)) ch (.cells (chArr (s.take V).cs N) 107)) ga (.cells (gaArr s.vs N) 24)) tb (.cells #[V] 24)) (fun w hw => ⟨⟨⟨fun b hb => ?_, hw.1.1.2⟩, hw.1.2⟩, hw.2⟩) ?_
    · rcases hb with (hb | rfl) | hb
      · exact hw.1.1.1 b (.inl hb)
      · exact (Array.getElem?_eq_some_iff.1 hw.2).1
      · exact hw.1.1.1 b (.inr hb)
    refine AtP.append (o := r46_14[3]) (m := s.cur) hV hga' (.inr rfl) hne hvs hlt hk46 rfl rfl rfl rfl rfl rfl Oa.stab ?_
    show AtP ver N Fin (s.take V) (fun b => PB b ∨ b = tb) (And1 (And1 (FB2 (fun b => PB b ∨ b = tb) (s.take V)) ch (.cells (chArr (s.take V).cs N) 107)) ga (.cells (gaArr (s.take V).vs N) 24)) (G ((base 46).at (aL2 ver N ch ga (s.cur) (s.cur) x6 x15 x16 x17 x18 x19 x20 x21 x22 x23 x24 x25 (.chan (some c)) V (.bool true) (.pointer (some ⟨ch, s.cur, none⟩)) (.chan (some c)) (.chan (some c)) (.tuple #[V, .bool true]) (.bool true) V (.slice (some ⟨ga, 0, none⟩) s.cur N) V (.slice (some ⟨tb, 0, none⟩) 1 1) (.slice (some ⟨ga, 0, none⟩) (s.cur + 1) N) y42) _) _)
    have Ob := ok2 (PB := fun b => PB b ∨ b = tb) (s := s.take V) (o1 := .cells (chArr (s.take V).cs N) 107) (o2 := .cells (gaArr (s.take V).vs N) 24) hch' hga'
    refine AtP.pures (l := [4]) (rest := []) (a' := (aL2 ver N ch ga (s.cur + 1) (s.cur) x6 x15 x16 x17 x18 x19 x20 x21 x22 x23 x24 x25 (.chan (some c)) V (.bool true) (.pointer (some ⟨ch, s.cur, none⟩)) (.chan (some c)) (.chan (some c)) (.tuple #[V, .bool true]) (.bool true) V (.slice (some ⟨ga, 0, none⟩) s.cur N) V (.slice (some ⟨tb, 0, none⟩) 1 1) (.slice (some ⟨ga, 0, none⟩) (s.cur + 1) N) y42)) Ob.stab hk46 rfl (AtP.out Ob.stab ?_)
    refine AtP.inBlock Ob.stab (AtP.inLoop Ob.stab (AtP.seq Ob.stab (AtP.into Ob.stab ?_)))
    -- the close
    refine AtP.shut (o := r46_12[0]) (bc := bc) Ob.stab hk46 rfl rfl rfl rfl hcc rfl ?_
    have Oc := ok2 (PB := fun b => PB b ∨ b = tb) (s := (s.take V).next) (o1 := .cells (chArr (s.take V).cs N) 107) (o2 := .cells (gaArr (s.take V).vs N) 24) hch' hga'
    show AtP ver N Fin (s.take V).next (fun b => PB b ∨ b = tb) (And1 (And1 (FB2 (fun b => PB b ∨ b = tb) (s.take V).next) ch (.cells (chArr (s.take V).cs N) 107)) ga (.cells (gaArr (s.take V).vs N) 24)) (G ((base 46).at (aL2 ver N ch ga (s.cur + 1) (s.cur) x6 x15 x16 x17 x18 x19 x20 x21 x22 x23 x24 x25 (.chan (some c)) V (.bool true) (.pointer (some ⟨ch, s.cur, none⟩)) (.chan (some c)) (.chan (some c)) (.tuple #[.slice none 0 0, .bool false]) (.bool true) V (.slice (some ⟨ga, 0, none⟩) s.cur N) V (.slice (some ⟨tb, 0, none⟩) 1 1) (.slice (some ⟨ga, 0, none⟩) (s.cur + 1) N) y42) (.inRegion r46_12 [1] :: _)) _)
    refine AtP.pures (l := [1]) (rest := []) (a' := (aL2 ver N ch ga (s.cur + 1) (s.cur) x6 x15 x16 x17 x18 x19 x20 x21 x22 x23 x24 x25 (.chan (some c)) V (.bool true) (.pointer (some ⟨ch, s.cur, none⟩)) (.chan (some c)) (.chan (some c)) (.tuple #[.slice none 0 0, .bool false]) (.bool false) V (.slice (some ⟨ga, 0, none⟩) s.cur N) V (.slice (some ⟨tb, 0, none⟩) 1 1) (.slice (some ⟨ga, 0, none⟩) (s.cur + 1) N) y42)) Oc.stab hk46 rfl (AtP.out Oc.stab ?_)
    refine AtP.seq Oc.stab (AtP.cond (t := false) Oc.stab rfl ?_)
    refine AtP.exit (k' := .inBlock 3 :: .code (.region 15 r46_15 false) :: .inLoop L2 :: .inBlock 2 :: k) Oc.stab rfl (AtP.inBlock Oc.stab ?_)
    refine AtP.region (a' := (aL2 ver N ch ga (s.cur + 1) (IntKind.i64.wrap ((s.cur : Int) + 1)) x6 x15 x16 x17 x18 x19 x20 x21 x22 x23 x24 x25 (.chan (some c)) V (.bool true) (.pointer (some ⟨ch, s.cur, none⟩)) (.chan (some c)) (.chan (some c)) (.tuple #[.slice none 0 0, .bool false]) (.bool false) V (.slice (some ⟨ga, 0, none⟩) s.cur N) V (.slice (some ⟨tb, 0, none⟩) 1 1) (.slice (some ⟨ga, 0, none⟩) (s.cur + 1) N) (.int .i64 (IntKind.i64.wrap ((s.cur : Int) + 1))))) Oc.stab hk46 rfl (AtP.inLoop Oc.stab ?_)
    rw [wrap_nat (by omega)]
    have hcur : (s.take V).next.cur = s.cur + 1 := rfl
    exact ih (s.take V).next (fun b => PB b ∨ b = tb) _ _ _ _ _ _ _ _ _ _ _ _ _ _ _ _ _ _ _ _ _ _ _ _ _ _ (by rw [hcur]; omega) hcs rfl (by show (s.vs ++ [V]).length = s.cur + 1; simp [hvs]) hch' hga'
end
end Go.Proofs.Ytlndinigbppafaa

/-
  proofs: the whole.
-/
namespace Go.Proofs.Ytlndinigbppafaa
open Go.Sim Go.Conc

/-- proofs stands at its return: what it has gathered. -/
def FinP (N : Nat) (cs : List Frame) (s : St) (PB : Nat → Prop) (g : Goroutine) (w : World) : Prop :=
  s.vs.length = N ∧ s.cs.length = N ∧ ∃ ga a, g = G { (base 46).at a [.code .ret] with mode := .returning } cs ∧ a.defers = [] ∧ a.tmps.getD 4 undef = .slice (some ⟨ga, 0, none⟩) N N ∧ PB ga ∧ w.heap[ga]? = some (.cells s.vs.toArray 24)

def s0 : St := ⟨[], 0, false, []⟩
theorem rd_s0 {b : Nat} : ¬ s0.rd b := by rintro ⟨p, hp, _⟩; cases hp

section
variable {ver : Value} {N : Nat} {Fin : St → (Nat → Prop) → Goroutine → World → Prop} {cs : List Frame} {ch ga : Nat}

/-- Behind the second loop. -/
theorem tail46 {s : St} {PB : Nat → Prop} {F : World → Prop} {a : Act} (hS : Stab PB s F) (h1 : s.vs.length = N) (h2 : s.cs.length = N) (h3 : s.cur = N) (h4 : s.got = false) (hga : PB ga) (hd : a.defers = []) (hsz : a.tmps.size = 44) (h7 : a.tmps.getD 7 undef = .slice (some ⟨ga, 0, none⟩) N N)
    (hF : ∀ w, F w → w.heap[ga]? = some (.cells (gaArr s.vs N) 24)) : AtP ver N (FinP N cs) s PB F (G ((base 46).at a [.code (.seq (.region 16 r46_16 false) .ret)]) cs) := by
  refine AtP.seq hS (AtP.region (a' := (a.put (some 43) (.slice (some ⟨ga, 0, none⟩) N N)).put (some 4) (.slice (some ⟨ga, 0, none⟩) N N)) hS hk46 ?_ (AtP.ret hS ?_))
  · have e : a.eval (.tmp 7) = .slice (some ⟨ga, 0, none⟩) N N := h7
    have e2 : (a.put (some 43) (.slice (some ⟨ga, 0, none⟩) N N)).eval (.tmp 43) = .slice (some ⟨ga, 0, none⟩) N N := by
      simp [Act.put, Act.eval, Array.getD_eq_getD_getElem?, hsz]
    have hr : List.range r46_16.size = [0, 1] := rfl
    rw [hr]
    simp only [pureOps, r46_16]
    simp [pv, e, e2]
  · intro w hw
    refine PS.fin rfl (by omega) h4 fun w₁ hR => ⟨h1, h2, ga, _, rfl, ?_, ?_, hga, ?_⟩
    · simp [Act.put, hd]
    · simp [Act.put, Array.getD_eq_getD_getElem?, hsz]
    · rw [hF w₁ (hS w w₁ hw hR)]
      simp [gaArr, h1]

/-- Between the loops. -/
theorem mid46 {s : St} {PB : Nat → Prop} (hch : PB ch) (hPB : ∀ b, PB b → b = ch) (hN : N < 2 ^ 40) (h1 : s.cs.length = N) (h2 : s.cur = 0) (h3 : s.got = false) (h4 : s.vs = []) (x6 x16 x17 x18 x19 x20 x21 x22 x23 x24 x25 : Value) :
    AtP ver N (FinP N cs) s PB (And1 (FB s) ch (.cells (chArr s.cs N) 107)) (G ((base 46).at (aL1 ver N ch (N : Int) x6 x16 x17 x18 x19 x20 x21 x22 x23 x24 x25) [.code (.seq (.region 7 r46_7 false) (.seq (.seq (.region 8 r46_8 false) (.block 2 (.loop L2))) (.seq (.region 16 r46_16 false) .ret)))]) cs) := by
  have O := ok_ch (s := s) (ob := .cells (chArr s.cs N) 107) hch hPB
  refine AtP.seq O.stab (AtP.into O.stab (AtP.pures (l := [0]) (rest := [1, 2]) (a' := (⟨#[ver, .int .i64 N, undef, undef, .slice none 0 0, .slice (some ⟨ch, 0, none⟩) N N, x6, undef, undef, undef, undef, .int .i64 N, .slice (some ⟨ch, 0, none⟩) N N, .slice (some ⟨ch, 0, none⟩) N N, .int .i64 N, .int .i64 N, x16, x17, x18, x19, x20, x21, x22, x23, x24, x25, .int .i64 N, undef, undef, undef, undef, undef, undef, undef, undef, undef, undef, undef, undef, undef, undef, undef, undef, undef], []⟩ : Act)) O.stab hk46 rfl ?_))
  refine AtP.alloc (o := r46_7[1]) (ob := .cells (Array.replicate N (.slice none 0 0)) 24) (v := fun r => .slice (some ⟨r, 0, none⟩) 0 N) O hk46 rfl rfl (fun w _ => ?_) fun ga n1 m1 => ?_
  · obtain ⟨q1, q2⟩ := makeSlice_run (l := 0) (n := N) Try.und23 Try.zero24 rfl Try.size24 Try.bytes24 (by omega) (by omega) (by omega) w
    exact ⟨run_v q1, fun e he => q2 e (by
      have he' : e ∈ (do pure (Next.value (← Instr.makeSlice 23 (.int .i64 ((0 : Nat) : Int)) (.int .i64 N))) : Sem Next).events Try.prog w #[] := he
      rwa [ev_v q1] at he')⟩
  have hne : ch ≠ ga := fun e => n1 (e ▸ hch)
  have hchP : (fun b => PB b ∨ b = ga) ch := .inl hch
  have hgaP : (fun b => PB b ∨ b = ga) ga := .inr rfl
  have O2 := ok2 (PB := fun b => PB b ∨ b = ga) (s := s) (o1 := .cells (chArr s.cs N) 107) (o2 := .cells (gaArr s.vs N) 24) hchP hgaP
  refine AtP.mono (F := And1 (And1 (FB2 (fun b => PB b ∨ b = ga) s) ch (.cells (chArr s.cs N) 107)) ga (.cells (gaArr s.vs N) 24)) (fun w hw => ⟨⟨fun b hb => ?_, hw.1.2⟩, by rw [h4, gaArr_nil]; exact hw.2⟩) ?_
  · rcases hb with (hb | rfl) | hb
    · rw [hPB b hb]; exact (Array.getElem?_eq_some_iff.1 hw.1.2).1
    · exact (Array.getElem?_eq_some_iff.1 hw.2).1
    · exact hw.1.1 b hb
  show AtP _ _ _ _ _ _ (G ((base 46).at (⟨#[ver, .int .i64 N, undef, undef, .slice none 0 0, .slice (some ⟨ch, 0, none⟩) N N, x6, undef, undef, undef, undef, .int .i64 N, .slice (some ⟨ch, 0, none⟩) N N, .slice (some ⟨ch, 0, none⟩) N N, .int .i64 N, .int .i64 N, x16, x17, x18, x19, x20, x21, x22, x23, x24, x25, .int .i64 N, .slice (some ⟨ga, 0, none⟩) 0 N, undef, undef, undef, undef, undef, undef, undef, undef, undef, undef, undef, undef, undef, undef, undef, undef], []⟩ : Act) _) _)
  refine AtP.pures (l := [2]) (rest := []) (a' := (⟨#[ver, .int .i64 N, undef, undef, .slice none 0 0, .slice (some ⟨ch, 0, none⟩) N N, x6, .slice (some ⟨ga, 0, none⟩) 0 N, undef, undef, undef, .int .i64 N, .slice (some ⟨ch, 0, none⟩) N N, .slice (some ⟨ch, 0, none⟩) N N, .int .i64 N, .int .i64 N, x16, x17, x18, x19, x20, x21, x22, x23, x24, x25, .int .i64 N, .slice (some ⟨ga, 0, none⟩) 0 N, undef, undef, undef, undef, undef, undef, undef, undef, undef, undef, undef, undef, undef, undef, undef, undef], []⟩ : Act)) O2.stab hk46 rfl (AtP.out O2.stab ?_)
  refine AtP.seq O2.stab (AtP.seq O2.stab (AtP.into O2.stab (AtP.pures (l := [0]) (rest := [1, 2]) (a' := (⟨#[ver, .int .i64 N, undef, undef, .slice none 0 0, .slice (some ⟨ch, 0, none⟩) N N, x6, .slice (some ⟨ga, 0, none⟩) 0 N, undef, undef, undef, .int .i64 N, .slice (some ⟨ch, 0, none⟩) N N, .slice (some ⟨ch, 0, none⟩) N N, .int .i64 N, .int .i64 N, x16, x17, x18, x19, x20, x21, x22, x23, x24, x25, .int .i64 N, .slice (some ⟨ga, 0, none⟩) 0 N, .slice (some ⟨ch, 0, none⟩) N N, undef, undef, undef, undef, undef, undef, undef, undef, undef, undef, undef, undef, undef, undef, undef], []⟩ : Act)) O2.stab hk46 rfl ?_)))
  refine AtP.val (o := r46_8[1]) (v := .int .i64 N) O2.stab hk46 rfl rfl (fun w => len_run rfl rfl w) ?_
  show AtP _ _ _ _ _ _ (G ((base 46).at (⟨#[ver, .int .i64 N, undef, undef, .slice none 0 0, .slice (some ⟨ch, 0, none⟩) N N, x6, .slice (some ⟨ga, 0, none⟩) 0 N, undef, undef, undef, .int .i64 N, .slice (some ⟨ch, 0, none⟩) N N, .slice (some ⟨ch, 0, none⟩) N N, .int .i64 N, .int .i64 N, x16, x17, x18, x19, x20, x21, x22, x23, x24, x25, .int .i64 N, .slice (some ⟨ga, 0, none⟩) 0 N, .slice (some ⟨ch, 0, none⟩) N N, .int .i64 N, undef, undef, undef, undef, undef, undef, undef, undef, undef, undef, undef, undef, undef, undef], []⟩ : Act) _) _)
  refine AtP.pures (l := [2]) (rest := []) (a' := aL2 ver N ch ga 0 0 x6 (.int .i64 N) x16 x17 x18 x19 x20 x21 x22 x23 x24 x25 undef undef undef undef undef undef undef undef undef undef undef undef undef undef) O2.stab hk46 rfl (AtP.out O2.stab ?_)
  refine AtP.block O2.stab (AtP.loop O2.stab ?_)
  have L := loop2 (ver := ver) (Fin := FinP N cs) (k := [.code (.seq (.region 16 r46_16 false) .ret)]) (cs := cs) hne hN (fun s PB x6 x15 x16 x17 x18 x19 x20 x21 x22 x23 x24 x25 y9 y10 y31 y32 y33 y34 y35 y36 y37 y38 y39 y40 y41 y42 q1 q2 q3 q4 q5 q6 => tail46 (ok2 (s := s) q5 q6).stab q4 q1 q2 q3 q6 rfl rfl rfl fun w hw => hw.2) N s (fun b => PB b ∨ b = ga) x6 (.int .i64 N) x16 x17 x18 x19 x20 x21 x22 x23 x24 x25 undef undef undef undef undef undef undef undef undef undef undef undef undef undef (by omega) h1 h3 (by rw [h4, h2]; rfl) hchP hgaP
  rw [h2] at L
  exact L

/-- ████ PROOFS ████ -/
theorem proofs_at (hver : ver.cells = #[ver]) (hN : N < 2 ^ 40) :
    AtP ver N (FinP N cs) s0 (fun _ => False) (fun _ => True) (G ((base 46).at (⟨#[ver, .int .i64 N, undef, undef, undef, undef, undef, undef, undef, undef, undef, undef, undef, undef, undef, undef, undef, undef, undef, undef, undef, undef, undef, undef, undef, undef, undef, undef, undef, undef, undef, undef, undef, undef, undef, undef, undef, undef, undef, undef, undef, undef, undef, undef], []⟩ : Act) [.code c46]) cs) := by
  have O : Ok (fun _ => False) s0 (fun _ => True) := ⟨fun _ _ _ _ => trivial, fun _ _ _ hb => (hb.elim False.elim fun q => rd_s0 q).elim⟩
  refine AtP.seq O.stab (AtP.region (a' := (⟨#[ver, .int .i64 N, undef, undef, .slice none 0 0, undef, undef, undef, undef, undef, undef, undef, undef, undef, undef, undef, undef, undef, undef, undef, undef, undef, undef, undef, undef, undef, undef, undef, undef, undef, undef, undef, undef, undef, undef, undef, undef, undef, undef, undef, undef, undef, undef, undef], []⟩ : Act)) O.stab hk46 rfl ?_)
  refine AtP.seq O.stab (AtP.into O.stab (AtP.pures (l := [0]) (rest := [1, 2]) (a' := (⟨#[ver, .int .i64 N, undef, undef, .slice none 0 0, undef, undef, undef, undef, undef, undef, .int .i64 N, undef, undef, undef, undef, undef, undef, undef, undef, undef, undef, undef, undef, undef, undef, undef, undef, undef, undef, undef, undef, undef, undef, undef, undef, undef, undef, undef, undef, undef, undef, undef, undef], []⟩ : Act)) O.stab hk46 rfl ?_))
  refine AtP.alloc (o := r46_1[1]) (ob := .cells (Array.replicate N (.chan none)) 107) (v := fun r => .slice (some ⟨r, 0, none⟩) N N) O hk46 rfl rfl (fun w _ => ?_) fun ch n1 m1 => ?_
  · obtain ⟨q1, q2⟩ := makeSlice_run (l := N) (n := N) Try.und106 Try.zero107 rfl Try.size107 Try.bytes107 (Nat.le_refl _) (by omega) (by omega) w
    exact ⟨run_v q1, fun e he => q2 e (by
      have he' : e ∈ (do pure (Next.value (← Instr.makeSlice 106 (.int .i64 N) (.int .i64 N))) : Sem Next).events Try.prog w #[] := he
      rwa [ev_v q1] at he')⟩
  have hch : (fun b => False ∨ b = ch) ch := .inr rfl
  have hPB : ∀ b, (fun b => False ∨ b = ch) b → b = ch := fun b hb => hb.elim False.elim id
  have O1 := ok_ch (PB := fun b => False ∨ b = ch) (s := s0) (ob := .cells (chArr s0.cs N) 107) hch hPB
  refine AtP.mono (F := And1 (FB s0) ch (.cells (chArr s0.cs N) 107)) (fun w hw => ⟨fun b hb => absurd hb rd_s0, by rw [show s0.cs = [] from rfl, chArr_nil]; exact hw.2⟩) ?_
  show AtP _ _ _ _ _ _ (G ((base 46).at (⟨#[ver, .int .i64 N, undef, undef, .slice none 0 0, undef, undef, undef, undef, undef, undef, .int .i64 N, .slice (some ⟨ch, 0, none⟩) N N, undef, undef, undef, undef, undef, undef, undef, undef, undef, undef, undef, undef, undef, undef, undef, undef, undef, undef, undef, undef, undef, undef, undef, undef, undef, undef, undef, undef, undef, undef, undef], []⟩ : Act) _) _)
  refine AtP.pures (l := [2]) (rest := []) (a' := (⟨#[ver, .int .i64 N, undef, undef, .slice none 0 0, .slice (some ⟨ch, 0, none⟩) N N, undef, undef, undef, undef, undef, .int .i64 N, .slice (some ⟨ch, 0, none⟩) N N, undef, undef, undef, undef, undef, undef, undef, undef, undef, undef, undef, undef, undef, undef, undef, undef, undef, undef, undef, undef, undef, undef, undef, undef, undef, undef, undef, undef, undef, undef, undef], []⟩ : Act)) O1.stab hk46 rfl (AtP.out O1.stab ?_)
  refine AtP.seq O1.stab (AtP.seq O1.stab (AtP.into O1.stab (AtP.pures (l := [0]) (rest := [1, 2]) (a' := (⟨#[ver, .int .i64 N, undef, undef, .slice none 0 0, .slice (some ⟨ch, 0, none⟩) N N, undef, undef, undef, undef, undef, .int .i64 N, .slice (some ⟨ch, 0, none⟩) N N, .slice (some ⟨ch, 0, none⟩) N N, undef, undef, undef, undef, undef, undef, undef, undef, undef, undef, undef, undef, undef, undef, undef, undef, undef, undef, undef, undef, undef, undef, undef, undef, undef, undef, undef, undef, undef, undef], []⟩ : Act)) O1.stab hk46 rfl ?_)))
  refine AtP.val (o := r46_2[1]) (v := .int .i64 N) O1.stab hk46 rfl rfl (fun w => len_run rfl rfl w) ?_
  show AtP _ _ _ _ _ _ (G ((base 46).at (⟨#[ver, .int .i64 N, undef, undef, .slice none 0 0, .slice (some ⟨ch, 0, none⟩) N N, undef, undef, undef, undef, undef, .int .i64 N, .slice (some ⟨ch, 0, none⟩) N N, .slice (some ⟨ch, 0, none⟩) N N, .int .i64 N, undef, undef, undef, undef, undef, undef, undef, undef, undef, undef, undef, undef, undef, undef, undef, undef, undef, undef, undef, undef, undef, undef, undef, undef, undef, undef, undef, undef, undef], []⟩ : Act) _) _)
  refine AtP.pures (l := [2]) (rest := []) (a' := aL1 ver N ch 0 undef undef undef undef undef undef undef undef undef undef undef) O1.stab hk46 rfl (AtP.out O1.stab ?_)
  refine AtP.block O1.stab (AtP.loop O1.stab ?_)
  exact loop1 hch hPB hver hN (fun s x6 x16 x17 x18 x19 x20 x21 x22 x23 x24 x25 q1 q2 q3 q4 _ => mid46 hch hPB hN q1 q2 q3 q4 x6 x16 x17 x18 x19 x20 x21 x22 x23 x24 x25) N s0 undef undef undef undef undef undef undef undef undef undef undef (by show 0 + N = N; omega) rfl rfl rfl rd_s0
end
end Go.Proofs.Ytlndinigbppafaa

/-
  What an operation may list: touches of blocks that are there, and the mark noRoom; nothing of the outside world.
-/
namespace Go.Fi
variable {P : Program} {α β : Type}

def blk : Loc → Option Nat
  | .cell a => some a.block
  | .obj r => some r
  | _ => none

/-- A touch of a block below n, or the mark noRoom. -/
def EvF (n : Nat) (e : Event) : Prop := e.loc = .mark .noRoom ∨ ∃ b, blk e.loc = some b ∧ b < n
theorem EvF.mono {n m : Nat} {e : Event} (h : EvF n e) (hm : n ≤ m) : EvF m e := h.imp id fun ⟨b, h1, h2⟩ => ⟨b, h1, Nat.lt_of_lt_of_le h2 hm⟩

/-- It says nothing but noRoom, and does nothing to the outside world. -/
def Fine (P : Program) : Sem α → Prop
  | .pure _ => True
  | .load _ _ k => ∀ v, Fine P (k v)
  | .store _ _ _ k => Fine P k
  | .new _ k => ∀ r, Fine P (k r)
  | .shape _ k => ∀ s, Fine P (k s)
  | .freeze _ _ k => Fine P k
  | .frozen _ k => ∀ b, Fine P (k b)
  | .getObj _ k => ∀ o, Fine P (k o)
  | .setObj _ _ k => Fine P k
  | .choose _ k => ∀ n, Fine P (k n)
  | .sys _ _ => False
  | .program k => Fine P (k P)
  | .mark m k => m = .noRoom ∧ Fine P k
  | .halt _ => True

theorem fine_bind' {m : Sem α} {f : α → Sem β} (h : Fine P m) (hf : ∀ a, Fine P (f a)) : Fine P (m.bind f) := by
  induction m with
  | pure a => exact hf a
  | load _ _ k ih => exact fun v => ih v (h v)
  | store _ _ _ k ih => exact ih h
  | new _ k ih => exact fun v => ih v (h v)
  | shape _ k ih => exact fun v => ih v (h v)
  | freeze _ _ k ih => exact ih h
  | frozen _ k ih => exact fun v => ih v (h v)
  | getObj _ k ih => exact fun v => ih v (h v)
  | setObj _ _ k ih => exact ih h
  | choose _ k ih => exact fun v => ih v (h v)
  | sys _ _ _ => exact h.elim
  | program k ih => exact ih P h
  | mark m k ih => exact ⟨h.1, ih h.2⟩
  | halt _ => trivial
theorem Fine.bind {m : Sem α} {f : α → Sem β} (h : Fine P m) (hf : ∀ a, Fine P (f a)) : Fine P (m >>= f) := fine_bind' h hf
theorem Fine.pure (a : α) : Fine P (pure a : Sem α) := trivial
theorem Fine.map {m : Sem α} {f : α → β} (h : Fine P m) : Fine P (f <$> m) := fine_bind' h fun _ => trivial

def rw' : Result α → World
  | .ok _ w => w
  | .halt _ w => w

theorem seen_block {w : World} {at_ : Addr} {u : TypeId} {k : Addr} {atomic : Bool} {r} (h : w.seen P at_ u k atomic = .ok r) : at_.block < w.heap.size := by
  have : ∃ o, w.heap[at_.block]? = some o := by
    cases e : w.heap[at_.block]? with
    | some o => exact ⟨o, rfl⟩
    | none =>
      exfalso
      unfold World.seen at h
      simp only [e] at h
      repeat' split at h
      all_goals first | (cases h; done) | skip
      all_goals simp [bind, Except.bind, throw, throwThe, MonadExceptOf.throw] at h
  obtain ⟨o, ho⟩ := this
  exact (Array.getElem?_eq_some_iff.1 ho).1

theorem viewLoad_low {w : World} {at_ : Addr} {u : TypeId} {k : Addr} {atomic : Bool} {v : Value} {l : List Addr} (h : w.viewLoad P at_ u k atomic = .ok (v, l)) : ∀ a ∈ l, a.block < w.heap.size := by
  unfold World.viewLoad at h
  cases hs : w.seen P at_ u k atomic with
  | error e => rw [hs] at h; cases h
  | ok r =>
    have hb := seen_block hs
    rw [hs] at h
    obtain ⟨c, e, fz, first, like, cells⟩ := r
    simp only [bind, Except.bind] at h
    split at h
    · cases h
      intro a ha
      simp only [List.mem_map] at ha
      obtain ⟨x, _, rfl⟩ := ha
      exact hb
    · cases h
theorem viewStore_low {w w' : World} {at_ : Addr} {u : TypeId} {k : Addr} {x : Value} {atomic : Bool} {l : List Addr} (h : w.viewStore P at_ u k x atomic = .ok (w', l)) : w'.heap.size = w.heap.size ∧ ∀ a ∈ l, a.block < w.heap.size := by
  unfold World.viewStore at h
  by_cases ht : (!tight P P.depth u) = true
  · simp only [ht, if_true] at h
    cases h
  cases hs : w.seen P at_ u k atomic with
  | error e => simp only [ht, hs] at h; cases h
  | ok r =>
    have hb := seen_block hs
    obtain ⟨c, e, fz, first, like, cells⟩ := r
    simp only [ht, hs, bind, Except.bind, Bool.false_eq_true, if_false] at h
    split at h
    · split at h
      · cases h
      · split at h
        · cases h
        · simp only [Pure.pure, Except.pure, Except.ok.injEq, Prod.mk.injEq] at h
          obtain ⟨rfl, rfl⟩ := h
          refine ⟨by simp, fun a ha => ?_⟩
          simp only [List.mem_map] at ha
          obtain ⟨x, _, rfl⟩ := ha
          exact hb
    · cases h

theorem cell_low {w : World} {a : Addr} {v : Value} (h : w.cell? a = some v) : a.block < w.heap.size := by
  unfold World.cell? at h
  split at h
  · rename_i hb
    exact (Array.getElem?_eq_some_iff.1 hb).1
  · cases h

/-- WHAT A FINE OPERATION LISTS, and the memory only grows. -/
theorem Fine.runT {m : Sem α} (h : Fine P m) : ∀ (w : World) (es : Array Event), w.heap.size ≤ (rw' (m.runT P w es).1).heap.size ∧ ∀ e ∈ (m.runT P w es).2, e ∈ es ∨ EvF (rw' (m.runT P w es).1).heap.size e := by
  have push : ∀ {n : Nat} {es : Array Event} {x e : Event}, e ∈ es.push x → EvF n x → e ∈ es ∨ EvF n e := by
    intro n es x e he hx
    rcases Array.mem_push.1 he with he | rfl
    · exact .inl he
    · exact .inr hx
  induction m with
  | pure a => exact fun w es => ⟨Nat.le_refl _, fun e he => .inl he⟩
  | halt _ => exact fun w es => ⟨Nat.le_refl _, fun e he => .inl he⟩
  | load m a k ih =>
    intro w es
    unfold Sem.runT
    split
    · rename_i v hv
      obtain ⟨h1, h2⟩ := ih v (h v) w (es.push ⟨.cell a, false, m == .atomic⟩)
      refine ⟨h1, fun e he => (h2 e he).elim (fun q => push q (.inr ⟨_, rfl, Nat.lt_of_lt_of_le (cell_low hv) h1⟩)) .inr⟩
    · split
      · rename_i v touched hv
        obtain ⟨h1, h2⟩ := ih v (h v) w (es ++ touched.toArray.map (⟨.cell ·, false, m == .atomic⟩))
        refine ⟨h1, fun e he => (h2 e he).elim (fun q => ?_) .inr⟩
        rcases Array.mem_append.1 q with q | q
        · exact .inl q
        · obtain ⟨x, hx, rfl⟩ := Array.mem_map.1 q
          refine .inr (.inr ⟨_, rfl, Nat.lt_of_lt_of_le ?_ h1⟩)
          unfold World.farLoad at hv
          split at hv
          · split at hv
            · rename_i r hr
              cases hv
              exact viewLoad_low hr x (by simpa using hx)
            · cases hv
          · cases hv
      · exact ⟨Nat.le_refl _, fun e he => .inl he⟩
  | store m a v k ih =>
    intro w es
    have ih' := ih h
    have main : ∀ {x : Result α × Array Event}, (x = match w.cell? a with
        | some _ => if w.frozen? a then (.halt (.unsupported (.unsafePointer "a write to bytes that a string shares")) w, es) else k.runT P (w.setCell a v) (es.push ⟨.cell a, true, m == .atomic⟩)
        | none => match w.farStore P a v (m == .atomic) with
          | .ok (w, touched) => k.runT P w (es ++ touched.toArray.map (⟨.cell ·, true, m == .atomic⟩))
          | .error h => (.halt h w, es)) → w.heap.size ≤ (rw' x.1).heap.size ∧ ∀ e ∈ x.2, e ∈ es ∨ EvF (rw' x.1).heap.size e := by
      intro x hx
      subst hx
      split
      · rename_i v' hv
        split
        · exact ⟨Nat.le_refl _, fun e he => .inl he⟩
        · obtain ⟨h1, h2⟩ := ih' (w.setCell a v) (es.push ⟨.cell a, true, m == .atomic⟩)
          have hs : w.heap.size ≤ (rw' (k.runT P (w.setCell a v) (es.push ⟨.cell a, true, m == .atomic⟩)).1).heap.size := by
            refine Nat.le_trans (Nat.le_of_eq ?_) h1
            unfold World.setCell
            split <;> simp
          exact ⟨hs, fun e he => (h2 e he).elim (fun q => push q (.inr ⟨_, rfl, Nat.lt_of_lt_of_le (cell_low hv) hs⟩)) .inr⟩
      · split
        · rename_i w1 touched hv
          obtain ⟨h1, h2⟩ := ih' w1 (es ++ touched.toArray.map (⟨.cell ·, true, m == .atomic⟩))
          have hl : w1.heap.size = w.heap.size ∧ ∀ x ∈ touched, x.block < w.heap.size := by
            unfold World.farStore at hv
            split at hv
            · split at hv
              · rename_i r hr
                cases hv
                exact viewStore_low hr
              · cases hv
            · cases hv
          rw [hl.1] at h1
          refine ⟨h1, fun e he => (h2 e he).elim (fun q => ?_) .inr⟩
          rcases Array.mem_append.1 q with q | q
          · exact .inl q
          · obtain ⟨x, hx, rfl⟩ := Array.mem_map.1 q
            exact .inr (.inr ⟨_, rfl, Nat.lt_of_lt_of_le (hl.2 x (by simpa using hx)) h1⟩)
        · exact ⟨Nat.le_refl _, fun e he => .inl he⟩
    cases v with
    | agg _ => exact ⟨Nat.le_refl _, fun e he => .inl he⟩
    | tuple _ => exact ⟨Nat.le_refl _, fun e he => .inl he⟩
    | _ => exact main rfl
  | new o k ih =>
    intro w es
    obtain ⟨h1, h2⟩ := ih w.heap.size (h _) { w with heap := w.heap.push o } es
    exact ⟨Nat.le_trans (by simp) h1, h2⟩
  | shape r k ih => exact fun w es => ih _ (h _) w es
  | freeze a n k ih =>
    intro w es
    obtain ⟨h1, h2⟩ := ih h (w.freeze a n) es
    refine ⟨Nat.le_trans (Nat.le_of_eq ?_) h1, h2⟩
    unfold World.freeze
    split <;> simp
  | frozen a k ih => exact fun w es => ih _ (h _) w es
  | getObj r k ih =>
    intro w es
    unfold Sem.runT
    split
    · exact ⟨Nat.le_refl _, fun e he => .inl he⟩
    · rename_i o _ ho
      obtain ⟨h1, h2⟩ := ih o (h o) w (es.push ⟨.obj r, false, o.isChan⟩)
      exact ⟨h1, fun e he => (h2 e he).elim (fun q => push q (.inr ⟨_, rfl, Nat.lt_of_lt_of_le (Array.getElem?_eq_some_iff.1 ho).1 h1⟩)) .inr⟩
    · exact ⟨Nat.le_refl _, fun e he => .inl he⟩
  | setObj r o k ih =>
    intro w es
    unfold Sem.runT
    split
    · exact ⟨Nat.le_refl _, fun e he => .inl he⟩
    · rename_i o' _ ho
      obtain ⟨h1, h2⟩ := ih h { w with heap := w.heap.setIfInBounds r o } (es.push ⟨.obj r, true, o.isChan⟩)
      have hs : w.heap.size ≤ (rw' (k.runT P { w with heap := w.heap.setIfInBounds r o } (es.push ⟨.obj r, true, o.isChan⟩)).1).heap.size := Nat.le_trans (by simp) h1
      exact ⟨hs, fun e he => (h2 e he).elim (fun q => push q (.inr ⟨_, rfl, Nat.lt_of_lt_of_le (Array.getElem?_eq_some_iff.1 ho).1 hs⟩)) .inr⟩
    · exact ⟨Nat.le_refl _, fun e he => .inl he⟩
  | choose q k ih =>
    intro w es
    unfold Sem.runT
    split
    · exact ih _ (h _) w es
    · exact ih _ (h _) { w with drawn := w.drawn + 1 } es
  | sys _ _ _ => exact h.elim
  | program k ih => exact fun w es => ih P h w es
  | mark m k ih =>
    intro w es
    obtain ⟨h1, h2⟩ := ih h.2 w (es.push ⟨.mark m, false, true⟩)
    exact ⟨h1, fun e he => (h2 e he).elim (fun q => push q (.inl (by rw [h.1]))) .inr⟩
end Go.Fi

/-
  The pieces of which operations are made are fine.
-/
namespace Go.Fi
variable {P : Program} {α β : Type}

class Fi (P : Program) (m : Sem α) : Prop where
  out : Fine P m

theorem fine_load (a : Addr) (m : Mode) : Fine P (load a m) := fun _ => trivial
instance (a : Addr) (m : Mode) : Fi P (load a m) := ⟨fine_load a m⟩

theorem fine_shape (r : Nat) : Fine P (shape r) := fun _ => trivial
instance (r : Nat) : Fi P (shape r) := ⟨fine_shape r⟩

theorem fine_frozen (a : Addr) : Fine P (frozen a) := fun _ => trivial
instance (a : Addr) : Fi P (frozen a) := ⟨fine_frozen a⟩

theorem fine_getObj (r : Nat) : Fine P (getObj r) := fun _ => trivial
instance (r : Nat) : Fi P (getObj r) := ⟨fine_getObj r⟩

theorem fine_choose (q : Question) : Fine P (choose q) := fun _ => trivial
instance (q : Question) : Fi P (choose q) := ⟨fine_choose q⟩

theorem fine_newObj (o : Obj) : Fine P (newObj o) := fun _ => trivial
instance (o : Obj) : Fi P (newObj o) := ⟨fine_newObj o⟩

theorem fine_store (a : Addr) (v : Value) (m : Mode) : Fine P (store a v m) := trivial
instance (a : Addr) (v : Value) (m : Mode) : Fi P (store a v m) := ⟨fine_store a v m⟩

theorem fine_freeze (a : Addr) (n : Nat) : Fine P (freeze a n) := trivial
instance (a : Addr) (n : Nat) : Fi P (freeze a n) := ⟨fine_freeze a n⟩

theorem fine_setObj (r : Nat) (o : Obj) : Fine P (setObj r o) := trivial
instance (r : Nat) (o : Obj) : Fi P (setObj r o) := ⟨fine_setObj r o⟩

theorem fine_program  : Fine P (program) := trivial
instance  : Fi P (program) := ⟨fine_program ⟩

theorem fine_stuck (s : String) : Fine P (stuck s : Sem α) := trivial
instance (s : String) : Fi P (stuck s : Sem α) := ⟨fine_stuck s⟩

theorem fine_unsupported (u : Unsupported) : Fine P (unsupported u : Sem α) := trivial
instance (u : Unsupported) : Fi P (unsupported u : Sem α) := ⟨fine_unsupported u⟩

theorem fine_goPanic (v : Value) : Fine P (goPanic v : Sem α) := trivial
instance (v : Value) : Fi P (goPanic v : Sem α) := ⟨fine_goPanic v⟩

theorem fine_noRoom : Fine P (mark .noRoom) := ⟨rfl, trivial⟩
instance : Fi P (mark .noRoom) := ⟨fine_noRoom⟩

theorem fine_ite {c : Prop} [Decidable c] {a b : Sem α} (h : Fine P a) (k : Fine P b) : Fine P (if c then a else b) := by
  split <;> assumption
theorem fine_forIn_list {γ : Type} (l : List γ) (b : β) (f : γ → β → Sem (ForInStep β)) (h : ∀ a b, Fine P (f a b)) : Fine P (forIn l b f) := by
  induction l generalizing b with
  | nil => exact Fine.pure _
  | cons a l ih =>
    rw [List.forIn_cons]
    refine Fine.bind (h a b) fun r => ?_
    cases r with
    | done b => exact Fine.pure _
    | yield b => exact ih b
theorem fine_forIn_array {γ : Type} (l : Array γ) (b : β) (f : γ → β → Sem (ForInStep β)) (h : ∀ a b, Fine P (f a b)) : Fine P (forIn l b f) := by
  rw [← Array.forIn_toList]
  exact fine_forIn_list _ _ _ h
theorem fine_forIn_range (r : Std.Legacy.Range) (b : β) (f : Nat → β → Sem (ForInStep β)) (h : ∀ a b, Fine P (f a b)) : Fine P (forIn r b f) := by
  rw [Std.Legacy.Range.forIn_eq_forIn_range']
  exact fine_forIn_list _ _ _ h
theorem fine_mapM_list {γ : Type} (f : γ → Sem β) (h : ∀ a, Fine P (f a)) : ∀ l : List γ, Fine P (l.mapM f)
  | [] => Fine.pure _
  | a :: l => by
    rw [List.mapM_cons]
    exact Fine.bind (h a) fun _ => Fine.bind (fine_mapM_list f h l) fun _ => Fine.pure _
theorem fine_mapM_array {γ : Type} (f : γ → Sem β) (h : ∀ a, Fine P (f a)) (l : Array γ) : Fine P (l.mapM f) := by
  rw [Array.mapM_eq_mapM_toList]
  exact Fine.map (fine_mapM_list f h _)

theorem fine_askRoom (n : Nat) : Fine P (askRoom n) := by
  unfold askRoom
  repeat' first
    | with_reducible exact Fine.pure _
    | exact Fi.out
    | with_reducible refine fine_forIn_array _ _ _ fun _ _ => ?_
    | with_reducible refine fine_forIn_range _ _ _ fun _ _ => ?_
    | with_reducible refine fine_mapM_array _ (fun _ => ?_) _
    | with_reducible refine Fine.bind ?_ fun _ => ?_
    | with_reducible refine Fine.map ?_
    | with_reducible refine fine_ite ?_ ?_
    | split
    | dsimp only
instance (n : Nat) : Fi P (askRoom n) := ⟨fine_askRoom n⟩

theorem fine_viewAt (r : Nat) : Fine P (viewAt r) := by
  unfold viewAt
  repeat' first
    | with_reducible exact Fine.pure _
    | exact Fi.out
    | with_reducible refine fine_forIn_array _ _ _ fun _ _ => ?_
    | with_reducible refine fine_forIn_range _ _ _ fun _ _ => ?_
    | with_reducible refine fine_mapM_array _ (fun _ => ?_) _
    | with_reducible refine Fine.bind ?_ fun _ => ?_
    | with_reducible refine Fine.map ?_
    | with_reducible refine fine_ite ?_ ?_
    | split
    | dsimp only
instance (r : Nat) : Fi P (viewAt r) := ⟨fine_viewAt r⟩

theorem fine_numberAt (r : Nat) : Fine P (numberAt r) := by
  unfold numberAt
  repeat' first
    | with_reducible exact Fine.pure _
    | exact Fi.out
    | with_reducible refine fine_forIn_array _ _ _ fun _ _ => ?_
    | with_reducible refine fine_forIn_range _ _ _ fun _ _ => ?_
    | with_reducible refine fine_mapM_array _ (fun _ => ?_) _
    | with_reducible refine Fine.bind ?_ fun _ => ?_
    | with_reducible refine Fine.map ?_
    | with_reducible refine fine_ite ?_ ?_
    | split
    | dsimp only
instance (r : Nat) : Fi P (numberAt r) := ⟨fine_numberAt r⟩

theorem fine_cellsIn (r : Nat) : Fine P (cellsIn r) := by
  unfold cellsIn
  repeat' first
    | with_reducible exact Fine.pure _
    | exact Fi.out
    | with_reducible refine fine_forIn_array _ _ _ fun _ _ => ?_
    | with_reducible refine fine_forIn_range _ _ _ fun _ _ => ?_
    | with_reducible refine fine_mapM_array _ (fun _ => ?_) _
    | with_reducible refine Fine.bind ?_ fun _ => ?_
    | with_reducible refine Fine.map ?_
    | with_reducible refine fine_ite ?_ ?_
    | split
    | dsimp only
instance (r : Nat) : Fi P (cellsIn r) := ⟨fine_cellsIn r⟩

theorem fine_asNumber (a : Addr) (l : Bool) : Fine P (asNumber a l) := by
  unfold asNumber
  repeat' first
    | with_reducible exact Fine.pure _
    | exact Fi.out
    | with_reducible refine fine_forIn_array _ _ _ fun _ _ => ?_
    | with_reducible refine fine_forIn_range _ _ _ fun _ _ => ?_
    | with_reducible refine fine_mapM_array _ (fun _ => ?_) _
    | with_reducible refine Fine.bind ?_ fun _ => ?_
    | with_reducible refine Fine.map ?_
    | with_reducible refine fine_ite ?_ ?_
    | split
    | dsimp only
instance (a : Addr) (l : Bool) : Fi P (asNumber a l) := ⟨fine_asNumber a l⟩

theorem fine_behindNumber (a : Addr) : Fine P (behindNumber a) := by
  unfold behindNumber
  repeat' first
    | with_reducible exact Fine.pure _
    | exact Fi.out
    | with_reducible refine fine_forIn_array _ _ _ fun _ _ => ?_
    | with_reducible refine fine_forIn_range _ _ _ fun _ _ => ?_
    | with_reducible refine fine_mapM_array _ (fun _ => ?_) _
    | with_reducible refine Fine.bind ?_ fun _ => ?_
    | with_reducible refine Fine.map ?_
    | with_reducible refine fine_ite ?_ ?_
    | split
    | dsimp only
instance (a : Addr) : Fi P (behindNumber a) := ⟨fine_behindNumber a⟩

theorem fine_noView (a : Addr) : Fine P (noView a) := by
  unfold noView
  repeat' first
    | with_reducible exact Fine.pure _
    | exact Fi.out
    | with_reducible refine fine_forIn_array _ _ _ fun _ _ => ?_
    | with_reducible refine fine_forIn_range _ _ _ fun _ _ => ?_
    | with_reducible refine fine_mapM_array _ (fun _ => ?_) _
    | with_reducible refine Fine.bind ?_ fun _ => ?_
    | with_reducible refine Fine.map ?_
    | with_reducible refine fine_ite ?_ ?_
    | split
    | dsimp only
instance (a : Addr) : Fi P (noView a) := ⟨fine_noView a⟩

theorem fine_markStringish (a : Addr) : Fine P (markStringish a) := by
  unfold markStringish
  repeat' first
    | with_reducible exact Fine.pure _
    | exact Fi.out
    | with_reducible refine fine_forIn_array _ _ _ fun _ _ => ?_
    | with_reducible refine fine_forIn_range _ _ _ fun _ _ => ?_
    | with_reducible refine fine_mapM_array _ (fun _ => ?_) _
    | with_reducible refine Fine.bind ?_ fun _ => ?_
    | with_reducible refine Fine.map ?_
    | with_reducible refine fine_ite ?_ ?_
    | split
    | dsimp only
instance (a : Addr) : Fi P (markStringish a) := ⟨fine_markStringish a⟩

theorem fine_stringish (a : Addr) : Fine P (stringish a) := by
  unfold stringish
  repeat' first
    | with_reducible exact Fine.pure _
    | exact Fi.out
    | with_reducible refine fine_forIn_array _ _ _ fun _ _ => ?_
    | with_reducible refine fine_forIn_range _ _ _ fun _ _ => ?_
    | with_reducible refine fine_mapM_array _ (fun _ => ?_) _
    | with_reducible refine Fine.bind ?_ fun _ => ?_
    | with_reducible refine Fine.map ?_
    | with_reducible refine fine_ite ?_ ?_
    | split
    | dsimp only
instance (a : Addr) : Fi P (stringish a) := ⟨fine_stringish a⟩

theorem fine_mayBeOne (a b : Addr) : Fine P (mayBeOne a b) := by
  unfold mayBeOne
  repeat' first
    | with_reducible exact Fine.pure _
    | exact Fi.out
    | with_reducible refine fine_forIn_array _ _ _ fun _ _ => ?_
    | with_reducible refine fine_forIn_range _ _ _ fun _ _ => ?_
    | with_reducible refine fine_mapM_array _ (fun _ => ?_) _
    | with_reducible refine Fine.bind ?_ fun _ => ?_
    | with_reducible refine Fine.map ?_
    | with_reducible refine fine_ite ?_ ?_
    | split
    | dsimp only
instance (a b : Addr) : Fi P (mayBeOne a b) := ⟨fine_mayBeOne a b⟩

theorem fine_sameAddr (a b : Addr) : Fine P (sameAddr a b) := by
  unfold sameAddr
  repeat' first
    | with_reducible exact Fine.pure _
    | exact Fi.out
    | with_reducible refine fine_forIn_array _ _ _ fun _ _ => ?_
    | with_reducible refine fine_forIn_range _ _ _ fun _ _ => ?_
    | with_reducible refine fine_mapM_array _ (fun _ => ?_) _
    | with_reducible refine Fine.bind ?_ fun _ => ?_
    | with_reducible refine Fine.map ?_
    | with_reducible refine fine_ite ?_ ?_
    | split
    | dsimp only
instance (a b : Addr) : Fi P (sameAddr a b) := ⟨fine_sameAddr a b⟩

theorem fine_samePointer (a b : Option Addr) : Fine P (samePointer a b) := by
  unfold samePointer
  repeat' first
    | with_reducible exact Fine.pure _
    | exact Fi.out
    | with_reducible refine fine_forIn_array _ _ _ fun _ _ => ?_
    | with_reducible refine fine_forIn_range _ _ _ fun _ _ => ?_
    | with_reducible refine fine_mapM_array _ (fun _ => ?_) _
    | with_reducible refine Fine.bind ?_ fun _ => ?_
    | with_reducible refine Fine.map ?_
    | with_reducible refine fine_ite ?_ ?_
    | split
    | dsimp only
instance (a b : Option Addr) : Fi P (samePointer a b) := ⟨fine_samePointer a b⟩

theorem fine_typeInfo (t : TypeId) : Fine P (typeInfo t) := by
  unfold typeInfo
  repeat' first
    | with_reducible exact Fine.pure _
    | exact Fi.out
    | with_reducible refine fine_forIn_array _ _ _ fun _ _ => ?_
    | with_reducible refine fine_forIn_range _ _ _ fun _ _ => ?_
    | with_reducible refine fine_mapM_array _ (fun _ => ?_) _
    | with_reducible refine Fine.bind ?_ fun _ => ?_
    | with_reducible refine Fine.map ?_
    | with_reducible refine fine_ite ?_ ?_
    | split
    | dsimp only
instance (t : TypeId) : Fi P (typeInfo t) := ⟨fine_typeInfo t⟩

theorem fine_underlying (t : TypeId) : Fine P (underlying t) := by
  unfold underlying
  repeat' first
    | with_reducible exact Fine.pure _
    | exact Fi.out
    | with_reducible refine fine_forIn_array _ _ _ fun _ _ => ?_
    | with_reducible refine fine_forIn_range _ _ _ fun _ _ => ?_
    | with_reducible refine fine_mapM_array _ (fun _ => ?_) _
    | with_reducible refine Fine.bind ?_ fun _ => ?_
    | with_reducible refine Fine.map ?_
    | with_reducible refine fine_ite ?_ ?_
    | split
    | dsimp only
instance (t : TypeId) : Fi P (underlying t) := ⟨fine_underlying t⟩

theorem fine_typeStr (t : TypeId) : Fine P (typeStr t) := by
  unfold typeStr
  repeat' first
    | with_reducible exact Fine.pure _
    | exact Fi.out
    | with_reducible refine fine_forIn_array _ _ _ fun _ _ => ?_
    | with_reducible refine fine_forIn_range _ _ _ fun _ _ => ?_
    | with_reducible refine fine_mapM_array _ (fun _ => ?_) _
    | with_reducible refine Fine.bind ?_ fun _ => ?_
    | with_reducible refine Fine.map ?_
    | with_reducible refine fine_ite ?_ ?_
    | split
    | dsimp only
instance (t : TypeId) : Fi P (typeStr t) := ⟨fine_typeStr t⟩

theorem fine_zeroValue (t : TypeId) : Fine P (zeroValue t) := by
  unfold zeroValue
  repeat' first
    | with_reducible exact Fine.pure _
    | exact Fi.out
    | with_reducible refine fine_forIn_array _ _ _ fun _ _ => ?_
    | with_reducible refine fine_forIn_range _ _ _ fun _ _ => ?_
    | with_reducible refine fine_mapM_array _ (fun _ => ?_) _
    | with_reducible refine Fine.bind ?_ fun _ => ?_
    | with_reducible refine Fine.map ?_
    | with_reducible refine fine_ite ?_ ?_
    | split
    | dsimp only
instance (t : TypeId) : Fi P (zeroValue t) := ⟨fine_zeroValue t⟩

theorem fine_sizeOf (t : TypeId) : Fine P (sizeOf t) := by
  unfold sizeOf
  repeat' first
    | with_reducible exact Fine.pure _
    | exact Fi.out
    | with_reducible refine fine_forIn_array _ _ _ fun _ _ => ?_
    | with_reducible refine fine_forIn_range _ _ _ fun _ _ => ?_
    | with_reducible refine fine_mapM_array _ (fun _ => ?_) _
    | with_reducible refine Fine.bind ?_ fun _ => ?_
    | with_reducible refine Fine.map ?_
    | with_reducible refine fine_ite ?_ ?_
    | split
    | dsimp only
instance (t : TypeId) : Fi P (sizeOf t) := ⟨fine_sizeOf t⟩

theorem fine_isAgg (t : TypeId) : Fine P (isAgg t) := by
  unfold isAgg
  repeat' first
    | with_reducible exact Fine.pure _
    | exact Fi.out
    | with_reducible refine fine_forIn_array _ _ _ fun _ _ => ?_
    | with_reducible refine fine_forIn_range _ _ _ fun _ _ => ?_
    | with_reducible refine fine_mapM_array _ (fun _ => ?_) _
    | with_reducible refine Fine.bind ?_ fun _ => ?_
    | with_reducible refine Fine.map ?_
    | with_reducible refine fine_ite ?_ ?_
    | split
    | dsimp only
instance (t : TypeId) : Fi P (isAgg t) := ⟨fine_isAgg t⟩

theorem fine_loadCellsFrom (a : Addr) : ∀ (n i : Nat) (acc : Array Value), Fine P (loadCellsFrom a i n acc)
  | 0, _, _ => Fine.pure _
  | n + 1, _, _ => Fine.bind (fine_load _ _) fun _ => fine_loadCellsFrom a n _ _
theorem fine_storeCells (a : Addr) : ∀ (vs : List Value) (i : Nat), Fine P (storeCells a vs i)
  | [], _ => Fine.pure _
  | _ :: vs, _ => Fine.bind (fine_store _ _ _) fun _ => fine_storeCells a vs _

instance (a : Addr) (n i : Nat) (acc : Array Value) : Fi P (loadCellsFrom a i n acc) := ⟨fine_loadCellsFrom a n i acc⟩
instance (a : Addr) (vs : List Value) (i : Nat) : Fi P (storeCells a vs i) := ⟨fine_storeCells a vs i⟩

theorem fine_loadCells (a : Addr) (n : Nat) : Fine P (loadCells a n) := by
  unfold loadCells
  repeat' first
    | with_reducible exact Fine.pure _
    | exact Fi.out
    | with_reducible refine fine_forIn_array _ _ _ fun _ _ => ?_
    | with_reducible refine fine_forIn_range _ _ _ fun _ _ => ?_
    | with_reducible refine fine_mapM_array _ (fun _ => ?_) _
    | with_reducible refine Fine.bind ?_ fun _ => ?_
    | with_reducible refine Fine.map ?_
    | with_reducible refine fine_ite ?_ ?_
    | split
    | dsimp only
instance (a : Addr) (n : Nat) : Fi P (loadCells a n) := ⟨fine_loadCells a n⟩

theorem fine_loadVar (t : TypeId) (a : Addr) : Fine P (loadVar t a) := by
  unfold loadVar
  repeat' first
    | with_reducible exact Fine.pure _
    | exact Fi.out
    | with_reducible refine fine_forIn_array _ _ _ fun _ _ => ?_
    | with_reducible refine fine_forIn_range _ _ _ fun _ _ => ?_
    | with_reducible refine fine_mapM_array _ (fun _ => ?_) _
    | with_reducible refine Fine.bind ?_ fun _ => ?_
    | with_reducible refine Fine.map ?_
    | with_reducible refine fine_ite ?_ ?_
    | split
    | dsimp only
instance (t : TypeId) (a : Addr) : Fi P (loadVar t a) := ⟨fine_loadVar t a⟩

theorem fine_storeVar (t : TypeId) (a : Addr) (v : Value) : Fine P (storeVar t a v) := by
  unfold storeVar
  repeat' first
    | with_reducible exact Fine.pure _
    | exact Fi.out
    | with_reducible refine fine_forIn_array _ _ _ fun _ _ => ?_
    | with_reducible refine fine_forIn_range _ _ _ fun _ _ => ?_
    | with_reducible refine fine_mapM_array _ (fun _ => ?_) _
    | with_reducible refine Fine.bind ?_ fun _ => ?_
    | with_reducible refine Fine.map ?_
    | with_reducible refine fine_ite ?_ ?_
    | split
    | dsimp only
instance (t : TypeId) (a : Addr) (v : Value) : Fi P (storeVar t a v) := ⟨fine_storeVar t a v⟩

theorem fine_newRow (t : TypeId) (c : Array Value) : Fine P (newRow t c) := by
  unfold newRow
  repeat' first
    | with_reducible exact Fine.pure _
    | exact Fi.out
    | with_reducible refine fine_forIn_array _ _ _ fun _ _ => ?_
    | with_reducible refine fine_forIn_range _ _ _ fun _ _ => ?_
    | with_reducible refine fine_mapM_array _ (fun _ => ?_) _
    | with_reducible refine Fine.bind ?_ fun _ => ?_
    | with_reducible refine Fine.map ?_
    | with_reducible refine fine_ite ?_ ?_
    | split
    | dsimp only
instance (t : TypeId) (c : Array Value) : Fi P (newRow t c) := ⟨fine_newRow t c⟩

theorem fine_newVar (t : TypeId) (v : Value) : Fine P (newVar t v) := by
  unfold newVar
  repeat' first
    | with_reducible exact Fine.pure _
    | exact Fi.out
    | with_reducible refine fine_forIn_array _ _ _ fun _ _ => ?_
    | with_reducible refine fine_forIn_range _ _ _ fun _ _ => ?_
    | with_reducible refine fine_mapM_array _ (fun _ => ?_) _
    | with_reducible refine Fine.bind ?_ fun _ => ?_
    | with_reducible refine Fine.map ?_
    | with_reducible refine fine_ite ?_ ?_
    | split
    | dsimp only
instance (t : TypeId) (v : Value) : Fi P (newVar t v) := ⟨fine_newVar t v⟩

theorem fine_elemOf (t : TypeId) : Fine P (elemOf t) := by
  unfold elemOf
  repeat' first
    | with_reducible exact Fine.pure _
    | exact Fi.out
    | with_reducible refine fine_forIn_array _ _ _ fun _ _ => ?_
    | with_reducible refine fine_forIn_range _ _ _ fun _ _ => ?_
    | with_reducible refine fine_mapM_array _ (fun _ => ?_) _
    | with_reducible refine Fine.bind ?_ fun _ => ?_
    | with_reducible refine Fine.map ?_
    | with_reducible refine fine_ite ?_ ?_
    | split
    | dsimp only
instance (t : TypeId) : Fi P (elemOf t) := ⟨fine_elemOf t⟩

theorem fine_part (t : TypeId) (c : Array Value) (o : Nat) : Fine P (part t c o) := by
  unfold part
  repeat' first
    | with_reducible exact Fine.pure _
    | exact Fi.out
    | with_reducible refine fine_forIn_array _ _ _ fun _ _ => ?_
    | with_reducible refine fine_forIn_range _ _ _ fun _ _ => ?_
    | with_reducible refine fine_mapM_array _ (fun _ => ?_) _
    | with_reducible refine Fine.bind ?_ fun _ => ?_
    | with_reducible refine Fine.map ?_
    | with_reducible refine fine_ite ?_ ?_
    | split
    | dsimp only
instance (t : TypeId) (c : Array Value) (o : Nat) : Fi P (part t c o) := ⟨fine_part t c o⟩

theorem fine_runtimePanic (e : RuntimeError) : Fine P (runtimePanic e : Sem α) := by
  unfold runtimePanic
  repeat' first
    | with_reducible exact Fine.pure _
    | exact Fi.out
    | with_reducible refine fine_forIn_array _ _ _ fun _ _ => ?_
    | with_reducible refine fine_forIn_range _ _ _ fun _ _ => ?_
    | with_reducible refine fine_mapM_array _ (fun _ => ?_) _
    | with_reducible refine Fine.bind ?_ fun _ => ?_
    | with_reducible refine Fine.map ?_
    | with_reducible refine fine_ite ?_ ?_
    | split
    | dsimp only
instance (e : RuntimeError) : Fi P (runtimePanic e : Sem α) := ⟨fine_runtimePanic e⟩

theorem fine_boundsPanic (k : IntKind) (x y : Int) (c : BoundsCode) : Fine P (boundsPanic k x y c : Sem α) := by
  unfold boundsPanic
  repeat' first
    | with_reducible exact Fine.pure _
    | exact Fi.out
    | with_reducible refine fine_forIn_array _ _ _ fun _ _ => ?_
    | with_reducible refine fine_forIn_range _ _ _ fun _ _ => ?_
    | with_reducible refine fine_mapM_array _ (fun _ => ?_) _
    | with_reducible refine Fine.bind ?_ fun _ => ?_
    | with_reducible refine Fine.map ?_
    | with_reducible refine fine_ite ?_ ?_
    | split
    | dsimp only
instance (k : IntKind) (x y : Int) (c : BoundsCode) : Fi P (boundsPanic k x y c : Sem α) := ⟨fine_boundsPanic k x y c⟩

theorem fine_asIntOf (v : Value) : Fine P (asIntOf v) := by
  unfold asIntOf
  repeat' first
    | with_reducible exact Fine.pure _
    | exact Fi.out
    | with_reducible refine fine_forIn_array _ _ _ fun _ _ => ?_
    | with_reducible refine fine_forIn_range _ _ _ fun _ _ => ?_
    | with_reducible refine fine_mapM_array _ (fun _ => ?_) _
    | with_reducible refine Fine.bind ?_ fun _ => ?_
    | with_reducible refine Fine.map ?_
    | with_reducible refine fine_ite ?_ ?_
    | split
    | dsimp only
instance (v : Value) : Fi P (asIntOf v) := ⟨fine_asIntOf v⟩

theorem fine_asInt (v : Value) : Fine P (asInt v) := by
  unfold asInt
  repeat' first
    | with_reducible exact Fine.pure _
    | exact Fi.out
    | with_reducible refine fine_forIn_array _ _ _ fun _ _ => ?_
    | with_reducible refine fine_forIn_range _ _ _ fun _ _ => ?_
    | with_reducible refine fine_mapM_array _ (fun _ => ?_) _
    | with_reducible refine Fine.bind ?_ fun _ => ?_
    | with_reducible refine Fine.map ?_
    | with_reducible refine fine_ite ?_ ?_
    | split
    | dsimp only
instance (v : Value) : Fi P (asInt v) := ⟨fine_asInt v⟩

theorem fine_asBool (v : Value) : Fine P (asBool v) := by
  unfold asBool
  repeat' first
    | with_reducible exact Fine.pure _
    | exact Fi.out
    | with_reducible refine fine_forIn_array _ _ _ fun _ _ => ?_
    | with_reducible refine fine_forIn_range _ _ _ fun _ _ => ?_
    | with_reducible refine fine_mapM_array _ (fun _ => ?_) _
    | with_reducible refine Fine.bind ?_ fun _ => ?_
    | with_reducible refine Fine.map ?_
    | with_reducible refine fine_ite ?_ ?_
    | split
    | dsimp only
instance (v : Value) : Fi P (asBool v) := ⟨fine_asBool v⟩

theorem fine_asString (v : Value) : Fine P (asString v) := by
  unfold asString
  repeat' first
    | with_reducible exact Fine.pure _
    | exact Fi.out
    | with_reducible refine fine_forIn_array _ _ _ fun _ _ => ?_
    | with_reducible refine fine_forIn_range _ _ _ fun _ _ => ?_
    | with_reducible refine fine_mapM_array _ (fun _ => ?_) _
    | with_reducible refine Fine.bind ?_ fun _ => ?_
    | with_reducible refine Fine.map ?_
    | with_reducible refine fine_ite ?_ ?_
    | split
    | dsimp only
instance (v : Value) : Fi P (asString v) := ⟨fine_asString v⟩

theorem fine_asAgg (v : Value) : Fine P (asAgg v) := by
  unfold asAgg
  repeat' first
    | with_reducible exact Fine.pure _
    | exact Fi.out
    | with_reducible refine fine_forIn_array _ _ _ fun _ _ => ?_
    | with_reducible refine fine_forIn_range _ _ _ fun _ _ => ?_
    | with_reducible refine fine_mapM_array _ (fun _ => ?_) _
    | with_reducible refine Fine.bind ?_ fun _ => ?_
    | with_reducible refine Fine.map ?_
    | with_reducible refine fine_ite ?_ ?_
    | split
    | dsimp only
instance (v : Value) : Fi P (asAgg v) := ⟨fine_asAgg v⟩

theorem fine_asAddr (v : Value) : Fine P (asAddr v) := by
  unfold asAddr
  repeat' first
    | with_reducible exact Fine.pure _
    | exact Fi.out
    | with_reducible refine fine_forIn_array _ _ _ fun _ _ => ?_
    | with_reducible refine fine_forIn_range _ _ _ fun _ _ => ?_
    | with_reducible refine fine_mapM_array _ (fun _ => ?_) _
    | with_reducible refine Fine.bind ?_ fun _ => ?_
    | with_reducible refine Fine.map ?_
    | with_reducible refine fine_ite ?_ ?_
    | split
    | dsimp only
instance (v : Value) : Fi P (asAddr v) := ⟨fine_asAddr v⟩

theorem fine_byteOf (a : Addr) : Fine P (byteOf a) := by
  unfold byteOf
  repeat' first
    | with_reducible exact Fine.pure _
    | exact Fi.out
    | with_reducible refine fine_forIn_array _ _ _ fun _ _ => ?_
    | with_reducible refine fine_forIn_range _ _ _ fun _ _ => ?_
    | with_reducible refine fine_mapM_array _ (fun _ => ?_) _
    | with_reducible refine Fine.bind ?_ fun _ => ?_
    | with_reducible refine Fine.map ?_
    | with_reducible refine fine_ite ?_ ?_
    | split
    | dsimp only
instance (a : Addr) : Fi P (byteOf a) := ⟨fine_byteOf a⟩

theorem fine_partAt (a : Addr) (c b : Nat) : Fine P (partAt a c b) := by
  unfold partAt
  repeat' first
    | with_reducible exact Fine.pure _
    | exact Fi.out
    | with_reducible refine fine_forIn_array _ _ _ fun _ _ => ?_
    | with_reducible refine fine_forIn_range _ _ _ fun _ _ => ?_
    | with_reducible refine fine_mapM_array _ (fun _ => ?_) _
    | with_reducible refine Fine.bind ?_ fun _ => ?_
    | with_reducible refine Fine.map ?_
    | with_reducible refine fine_ite ?_ ?_
    | split
    | dsimp only
instance (a : Addr) (c b : Nat) : Fi P (partAt a c b) := ⟨fine_partAt a c b⟩

theorem fine_fieldPlace (a : Addr) (f : Field) : Fine P (fieldPlace a f) := by
  unfold fieldPlace
  repeat' first
    | with_reducible exact Fine.pure _
    | exact Fi.out
    | with_reducible refine fine_forIn_array _ _ _ fun _ _ => ?_
    | with_reducible refine fine_forIn_range _ _ _ fun _ _ => ?_
    | with_reducible refine fine_mapM_array _ (fun _ => ?_) _
    | with_reducible refine Fine.bind ?_ fun _ => ?_
    | with_reducible refine Fine.map ?_
    | with_reducible refine fine_ite ?_ ?_
    | split
    | dsimp only
instance (a : Addr) (f : Field) : Fi P (fieldPlace a f) := ⟨fine_fieldPlace a f⟩

theorem fine_variablesAt (a : Addr) (u : TypeId) (n : Nat) : Fine P (variablesAt a u n) := by
  unfold variablesAt
  repeat' first
    | with_reducible exact Fine.pure _
    | exact Fi.out
    | with_reducible refine fine_forIn_array _ _ _ fun _ _ => ?_
    | with_reducible refine fine_forIn_range _ _ _ fun _ _ => ?_
    | with_reducible refine fine_mapM_array _ (fun _ => ?_) _
    | with_reducible refine Fine.bind ?_ fun _ => ?_
    | with_reducible refine Fine.map ?_
    | with_reducible refine fine_ite ?_ ?_
    | split
    | dsimp only
instance (a : Addr) (u : TypeId) (n : Nat) : Fi P (variablesAt a u n) := ⟨fine_variablesAt a u n⟩

theorem fine_loadBytes (a : Addr) (acc : ByteArray) : ∀ n, Fine P (loadBytes a acc n)
  | 0 => Fine.pure _
  | n + 1 => Fine.bind (fine_load _ _) fun v => by
    split
    · exact fine_loadBytes _ _ n
    · exact trivial

instance (a : Addr) (acc : ByteArray) (n : Nat) : Fi P (loadBytes a acc n) := ⟨fine_loadBytes a acc n⟩

theorem fine_twoPlaces (a b : Addr) : Fine P (Op.twoPlaces a b) := by
  unfold Op.twoPlaces
  repeat' first
    | with_reducible exact Fine.pure _
    | exact Fi.out
    | with_reducible refine fine_forIn_array _ _ _ fun _ _ => ?_
    | with_reducible refine fine_forIn_range _ _ _ fun _ _ => ?_
    | with_reducible refine fine_mapM_array _ (fun _ => ?_) _
    | with_reducible refine Fine.bind ?_ fun _ => ?_
    | with_reducible refine Fine.map ?_
    | with_reducible refine fine_ite ?_ ?_
    | split
    | dsimp only
instance (a b : Addr) : Fi P (Op.twoPlaces a b) := ⟨fine_twoPlaces a b⟩

theorem fine_addrSub (k : IntKind) (a b : Addr) : Fine P (Op.addrSub k a b) := by
  unfold Op.addrSub
  repeat' first
    | with_reducible exact Fine.pure _
    | exact Fi.out
    | with_reducible refine fine_forIn_array _ _ _ fun _ _ => ?_
    | with_reducible refine fine_forIn_range _ _ _ fun _ _ => ?_
    | with_reducible refine fine_mapM_array _ (fun _ => ?_) _
    | with_reducible refine Fine.bind ?_ fun _ => ?_
    | with_reducible refine Fine.map ?_
    | with_reducible refine fine_ite ?_ ?_
    | split
    | dsimp only
instance (k : IntKind) (a b : Addr) : Fi P (Op.addrSub k a b) := ⟨fine_addrSub k a b⟩

theorem fine_addrCmp (op : BinOp) (a b : Addr) : Fine P (Op.addrCmp op a b) := by
  unfold Op.addrCmp
  repeat' first
    | with_reducible exact Fine.pure _
    | exact Fi.out
    | with_reducible refine fine_forIn_array _ _ _ fun _ _ => ?_
    | with_reducible refine fine_forIn_range _ _ _ fun _ _ => ?_
    | with_reducible refine fine_mapM_array _ (fun _ => ?_) _
    | with_reducible refine Fine.bind ?_ fun _ => ?_
    | with_reducible refine Fine.map ?_
    | with_reducible refine fine_ite ?_ ?_
    | split
    | dsimp only
instance (op : BinOp) (a b : Addr) : Fi P (Op.addrCmp op a b) := ⟨fine_addrCmp op a b⟩

theorem fine_addrMod (k : IntKind) (a : Addr) (n : Int) : Fine P (Op.addrMod k a n) := by
  unfold Op.addrMod
  repeat' first
    | with_reducible exact Fine.pure _
    | exact Fi.out
    | with_reducible refine fine_forIn_array _ _ _ fun _ _ => ?_
    | with_reducible refine fine_forIn_range _ _ _ fun _ _ => ?_
    | with_reducible refine fine_mapM_array _ (fun _ => ?_) _
    | with_reducible refine Fine.bind ?_ fun _ => ?_
    | with_reducible refine Fine.map ?_
    | with_reducible refine fine_ite ?_ ?_
    | split
    | dsimp only
instance (k : IntKind) (a : Addr) (n : Int) : Fi P (Op.addrMod k a n) := ⟨fine_addrMod k a n⟩

theorem fine_floatArith (op : BinOp) (k : FloatKind) (x y : Nat) : Fine P (Op.floatArith op k x y) := by
  unfold Op.floatArith
  repeat' first
    | with_reducible exact Fine.pure _
    | exact Fi.out
    | with_reducible refine fine_forIn_array _ _ _ fun _ _ => ?_
    | with_reducible refine fine_forIn_range _ _ _ fun _ _ => ?_
    | with_reducible refine fine_mapM_array _ (fun _ => ?_) _
    | with_reducible refine Fine.bind ?_ fun _ => ?_
    | with_reducible refine Fine.map ?_
    | with_reducible refine fine_ite ?_ ?_
    | split
    | dsimp only
instance (op : BinOp) (k : FloatKind) (x y : Nat) : Fi P (Op.floatArith op k x y) := ⟨fine_floatArith op k x y⟩

theorem fine_floatCmp (op : BinOp) (k : FloatKind) (x y : Nat) : Fine P (Op.floatCmp op k x y) := by
  unfold Op.floatCmp
  repeat' first
    | with_reducible exact Fine.pure _
    | exact Fi.out
    | with_reducible refine fine_forIn_array _ _ _ fun _ _ => ?_
    | with_reducible refine fine_forIn_range _ _ _ fun _ _ => ?_
    | with_reducible refine fine_mapM_array _ (fun _ => ?_) _
    | with_reducible refine Fine.bind ?_ fun _ => ?_
    | with_reducible refine Fine.map ?_
    | with_reducible refine fine_ite ?_ ?_
    | split
    | dsimp only
instance (op : BinOp) (k : FloatKind) (x y : Nat) : Fi P (Op.floatCmp op k x y) := ⟨fine_floatCmp op k x y⟩

theorem fine_floatToFloat (s : FloatKind) (x : Nat) (d : FloatKind) : Fine P (Conv.floatToFloat s x d) := by
  unfold Conv.floatToFloat
  repeat' first
    | with_reducible exact Fine.pure _
    | exact Fi.out
    | with_reducible refine fine_forIn_array _ _ _ fun _ _ => ?_
    | with_reducible refine fine_forIn_range _ _ _ fun _ _ => ?_
    | with_reducible refine fine_mapM_array _ (fun _ => ?_) _
    | with_reducible refine Fine.bind ?_ fun _ => ?_
    | with_reducible refine Fine.map ?_
    | with_reducible refine fine_ite ?_ ?_
    | split
    | dsimp only
instance (s : FloatKind) (x : Nat) (d : FloatKind) : Fi P (Conv.floatToFloat s x d) := ⟨fine_floatToFloat s x d⟩

theorem fine_arith (op : BinOp) (k : FloatKind) (x y : Nat) : Fine P (Op.Complex.arith op k x y) := by
  unfold Op.Complex.arith
  repeat' first
    | with_reducible exact Fine.pure _
    | exact Fi.out
    | with_reducible refine fine_forIn_array _ _ _ fun _ _ => ?_
    | with_reducible refine fine_forIn_range _ _ _ fun _ _ => ?_
    | with_reducible refine fine_mapM_array _ (fun _ => ?_) _
    | with_reducible refine Fine.bind ?_ fun _ => ?_
    | with_reducible refine Fine.map ?_
    | with_reducible refine fine_ite ?_ ?_
    | split
    | dsimp only
instance (op : BinOp) (k : FloatKind) (x y : Nat) : Fi P (Op.Complex.arith op k x y) := ⟨fine_arith op k x y⟩

theorem fine_cmp (op : BinOp) (k : FloatKind) (x y : Nat) : Fine P (Op.Complex.cmp op k x y) := by
  unfold Op.Complex.cmp
  repeat' first
    | with_reducible exact Fine.pure _
    | exact Fi.out
    | with_reducible refine fine_forIn_array _ _ _ fun _ _ => ?_
    | with_reducible refine fine_forIn_range _ _ _ fun _ _ => ?_
    | with_reducible refine fine_mapM_array _ (fun _ => ?_) _
    | with_reducible refine Fine.bind ?_ fun _ => ?_
    | with_reducible refine Fine.map ?_
    | with_reducible refine fine_ite ?_ ?_
    | split
    | dsimp only
instance (op : BinOp) (k : FloatKind) (x y : Nat) : Fi P (Op.Complex.cmp op k x y) := ⟨fine_cmp op k x y⟩

theorem fine_conv (s : FloatKind) (x : Nat) (d : FloatKind) : Fine P (Op.Complex.conv s x d) := by
  unfold Op.Complex.conv
  repeat' first
    | with_reducible exact Fine.pure _
    | exact Fi.out
    | with_reducible refine fine_forIn_array _ _ _ fun _ _ => ?_
    | with_reducible refine fine_forIn_range _ _ _ fun _ _ => ?_
    | with_reducible refine fine_mapM_array _ (fun _ => ?_) _
    | with_reducible refine Fine.bind ?_ fun _ => ?_
    | with_reducible refine Fine.map ?_
    | with_reducible refine fine_ite ?_ ?_
    | split
    | dsimp only
instance (s : FloatKind) (x : Nat) (d : FloatKind) : Fi P (Op.Complex.conv s x d) := ⟨fine_conv s x d⟩

theorem fine_cadd (x y : Nat) : Fine P (Op.Complex.add x y) := by
  unfold Op.Complex.add
  repeat' first
    | with_reducible exact Fine.pure _
    | exact Fi.out
    | with_reducible refine fine_forIn_array _ _ _ fun _ _ => ?_
    | with_reducible refine fine_forIn_range _ _ _ fun _ _ => ?_
    | with_reducible refine fine_mapM_array _ (fun _ => ?_) _
    | with_reducible refine Fine.bind ?_ fun _ => ?_
    | with_reducible refine Fine.map ?_
    | with_reducible refine fine_ite ?_ ?_
    | split
    | dsimp only
instance (x y : Nat) : Fi P (Op.Complex.add x y) := ⟨fine_cadd x y⟩

theorem fine_csub (x y : Nat) : Fine P (Op.Complex.sub x y) := by
  unfold Op.Complex.sub
  repeat' first
    | with_reducible exact Fine.pure _
    | exact Fi.out
    | with_reducible refine fine_forIn_array _ _ _ fun _ _ => ?_
    | with_reducible refine fine_forIn_range _ _ _ fun _ _ => ?_
    | with_reducible refine fine_mapM_array _ (fun _ => ?_) _
    | with_reducible refine Fine.bind ?_ fun _ => ?_
    | with_reducible refine Fine.map ?_
    | with_reducible refine fine_ite ?_ ?_
    | split
    | dsimp only
instance (x y : Nat) : Fi P (Op.Complex.sub x y) := ⟨fine_csub x y⟩

theorem fine_cmul (x y : Nat) : Fine P (Op.Complex.mul x y) := by
  unfold Op.Complex.mul
  repeat' first
    | with_reducible exact Fine.pure _
    | exact Fi.out
    | with_reducible refine fine_forIn_array _ _ _ fun _ _ => ?_
    | with_reducible refine fine_forIn_range _ _ _ fun _ _ => ?_
    | with_reducible refine fine_mapM_array _ (fun _ => ?_) _
    | with_reducible refine Fine.bind ?_ fun _ => ?_
    | with_reducible refine Fine.map ?_
    | with_reducible refine fine_ite ?_ ?_
    | split
    | dsimp only
instance (x y : Nat) : Fi P (Op.Complex.mul x y) := ⟨fine_cmul x y⟩

theorem fine_cquo (x y : Nat) : Fine P (Op.Complex.quo x y) := by
  unfold Op.Complex.quo
  repeat' first
    | with_reducible exact Fine.pure _
    | exact Fi.out
    | with_reducible refine fine_forIn_array _ _ _ fun _ _ => ?_
    | with_reducible refine fine_forIn_range _ _ _ fun _ _ => ?_
    | with_reducible refine fine_mapM_array _ (fun _ => ?_) _
    | with_reducible refine Fine.bind ?_ fun _ => ?_
    | with_reducible refine Fine.map ?_
    | with_reducible refine fine_ite ?_ ?_
    | split
    | dsimp only
instance (x y : Nat) : Fi P (Op.Complex.quo x y) := ⟨fine_cquo x y⟩

theorem fine_product (a b c d : Nat) : Fine P (Op.Complex.product a b c d) := by
  unfold Op.Complex.product
  repeat' first
    | with_reducible exact Fine.pure _
    | exact Fi.out
    | with_reducible refine fine_forIn_array _ _ _ fun _ _ => ?_
    | with_reducible refine fine_forIn_range _ _ _ fun _ _ => ?_
    | with_reducible refine fine_mapM_array _ (fun _ => ?_) _
    | with_reducible refine Fine.bind ?_ fun _ => ?_
    | with_reducible refine Fine.map ?_
    | with_reducible refine fine_ite ?_ ?_
    | split
    | dsimp only
instance (a b c d : Nat) : Fi P (Op.Complex.product a b c d) := ⟨fine_product a b c d⟩

theorem fine_corrected (s a b c d : Nat) : Fine P (Op.Complex.corrected s a b c d) := by
  unfold Op.Complex.corrected
  repeat' first
    | with_reducible exact Fine.pure _
    | exact Fi.out
    | with_reducible refine fine_forIn_array _ _ _ fun _ _ => ?_
    | with_reducible refine fine_forIn_range _ _ _ fun _ _ => ?_
    | with_reducible refine fine_mapM_array _ (fun _ => ?_) _
    | with_reducible refine Fine.bind ?_ fun _ => ?_
    | with_reducible refine Fine.map ?_
    | with_reducible refine fine_ite ?_ ?_
    | split
    | dsimp only
instance (s a b c d : Nat) : Fi P (Op.Complex.corrected s a b c d) := ⟨fine_corrected s a b c d⟩

theorem fine_quotient (a b c d : Nat) : Fine P (Op.Complex.quotient a b c d) := by
  unfold Op.Complex.quotient
  repeat' first
    | with_reducible exact Fine.pure _
    | exact Fi.out
    | with_reducible refine fine_forIn_array _ _ _ fun _ _ => ?_
    | with_reducible refine fine_forIn_range _ _ _ fun _ _ => ?_
    | with_reducible refine fine_mapM_array _ (fun _ => ?_) _
    | with_reducible refine Fine.bind ?_ fun _ => ?_
    | with_reducible refine Fine.map ?_
    | with_reducible refine fine_ite ?_ ?_
    | split
    | dsimp only
instance (a b c d : Nat) : Fi P (Op.Complex.quotient a b c d) := ⟨fine_quotient a b c d⟩

theorem fine_complexOp (op : BinOp) (k : FloatKind) (a b c d : Nat) : Fine P (Op.complexOp op k a b c d) := by
  unfold Op.complexOp
  repeat' first
    | with_reducible exact Fine.pure _
    | exact Fi.out
    | with_reducible refine fine_forIn_array _ _ _ fun _ _ => ?_
    | with_reducible refine fine_forIn_range _ _ _ fun _ _ => ?_
    | with_reducible refine fine_mapM_array _ (fun _ => ?_) _
    | with_reducible refine Fine.bind ?_ fun _ => ?_
    | with_reducible refine Fine.map ?_
    | with_reducible refine fine_ite ?_ ?_
    | split
    | dsimp only
instance (op : BinOp) (k : FloatKind) (a b c d : Nat) : Fi P (Op.complexOp op k a b c d) := ⟨fine_complexOp op k a b c d⟩

theorem fine_intArith (op : BinOp) (k : IntKind) (x y : Int) : Fine P (Op.intArith op k x y) := by
  unfold Op.intArith
  repeat' first
    | with_reducible exact Fine.pure _
    | exact Fi.out
    | with_reducible refine fine_forIn_array _ _ _ fun _ _ => ?_
    | with_reducible refine fine_forIn_range _ _ _ fun _ _ => ?_
    | with_reducible refine fine_mapM_array _ (fun _ => ?_) _
    | with_reducible refine Fine.bind ?_ fun _ => ?_
    | with_reducible refine Fine.map ?_
    | with_reducible refine fine_ite ?_ ?_
    | split
    | dsimp only
instance (op : BinOp) (k : IntKind) (x y : Int) : Fi P (Op.intArith op k x y) := ⟨fine_intArith op k x y⟩

theorem fine_intBits (op : BinOp) (k : IntKind) (x y : Int) : Fine P (Op.intBits op k x y) := by
  unfold Op.intBits
  repeat' first
    | with_reducible exact Fine.pure _
    | exact Fi.out
    | with_reducible refine fine_forIn_array _ _ _ fun _ _ => ?_
    | with_reducible refine fine_forIn_range _ _ _ fun _ _ => ?_
    | with_reducible refine fine_mapM_array _ (fun _ => ?_) _
    | with_reducible refine Fine.bind ?_ fun _ => ?_
    | with_reducible refine Fine.map ?_
    | with_reducible refine fine_ite ?_ ?_
    | split
    | dsimp only
instance (op : BinOp) (k : IntKind) (x y : Int) : Fi P (Op.intBits op k x y) := ⟨fine_intBits op k x y⟩

theorem fine_intCmp (op : BinOp) (x y : Int) : Fine P (Op.intCmp op x y) := by
  unfold Op.intCmp
  repeat' first
    | with_reducible exact Fine.pure _
    | exact Fi.out
    | with_reducible refine fine_forIn_array _ _ _ fun _ _ => ?_
    | with_reducible refine fine_forIn_range _ _ _ fun _ _ => ?_
    | with_reducible refine fine_mapM_array _ (fun _ => ?_) _
    | with_reducible refine Fine.bind ?_ fun _ => ?_
    | with_reducible refine Fine.map ?_
    | with_reducible refine fine_ite ?_ ?_
    | split
    | dsimp only
instance (op : BinOp) (x y : Int) : Fi P (Op.intCmp op x y) := ⟨fine_intCmp op x y⟩

theorem fine_intDiv (op : BinOp) (k : IntKind) (x y : Int) : Fine P (Op.intDiv op k x y) := by
  unfold Op.intDiv
  repeat' first
    | with_reducible exact Fine.pure _
    | exact Fi.out
    | with_reducible refine fine_forIn_array _ _ _ fun _ _ => ?_
    | with_reducible refine fine_forIn_range _ _ _ fun _ _ => ?_
    | with_reducible refine fine_mapM_array _ (fun _ => ?_) _
    | with_reducible refine Fine.bind ?_ fun _ => ?_
    | with_reducible refine Fine.map ?_
    | with_reducible refine fine_ite ?_ ?_
    | split
    | dsimp only
instance (op : BinOp) (k : IntKind) (x y : Int) : Fi P (Op.intDiv op k x y) := ⟨fine_intDiv op k x y⟩

theorem fine_shift (op : BinOp) (k : IntKind) (x : Int) (k' : IntKind) (y : Int) : Fine P (Op.shift op k x k' y) := by
  unfold Op.shift
  repeat' first
    | with_reducible exact Fine.pure _
    | exact Fi.out
    | with_reducible refine fine_forIn_array _ _ _ fun _ _ => ?_
    | with_reducible refine fine_forIn_range _ _ _ fun _ _ => ?_
    | with_reducible refine fine_mapM_array _ (fun _ => ?_) _
    | with_reducible refine Fine.bind ?_ fun _ => ?_
    | with_reducible refine Fine.map ?_
    | with_reducible refine fine_ite ?_ ?_
    | split
    | dsimp only
instance (op : BinOp) (k : IntKind) (x : Int) (k' : IntKind) (y : Int) : Fi P (Op.shift op k x k' y) := ⟨fine_shift op k x k' y⟩

theorem fine_stringOp (op : BinOp) (x y : ByteArray) : Fine P (Op.stringOp op x y) := by
  unfold Op.stringOp
  repeat' first
    | with_reducible exact Fine.pure _
    | exact Fi.out
    | with_reducible refine fine_forIn_array _ _ _ fun _ _ => ?_
    | with_reducible refine fine_forIn_range _ _ _ fun _ _ => ?_
    | with_reducible refine fine_mapM_array _ (fun _ => ?_) _
    | with_reducible refine Fine.bind ?_ fun _ => ?_
    | with_reducible refine Fine.map ?_
    | with_reducible refine fine_ite ?_ ?_
    | split
    | dsimp only
instance (op : BinOp) (x y : ByteArray) : Fi P (Op.stringOp op x y) := ⟨fine_stringOp op x y⟩

theorem fine_unary (op : UnOp) (x : Value) : Fine P (Op.unary op x) := by
  unfold Op.unary
  repeat' first
    | with_reducible exact Fine.pure _
    | exact Fi.out
    | with_reducible refine fine_forIn_array _ _ _ fun _ _ => ?_
    | with_reducible refine fine_forIn_range _ _ _ fun _ _ => ?_
    | with_reducible refine fine_mapM_array _ (fun _ => ?_) _
    | with_reducible refine Fine.bind ?_ fun _ => ?_
    | with_reducible refine Fine.map ?_
    | with_reducible refine fine_ite ?_ ?_
    | split
    | dsimp only
instance (op : UnOp) (x : Value) : Fi P (Op.unary op x) := ⟨fine_unary op x⟩

theorem fine_equalIn : ∀ (d : Nat) (t : TypeId) (x y : Value), Fine P (Op.equalIn d t x y)
  | 0, _, _, _ => trivial
  | d + 1, _, _, _ => by
    have ih := fine_equalIn d
    unfold Op.equalIn
    repeat' first
      | with_reducible exact Fine.pure _
      | exact Fi.out
      | apply ih
      | with_reducible refine fine_forIn_array _ _ _ fun _ _ => ?_
      | with_reducible refine fine_forIn_range _ _ _ fun _ _ => ?_
      | with_reducible refine fine_mapM_array _ (fun _ => ?_) _
      | with_reducible refine Fine.bind ?_ fun _ => ?_
      | with_reducible refine Fine.map ?_
      | with_reducible refine fine_ite ?_ ?_
      | split
      | dsimp only
instance (d : Nat) (t : TypeId) (x y : Value) : Fi P (Op.equalIn d t x y) := ⟨fine_equalIn d t x y⟩

theorem fine_equal (t : TypeId) (x y : Value) : Fine P (Op.equal t x y) := by
  unfold Op.equal
  repeat' first
    | with_reducible exact Fine.pure _
    | exact Fi.out
    | with_reducible refine fine_forIn_array _ _ _ fun _ _ => ?_
    | with_reducible refine fine_forIn_range _ _ _ fun _ _ => ?_
    | with_reducible refine fine_mapM_array _ (fun _ => ?_) _
    | with_reducible refine Fine.bind ?_ fun _ => ?_
    | with_reducible refine Fine.map ?_
    | with_reducible refine fine_ite ?_ ?_
    | split
    | dsimp only
instance (t : TypeId) (x y : Value) : Fi P (Op.equal t x y) := ⟨fine_equal t x y⟩

theorem fine_eqGuardIn : ∀ (d : Nat) (t : TypeId) (x y : Value), Fine P (Op.eqGuardIn d t x y)
  | 0, _, _, _ => trivial
  | d + 1, _, _, _ => by
    have ih := fine_eqGuardIn d
    unfold Op.eqGuardIn
    repeat' first
      | with_reducible exact Fine.pure _
      | exact Fi.out
      | apply ih
      | with_reducible refine fine_forIn_array _ _ _ fun _ _ => ?_
      | with_reducible refine fine_forIn_range _ _ _ fun _ _ => ?_
      | with_reducible refine fine_mapM_array _ (fun _ => ?_) _
      | with_reducible refine Fine.bind ?_ fun _ => ?_
      | with_reducible refine Fine.map ?_
      | with_reducible refine fine_ite ?_ ?_
      | split
      | dsimp only
instance (d : Nat) (t : TypeId) (x y : Value) : Fi P (Op.eqGuardIn d t x y) := ⟨fine_eqGuardIn d t x y⟩

theorem fine_unsafeAdd (a : Array TypeId) (t : TypeId) (x : Array Value) : Fine P (Builtin.unsafeAdd_ a t x) := by
  unfold Builtin.unsafeAdd_
  rcases x with ⟨_ | ⟨v1, _ | ⟨v2, _ | ⟨v3, l⟩⟩⟩⟩
  all_goals first
    | exact trivial
    | (cases v1 <;> first | exact trivial | skip)
  all_goals refine Fine.bind ?_ fun _ => ?_
  repeat' first
    | with_reducible exact Fine.pure _
    | exact Fi.out
    | with_reducible refine fine_forIn_array _ _ _ fun _ _ => ?_
    | with_reducible refine fine_forIn_range _ _ _ fun _ _ => ?_
    | with_reducible refine fine_mapM_array _ (fun _ => ?_) _
    | with_reducible refine Fine.bind ?_ fun _ => ?_
    | with_reducible refine Fine.map ?_
    | with_reducible refine fine_ite ?_ ?_
    | split
    | dsimp only
instance (a : Array TypeId) (t : TypeId) (x : Array Value) : Fi P (Builtin.unsafeAdd_ a t x) := ⟨fine_unsafeAdd a t x⟩

theorem fine_movedNumber (t : TypeId) (x y : Value) : Fine P (movedNumber t x y) := by
  unfold movedNumber
  repeat' first
    | with_reducible exact Fine.pure _
    | exact Fi.out
    | with_reducible refine fine_forIn_array _ _ _ fun _ _ => ?_
    | with_reducible refine fine_forIn_range _ _ _ fun _ _ => ?_
    | with_reducible refine fine_mapM_array _ (fun _ => ?_) _
    | with_reducible refine Fine.bind ?_ fun _ => ?_
    | with_reducible refine Fine.map ?_
    | with_reducible refine fine_ite ?_ ?_
    | split
    | dsimp only
instance (t : TypeId) (x y : Value) : Fi P (movedNumber t x y) := ⟨fine_movedNumber t x y⟩

theorem fine_movedPointer (t : TypeId) (x y : Value) : Fine P (movedPointer t x y) := by
  unfold movedPointer
  repeat' first
    | with_reducible exact Fine.pure _
    | exact Fi.out
    | with_reducible refine fine_forIn_array _ _ _ fun _ _ => ?_
    | with_reducible refine fine_forIn_range _ _ _ fun _ _ => ?_
    | with_reducible refine fine_mapM_array _ (fun _ => ?_) _
    | with_reducible refine Fine.bind ?_ fun _ => ?_
    | with_reducible refine Fine.map ?_
    | with_reducible refine fine_ite ?_ ?_
    | split
    | dsimp only
instance (t : TypeId) (x y : Value) : Fi P (movedPointer t x y) := ⟨fine_movedPointer t x y⟩

theorem fine_eqGuard (op : BinOp) (t : TypeId) (x y : Operand) (a b : Value) : Fine P (eqGuard op t x y a b) := by
  unfold eqGuard
  repeat' first
    | with_reducible exact Fine.pure _
    | exact Fi.out
    | with_reducible refine fine_forIn_array _ _ _ fun _ _ => ?_
    | with_reducible refine fine_forIn_range _ _ _ fun _ _ => ?_
    | with_reducible refine fine_mapM_array _ (fun _ => ?_) _
    | with_reducible refine Fine.bind ?_ fun _ => ?_
    | with_reducible refine Fine.map ?_
    | with_reducible refine fine_ite ?_ ?_
    | split
    | dsimp only
instance (op : BinOp) (t : TypeId) (x y : Operand) (a b : Value) : Fi P (eqGuard op t x y a b) := ⟨fine_eqGuard op t x y a b⟩

theorem fine_binOp (op : BinOp) (t : TypeId) (a b : Value) : Fine P (binOp op t a b) := by
  unfold binOp
  repeat' first
    | with_reducible exact Fine.pure _
    | exact Fi.out
    | with_reducible refine fine_forIn_array _ _ _ fun _ _ => ?_
    | with_reducible refine fine_forIn_range _ _ _ fun _ _ => ?_
    | with_reducible refine fine_mapM_array _ (fun _ => ?_) _
    | with_reducible refine Fine.bind ?_ fun _ => ?_
    | with_reducible refine Fine.map ?_
    | with_reducible refine fine_ite ?_ ?_
    | split
    | dsimp only
instance (op : BinOp) (t : TypeId) (a b : Value) : Fi P (binOp op t a b) := ⟨fine_binOp op t a b⟩

end Go.Fi

/-
  The operations are fine.
-/
namespace Go.Fi
variable {P : Program} {α β : Type}

theorem fine_bytesToString (x : Value) : Fine P (Conv.bytesToString x) := by
  unfold Conv.bytesToString
  repeat' first
    | with_reducible exact Fine.pure _
    | exact Fi.out
    | with_reducible refine fine_forIn_array _ _ _ fun _ _ => ?_
    | with_reducible refine fine_forIn_range _ _ _ fun _ _ => ?_
    | with_reducible refine fine_mapM_array _ (fun _ => ?_) _
    | with_reducible refine Fine.bind ?_ fun _ => ?_
    | with_reducible refine Fine.map ?_
    | with_reducible refine fine_ite ?_ ?_
    | split
    | dsimp only
instance (x : Value) : Fi P (Conv.bytesToString x) := ⟨fine_bytesToString x⟩

theorem fine_complexToComplex (s : FloatKind) (a b : Nat) (d : FloatKind) : Fine P (Conv.complexToComplex s a b d) := by
  unfold Conv.complexToComplex
  repeat' first
    | with_reducible exact Fine.pure _
    | exact Fi.out
    | with_reducible refine fine_forIn_array _ _ _ fun _ _ => ?_
    | with_reducible refine fine_forIn_range _ _ _ fun _ _ => ?_
    | with_reducible refine fine_mapM_array _ (fun _ => ?_) _
    | with_reducible refine Fine.bind ?_ fun _ => ?_
    | with_reducible refine Fine.map ?_
    | with_reducible refine fine_ite ?_ ?_
    | split
    | dsimp only
instance (s : FloatKind) (a b : Nat) (d : FloatKind) : Fi P (Conv.complexToComplex s a b d) := ⟨fine_complexToComplex s a b d⟩

theorem fine_floatToInt (s : FloatKind) (a : Nat) (d : IntKind) : Fine P (Conv.floatToInt s a d) := by
  unfold Conv.floatToInt
  repeat' first
    | with_reducible exact Fine.pure _
    | exact Fi.out
    | with_reducible refine fine_forIn_array _ _ _ fun _ _ => ?_
    | with_reducible refine fine_forIn_range _ _ _ fun _ _ => ?_
    | with_reducible refine fine_mapM_array _ (fun _ => ?_) _
    | with_reducible refine Fine.bind ?_ fun _ => ?_
    | with_reducible refine Fine.map ?_
    | with_reducible refine fine_ite ?_ ?_
    | split
    | dsimp only
instance (s : FloatKind) (a : Nat) (d : IntKind) : Fi P (Conv.floatToInt s a d) := ⟨fine_floatToInt s a d⟩

theorem fine_intToFloat (d : FloatKind) (n : Int) : Fine P (Conv.intToFloat d n) := by
  unfold Conv.intToFloat
  repeat' first
    | with_reducible exact Fine.pure _
    | exact Fi.out
    | with_reducible refine fine_forIn_array _ _ _ fun _ _ => ?_
    | with_reducible refine fine_forIn_range _ _ _ fun _ _ => ?_
    | with_reducible refine fine_mapM_array _ (fun _ => ?_) _
    | with_reducible refine Fine.bind ?_ fun _ => ?_
    | with_reducible refine Fine.map ?_
    | with_reducible refine fine_ite ?_ ?_
    | split
    | dsimp only
instance (d : FloatKind) (n : Int) : Fi P (Conv.intToFloat d n) := ⟨fine_intToFloat d n⟩

theorem fine_intToInt (d : IntKind) (n : Int) : Fine P (Conv.intToInt d n) := by
  unfold Conv.intToInt
  repeat' first
    | with_reducible exact Fine.pure _
    | exact Fi.out
    | with_reducible refine fine_forIn_array _ _ _ fun _ _ => ?_
    | with_reducible refine fine_forIn_range _ _ _ fun _ _ => ?_
    | with_reducible refine fine_mapM_array _ (fun _ => ?_) _
    | with_reducible refine Fine.bind ?_ fun _ => ?_
    | with_reducible refine Fine.map ?_
    | with_reducible refine fine_ite ?_ ?_
    | split
    | dsimp only
instance (d : IntKind) (n : Int) : Fi P (Conv.intToInt d n) := ⟨fine_intToInt d n⟩

theorem fine_intToString (n : Int) : Fine P (Conv.intToString n) := by
  unfold Conv.intToString
  repeat' first
    | with_reducible exact Fine.pure _
    | exact Fi.out
    | with_reducible refine fine_forIn_array _ _ _ fun _ _ => ?_
    | with_reducible refine fine_forIn_range _ _ _ fun _ _ => ?_
    | with_reducible refine fine_mapM_array _ (fun _ => ?_) _
    | with_reducible refine Fine.bind ?_ fun _ => ?_
    | with_reducible refine Fine.map ?_
    | with_reducible refine fine_ite ?_ ?_
    | split
    | dsimp only
instance (n : Int) : Fi P (Conv.intToString n) := ⟨fine_intToString n⟩

theorem fine_runesToString (x : Value) : Fine P (Conv.runesToString x) := by
  unfold Conv.runesToString
  repeat' first
    | with_reducible exact Fine.pure _
    | exact Fi.out
    | with_reducible refine fine_forIn_array _ _ _ fun _ _ => ?_
    | with_reducible refine fine_forIn_range _ _ _ fun _ _ => ?_
    | with_reducible refine fine_mapM_array _ (fun _ => ?_) _
    | with_reducible refine Fine.bind ?_ fun _ => ?_
    | with_reducible refine Fine.map ?_
    | with_reducible refine fine_ite ?_ ?_
    | split
    | dsimp only
instance (x : Value) : Fi P (Conv.runesToString x) := ⟨fine_runesToString x⟩

theorem fine_stringToBytes (e : TypeId) (s : ByteArray) : Fine P (Conv.stringToBytes e s) := by
  unfold Conv.stringToBytes
  repeat' first
    | with_reducible exact Fine.pure _
    | exact Fi.out
    | with_reducible refine fine_forIn_array _ _ _ fun _ _ => ?_
    | with_reducible refine fine_forIn_range _ _ _ fun _ _ => ?_
    | with_reducible refine fine_mapM_array _ (fun _ => ?_) _
    | with_reducible refine Fine.bind ?_ fun _ => ?_
    | with_reducible refine Fine.map ?_
    | with_reducible refine fine_ite ?_ ?_
    | split
    | dsimp only
instance (e : TypeId) (s : ByteArray) : Fi P (Conv.stringToBytes e s) := ⟨fine_stringToBytes e s⟩

theorem fine_stringToRunes (e : TypeId) (s : ByteArray) : Fine P (Conv.stringToRunes e s) := by
  unfold Conv.stringToRunes
  repeat' first
    | with_reducible exact Fine.pure _
    | exact Fi.out
    | with_reducible refine fine_forIn_array _ _ _ fun _ _ => ?_
    | with_reducible refine fine_forIn_range _ _ _ fun _ _ => ?_
    | with_reducible refine fine_mapM_array _ (fun _ => ?_) _
    | with_reducible refine Fine.bind ?_ fun _ => ?_
    | with_reducible refine Fine.map ?_
    | with_reducible refine fine_ite ?_ ?_
    | split
    | dsimp only
instance (e : TypeId) (s : ByteArray) : Fi P (Conv.stringToRunes e s) := ⟨fine_stringToRunes e s⟩

theorem fine_seenAt (a : Addr) : Fine P (Conv.seenAt a) := by
  unfold Conv.seenAt
  repeat' first
    | with_reducible exact Fine.pure _
    | exact Fi.out
    | with_reducible refine fine_forIn_array _ _ _ fun _ _ => ?_
    | with_reducible refine fine_forIn_range _ _ _ fun _ _ => ?_
    | with_reducible refine fine_mapM_array _ (fun _ => ?_) _
    | with_reducible refine Fine.bind ?_ fun _ => ?_
    | with_reducible refine Fine.map ?_
    | with_reducible refine fine_ite ?_ ?_
    | split
    | dsimp only
instance (a : Addr) : Fi P (Conv.seenAt a) := ⟨fine_seenAt a⟩

theorem fine_unsafePointer (s d : TypeId) (x : Value) : Fine P (Conv.unsafePointer s d x) := by
  unfold Conv.unsafePointer
  repeat' first
    | with_reducible exact Fine.pure _
    | exact Fi.out
    | with_reducible refine fine_forIn_array _ _ _ fun _ _ => ?_
    | with_reducible refine fine_forIn_range _ _ _ fun _ _ => ?_
    | with_reducible refine fine_mapM_array _ (fun _ => ?_) _
    | with_reducible refine Fine.bind ?_ fun _ => ?_
    | with_reducible refine Fine.map ?_
    | with_reducible refine fine_ite ?_ ?_
    | split
    | dsimp only
instance (s d : TypeId) (x : Value) : Fi P (Conv.unsafePointer s d x) := ⟨fine_unsafePointer s d x⟩

theorem fine_convert (s d : TypeId) (x : Value) : Fine P (convert s d x) := by
  unfold convert
  repeat' first
    | with_reducible exact Fine.pure _
    | exact Fi.out
    | with_reducible refine fine_forIn_array _ _ _ fun _ _ => ?_
    | with_reducible refine fine_forIn_range _ _ _ fun _ _ => ?_
    | with_reducible refine fine_mapM_array _ (fun _ => ?_) _
    | with_reducible refine Fine.bind ?_ fun _ => ?_
    | with_reducible refine Fine.map ?_
    | with_reducible refine fine_ite ?_ ?_
    | split
    | dsimp only
instance (s d : TypeId) (x : Value) : Fi P (convert s d x) := ⟨fine_convert s d x⟩

theorem fine_holdsCells (a : Addr) (n : Nat) : Fine P (Builtin.holdsCells a n) := by
  unfold Builtin.holdsCells
  repeat' first
    | with_reducible exact Fine.pure _
    | exact Fi.out
    | with_reducible refine fine_forIn_array _ _ _ fun _ _ => ?_
    | with_reducible refine fine_forIn_range _ _ _ fun _ _ => ?_
    | with_reducible refine fine_mapM_array _ (fun _ => ?_) _
    | with_reducible refine Fine.bind ?_ fun _ => ?_
    | with_reducible refine Fine.map ?_
    | with_reducible refine fine_ite ?_ ?_
    | split
    | dsimp only
instance (a : Addr) (n : Nat) : Fi P (Builtin.holdsCells a n) := ⟨fine_holdsCells a n⟩

theorem fine_mayShare (a b c : Nat) (o : Option Addr) (x : Value) : Fine P (Builtin.mayShare a b c o x) := by
  unfold Builtin.mayShare
  repeat' first
    | with_reducible exact Fine.pure _
    | exact Fi.out
    | with_reducible refine fine_forIn_array _ _ _ fun _ _ => ?_
    | with_reducible refine fine_forIn_range _ _ _ fun _ _ => ?_
    | with_reducible refine fine_mapM_array _ (fun _ => ?_) _
    | with_reducible refine Fine.bind ?_ fun _ => ?_
    | with_reducible refine Fine.map ?_
    | with_reducible refine fine_ite ?_ ?_
    | split
    | dsimp only
instance (a b c : Nat) (o : Option Addr) (x : Value) : Fi P (Builtin.mayShare a b c o x) := ⟨fine_mayShare a b c o x⟩

theorem fine_lenOf (x : Value) : Fine P (Builtin.lenOf x) := by
  unfold Builtin.lenOf
  repeat' first
    | with_reducible exact Fine.pure _
    | exact Fi.out
    | with_reducible refine fine_forIn_array _ _ _ fun _ _ => ?_
    | with_reducible refine fine_forIn_range _ _ _ fun _ _ => ?_
    | with_reducible refine fine_mapM_array _ (fun _ => ?_) _
    | with_reducible refine Fine.bind ?_ fun _ => ?_
    | with_reducible refine Fine.map ?_
    | with_reducible refine fine_ite ?_ ?_
    | split
    | dsimp only
instance (x : Value) : Fi P (Builtin.lenOf x) := ⟨fine_lenOf x⟩

theorem fine_firstCells (a n : Nat) (x : Value) : Fine P (Builtin.firstCells a n x) := by
  unfold Builtin.firstCells
  repeat' first
    | with_reducible exact Fine.pure _
    | exact Fi.out
    | with_reducible refine fine_forIn_array _ _ _ fun _ _ => ?_
    | with_reducible refine fine_forIn_range _ _ _ fun _ _ => ?_
    | with_reducible refine fine_mapM_array _ (fun _ => ?_) _
    | with_reducible refine Fine.bind ?_ fun _ => ?_
    | with_reducible refine Fine.map ?_
    | with_reducible refine fine_ite ?_ ?_
    | split
    | dsimp only
instance (a n : Nat) (x : Value) : Fi P (Builtin.firstCells a n x) := ⟨fine_firstCells a n x⟩

theorem fine_bappend (a : Array TypeId) (t : TypeId) (x : Array Value) : Fine P (Builtin.append_ a t x) := by
  unfold Builtin.append_
  repeat' first
    | with_reducible exact Fine.pure _
    | exact Fi.out
    | with_reducible refine fine_forIn_array _ _ _ fun _ _ => ?_
    | with_reducible refine fine_forIn_range _ _ _ fun _ _ => ?_
    | with_reducible refine fine_mapM_array _ (fun _ => ?_) _
    | with_reducible refine Fine.bind ?_ fun _ => ?_
    | with_reducible refine Fine.map ?_
    | with_reducible refine fine_ite ?_ ?_
    | split
    | dsimp only
instance (a : Array TypeId) (t : TypeId) (x : Array Value) : Fi P (Builtin.append_ a t x) := ⟨fine_bappend a t x⟩

theorem fine_bcap (a : Array TypeId) (t : TypeId) (x : Array Value) : Fine P (Builtin.cap_ a t x) := by
  unfold Builtin.cap_
  repeat' first
    | with_reducible exact Fine.pure _
    | exact Fi.out
    | with_reducible refine fine_forIn_array _ _ _ fun _ _ => ?_
    | with_reducible refine fine_forIn_range _ _ _ fun _ _ => ?_
    | with_reducible refine fine_mapM_array _ (fun _ => ?_) _
    | with_reducible refine Fine.bind ?_ fun _ => ?_
    | with_reducible refine Fine.map ?_
    | with_reducible refine fine_ite ?_ ?_
    | split
    | dsimp only
instance (a : Array TypeId) (t : TypeId) (x : Array Value) : Fi P (Builtin.cap_ a t x) := ⟨fine_bcap a t x⟩

theorem fine_bcopy (a : Array TypeId) (t : TypeId) (x : Array Value) : Fine P (Builtin.copy_ a t x) := by
  unfold Builtin.copy_
  repeat' first
    | with_reducible exact Fine.pure _
    | exact Fi.out
    | with_reducible refine fine_forIn_array _ _ _ fun _ _ => ?_
    | with_reducible refine fine_forIn_range _ _ _ fun _ _ => ?_
    | with_reducible refine fine_mapM_array _ (fun _ => ?_) _
    | with_reducible refine Fine.bind ?_ fun _ => ?_
    | with_reducible refine Fine.map ?_
    | with_reducible refine fine_ite ?_ ?_
    | split
    | dsimp only
instance (a : Array TypeId) (t : TypeId) (x : Array Value) : Fi P (Builtin.copy_ a t x) := ⟨fine_bcopy a t x⟩

theorem fine_bclose (a : Array TypeId) (t : TypeId) (x : Array Value) : Fine P (Builtin.close_ a t x) := by
  unfold Builtin.close_
  rcases x with ⟨_ | ⟨v1, _ | ⟨v2, l⟩⟩⟩
  all_goals first
    | exact trivial
    | (cases v1 <;> first | exact trivial | skip)
  rename_i o
  cases o with
  | none => exact fine_runtimePanic _
  | some r =>
  refine Fine.bind ?_ fun _ => ?_
  repeat' first
    | with_reducible exact Fine.pure _
    | exact Fi.out
    | with_reducible refine fine_forIn_array _ _ _ fun _ _ => ?_
    | with_reducible refine fine_forIn_range _ _ _ fun _ _ => ?_
    | with_reducible refine fine_mapM_array _ (fun _ => ?_) _
    | with_reducible refine Fine.bind ?_ fun _ => ?_
    | with_reducible refine Fine.map ?_
    | with_reducible refine fine_ite ?_ ?_
    | split
    | dsimp only
instance (a : Array TypeId) (t : TypeId) (x : Array Value) : Fi P (Builtin.close_ a t x) := ⟨fine_bclose a t x⟩

theorem fine_blen (a : Array TypeId) (t : TypeId) (x : Array Value) : Fine P (Builtin.len_ a t x) := by
  unfold Builtin.len_
  repeat' first
    | with_reducible exact Fine.pure _
    | exact Fi.out
    | with_reducible refine fine_forIn_array _ _ _ fun _ _ => ?_
    | with_reducible refine fine_forIn_range _ _ _ fun _ _ => ?_
    | with_reducible refine fine_mapM_array _ (fun _ => ?_) _
    | with_reducible refine Fine.bind ?_ fun _ => ?_
    | with_reducible refine Fine.map ?_
    | with_reducible refine fine_ite ?_ ?_
    | split
    | dsimp only
instance (a : Array TypeId) (t : TypeId) (x : Array Value) : Fi P (Builtin.len_ a t x) := ⟨fine_blen a t x⟩

theorem fine_bunsafeString (a : Array TypeId) (t : TypeId) (x : Array Value) : Fine P (Builtin.unsafeString_ a t x) := by
  unfold Builtin.unsafeString_
  rcases x with ⟨_ | ⟨v1, _ | ⟨v2, _ | ⟨v3, l⟩⟩⟩⟩
  all_goals first
    | exact trivial
    | (cases v1 <;> first | exact trivial | skip)
  all_goals refine Fine.bind ?_ fun _ => ?_
  repeat' first
    | with_reducible exact Fine.pure _
    | exact Fi.out
    | with_reducible refine fine_forIn_array _ _ _ fun _ _ => ?_
    | with_reducible refine fine_forIn_range _ _ _ fun _ _ => ?_
    | with_reducible refine fine_mapM_array _ (fun _ => ?_) _
    | with_reducible refine Fine.bind ?_ fun _ => ?_
    | with_reducible refine Fine.map ?_
    | with_reducible refine fine_ite ?_ ?_
    | split
    | dsimp only
instance (a : Array TypeId) (t : TypeId) (x : Array Value) : Fi P (Builtin.unsafeString_ a t x) := ⟨fine_bunsafeString a t x⟩

theorem fine_ssaWrap (a : Array TypeId) (t : TypeId) (x : Array Value) : Fine P (Builtin.ssaWrapNilChk_ a t x) := by
  unfold Builtin.ssaWrapNilChk_
  rcases x with ⟨_ | ⟨v1, _ | ⟨v2, _ | ⟨v3, _ | ⟨v4, l⟩⟩⟩⟩⟩
  all_goals first
    | exact trivial
    | (cases v2 <;> first | exact trivial | (cases v3 <;> first | exact trivial | (cases v1 <;> first | exact trivial | skip)))
  rename_i o
  cases o with
  | some r => exact trivial
  | none =>
  refine Fine.bind ?_ fun _ => ?_
  repeat' first
    | with_reducible exact Fine.pure _
    | exact Fi.out
    | with_reducible refine fine_forIn_array _ _ _ fun _ _ => ?_
    | with_reducible refine fine_forIn_range _ _ _ fun _ _ => ?_
    | with_reducible refine fine_mapM_array _ (fun _ => ?_) _
    | with_reducible refine Fine.bind ?_ fun _ => ?_
    | with_reducible refine Fine.map ?_
    | with_reducible refine fine_ite ?_ ?_
    | split
    | dsimp only
instance (a : Array TypeId) (t : TypeId) (x : Array Value) : Fi P (Builtin.ssaWrapNilChk_ a t x) := ⟨fine_ssaWrap a t x⟩

theorem fine_sureAddr (v : Value) : Fine P (Instr.sureAddr v) := by
  unfold Instr.sureAddr
  repeat' first
    | with_reducible exact Fine.pure _
    | exact Fi.out
    | with_reducible refine fine_forIn_array _ _ _ fun _ _ => ?_
    | with_reducible refine fine_forIn_range _ _ _ fun _ _ => ?_
    | with_reducible refine fine_mapM_array _ (fun _ => ?_) _
    | with_reducible refine Fine.bind ?_ fun _ => ?_
    | with_reducible refine Fine.map ?_
    | with_reducible refine fine_ite ?_ ?_
    | split
    | dsimp only
instance (v : Value) : Fi P (Instr.sureAddr v) := ⟨fine_sureAddr v⟩

theorem fine_loadAt (t : TypeId) (v : Value) : Fine P (Instr.loadAt t v) := by
  unfold Instr.loadAt
  repeat' first
    | with_reducible exact Fine.pure _
    | exact Fi.out
    | with_reducible refine fine_forIn_array _ _ _ fun _ _ => ?_
    | with_reducible refine fine_forIn_range _ _ _ fun _ _ => ?_
    | with_reducible refine fine_mapM_array _ (fun _ => ?_) _
    | with_reducible refine Fine.bind ?_ fun _ => ?_
    | with_reducible refine Fine.map ?_
    | with_reducible refine fine_ite ?_ ?_
    | split
    | dsimp only
instance (t : TypeId) (v : Value) : Fi P (Instr.loadAt t v) := ⟨fine_loadAt t v⟩

theorem fine_storeAt (t : TypeId) (v x : Value) : Fine P (Instr.storeAt t v x) := by
  unfold Instr.storeAt
  repeat' first
    | with_reducible exact Fine.pure _
    | exact Fi.out
    | with_reducible refine fine_forIn_array _ _ _ fun _ _ => ?_
    | with_reducible refine fine_forIn_range _ _ _ fun _ _ => ?_
    | with_reducible refine fine_mapM_array _ (fun _ => ?_) _
    | with_reducible refine Fine.bind ?_ fun _ => ?_
    | with_reducible refine Fine.map ?_
    | with_reducible refine fine_ite ?_ ?_
    | split
    | dsimp only
instance (t : TypeId) (v x : Value) : Fi P (Instr.storeAt t v x) := ⟨fine_storeAt t v x⟩

theorem fine_fieldAt (t : TypeId) (v : Value) (f : Nat) : Fine P (Instr.fieldAt t v f) := by
  unfold Instr.fieldAt
  repeat' first
    | with_reducible exact Fine.pure _
    | exact Fi.out
    | with_reducible refine fine_forIn_array _ _ _ fun _ _ => ?_
    | with_reducible refine fine_forIn_range _ _ _ fun _ _ => ?_
    | with_reducible refine fine_mapM_array _ (fun _ => ?_) _
    | with_reducible refine Fine.bind ?_ fun _ => ?_
    | with_reducible refine Fine.map ?_
    | with_reducible refine fine_ite ?_ ?_
    | split
    | dsimp only
instance (t : TypeId) (v : Value) (f : Nat) : Fi P (Instr.fieldAt t v f) := ⟨fine_fieldAt t v f⟩

theorem fine_indexAt (t : TypeId) (v i : Value) : Fine P (Instr.indexAt t v i) := by
  unfold Instr.indexAt
  repeat' first
    | with_reducible exact Fine.pure _
    | exact Fi.out
    | with_reducible refine fine_forIn_array _ _ _ fun _ _ => ?_
    | with_reducible refine fine_forIn_range _ _ _ fun _ _ => ?_
    | with_reducible refine fine_mapM_array _ (fun _ => ?_) _
    | with_reducible refine Fine.bind ?_ fun _ => ?_
    | with_reducible refine Fine.map ?_
    | with_reducible refine fine_ite ?_ ?_
    | split
    | dsimp only
instance (t : TypeId) (v i : Value) : Fi P (Instr.indexAt t v i) := ⟨fine_indexAt t v i⟩

theorem fine_sliceBound (x : Value) (y : Nat) (c : BoundsCode) : Fine P (Instr.sliceBound x y c) := by
  unfold Instr.sliceBound
  repeat' first
    | with_reducible exact Fine.pure _
    | exact Fi.out
    | with_reducible refine fine_forIn_array _ _ _ fun _ _ => ?_
    | with_reducible refine fine_forIn_range _ _ _ fun _ _ => ?_
    | with_reducible refine fine_mapM_array _ (fun _ => ?_) _
    | with_reducible refine Fine.bind ?_ fun _ => ?_
    | with_reducible refine Fine.map ?_
    | with_reducible refine fine_ite ?_ ?_
    | split
    | dsimp only
instance (x : Value) (y : Nat) (c : BoundsCode) : Fi P (Instr.sliceBound x y c) := ⟨fine_sliceBound x y c⟩

theorem fine_sliceBounds (b : Bool) (l c : Nat) (lo hi mx : Option Value) : Fine P (Instr.sliceBounds b l c lo hi mx) := by
  unfold Instr.sliceBounds
  repeat' first
    | with_reducible exact Fine.pure _
    | exact Fi.out
    | with_reducible refine fine_forIn_array _ _ _ fun _ _ => ?_
    | with_reducible refine fine_forIn_range _ _ _ fun _ _ => ?_
    | with_reducible refine fine_mapM_array _ (fun _ => ?_) _
    | with_reducible refine Fine.bind ?_ fun _ => ?_
    | with_reducible refine Fine.map ?_
    | with_reducible refine fine_ite ?_ ?_
    | split
    | dsimp only
instance (b : Bool) (l c : Nat) (lo hi mx : Option Value) : Fi P (Instr.sliceBounds b l c lo hi mx) := ⟨fine_sliceBounds b l c lo hi mx⟩

theorem fine_slice (t : TypeId) (x : Value) (lo hi mx : Option Value) : Fine P (Instr.slice t x lo hi mx) := by
  unfold Instr.slice
  repeat' first
    | with_reducible exact Fine.pure _
    | exact Fi.out
    | with_reducible refine fine_forIn_array _ _ _ fun _ _ => ?_
    | with_reducible refine fine_forIn_range _ _ _ fun _ _ => ?_
    | with_reducible refine fine_mapM_array _ (fun _ => ?_) _
    | with_reducible refine Fine.bind ?_ fun _ => ?_
    | with_reducible refine Fine.map ?_
    | with_reducible refine fine_ite ?_ ?_
    | split
    | dsimp only
instance (t : TypeId) (x : Value) (lo hi mx : Option Value) : Fi P (Instr.slice t x lo hi mx) := ⟨fine_slice t x lo hi mx⟩

theorem fine_sliceAt (t : TypeId) (x : Value) (lo hi mx : Option Value) : Fine P (Instr.sliceAt t x lo hi mx) := by
  unfold Instr.sliceAt
  repeat' first
    | with_reducible exact Fine.pure _
    | exact Fi.out
    | with_reducible refine fine_forIn_array _ _ _ fun _ _ => ?_
    | with_reducible refine fine_forIn_range _ _ _ fun _ _ => ?_
    | with_reducible refine fine_mapM_array _ (fun _ => ?_) _
    | with_reducible refine Fine.bind ?_ fun _ => ?_
    | with_reducible refine Fine.map ?_
    | with_reducible refine fine_ite ?_ ?_
    | split
    | dsimp only
instance (t : TypeId) (x : Value) (lo hi mx : Option Value) : Fi P (Instr.sliceAt t x lo hi mx) := ⟨fine_sliceAt t x lo hi mx⟩

theorem fine_alloc (e : TypeId) (h : Bool) (o : Value) : Fine P (Instr.alloc e h o) := by
  unfold Instr.alloc
  repeat' first
    | with_reducible exact Fine.pure _
    | exact Fi.out
    | with_reducible refine fine_forIn_array _ _ _ fun _ _ => ?_
    | with_reducible refine fine_forIn_range _ _ _ fun _ _ => ?_
    | with_reducible refine fine_mapM_array _ (fun _ => ?_) _
    | with_reducible refine Fine.bind ?_ fun _ => ?_
    | with_reducible refine Fine.map ?_
    | with_reducible refine fine_ite ?_ ?_
    | split
    | dsimp only
instance (e : TypeId) (h : Bool) (o : Value) : Fi P (Instr.alloc e h o) := ⟨fine_alloc e h o⟩

theorem fine_box (e : TypeId) (o : Value) : Fine P (Instr.box e o) := by
  unfold Instr.box
  repeat' first
    | with_reducible exact Fine.pure _
    | exact Fi.out
    | with_reducible refine fine_forIn_array _ _ _ fun _ _ => ?_
    | with_reducible refine fine_forIn_range _ _ _ fun _ _ => ?_
    | with_reducible refine fine_mapM_array _ (fun _ => ?_) _
    | with_reducible refine Fine.bind ?_ fun _ => ?_
    | with_reducible refine Fine.map ?_
    | with_reducible refine fine_ite ?_ ?_
    | split
    | dsimp only
instance (e : TypeId) (o : Value) : Fi P (Instr.box e o) := ⟨fine_box e o⟩

theorem fine_build (t : TypeId) (p : Array (Nat × Value)) : Fine P (Instr.build t p) := by
  unfold Instr.build
  repeat' first
    | with_reducible exact Fine.pure _
    | exact Fi.out
    | with_reducible refine fine_forIn_array _ _ _ fun _ _ => ?_
    | with_reducible refine fine_forIn_range _ _ _ fun _ _ => ?_
    | with_reducible refine fine_mapM_array _ (fun _ => ?_) _
    | with_reducible refine Fine.bind ?_ fun _ => ?_
    | with_reducible refine Fine.map ?_
    | with_reducible refine fine_ite ?_ ?_
    | split
    | dsimp only
instance (t : TypeId) (p : Array (Nat × Value)) : Fi P (Instr.build t p) := ⟨fine_build t p⟩

theorem fine_buildSlice (t : TypeId) (n : Nat) (p : Array (Nat × Value)) : Fine P (Instr.buildSlice t n p) := by
  unfold Instr.buildSlice
  repeat' first
    | with_reducible exact Fine.pure _
    | exact Fi.out
    | with_reducible refine fine_forIn_array _ _ _ fun _ _ => ?_
    | with_reducible refine fine_forIn_range _ _ _ fun _ _ => ?_
    | with_reducible refine fine_mapM_array _ (fun _ => ?_) _
    | with_reducible refine Fine.bind ?_ fun _ => ?_
    | with_reducible refine Fine.map ?_
    | with_reducible refine fine_ite ?_ ?_
    | split
    | dsimp only
instance (t : TypeId) (n : Nat) (p : Array (Nat × Value)) : Fi P (Instr.buildSlice t n p) := ⟨fine_buildSlice t n p⟩

theorem fine_extract (v : Value) (n : Nat) : Fine P (Instr.extract v n) := by
  unfold Instr.extract
  repeat' first
    | with_reducible exact Fine.pure _
    | exact Fi.out
    | with_reducible refine fine_forIn_array _ _ _ fun _ _ => ?_
    | with_reducible refine fine_forIn_range _ _ _ fun _ _ => ?_
    | with_reducible refine fine_mapM_array _ (fun _ => ?_) _
    | with_reducible refine Fine.bind ?_ fun _ => ?_
    | with_reducible refine Fine.map ?_
    | with_reducible refine fine_ite ?_ ?_
    | split
    | dsimp only
instance (v : Value) (n : Nat) : Fi P (Instr.extract v n) := ⟨fine_extract v n⟩

theorem fine_field (t : TypeId) (v : Value) (n : Nat) : Fine P (Instr.field t v n) := by
  unfold Instr.field
  repeat' first
    | with_reducible exact Fine.pure _
    | exact Fi.out
    | with_reducible refine fine_forIn_array _ _ _ fun _ _ => ?_
    | with_reducible refine fine_forIn_range _ _ _ fun _ _ => ?_
    | with_reducible refine fine_mapM_array _ (fun _ => ?_) _
    | with_reducible refine Fine.bind ?_ fun _ => ?_
    | with_reducible refine Fine.map ?_
    | with_reducible refine fine_ite ?_ ?_
    | split
    | dsimp only
instance (t : TypeId) (v : Value) (n : Nat) : Fi P (Instr.field t v n) := ⟨fine_field t v n⟩

theorem fine_index (t : TypeId) (v i : Value) : Fine P (Instr.index t v i) := by
  unfold Instr.index
  repeat' first
    | with_reducible exact Fine.pure _
    | exact Fi.out
    | with_reducible refine fine_forIn_array _ _ _ fun _ _ => ?_
    | with_reducible refine fine_forIn_range _ _ _ fun _ _ => ?_
    | with_reducible refine fine_mapM_array _ (fun _ => ?_) _
    | with_reducible refine Fine.bind ?_ fun _ => ?_
    | with_reducible refine Fine.map ?_
    | with_reducible refine fine_ite ?_ ?_
    | split
    | dsimp only
instance (t : TypeId) (v i : Value) : Fi P (Instr.index t v i) := ⟨fine_index t v i⟩

theorem fine_makeChan (t : TypeId) (v : Value) : Fine P (Instr.makeChan t v) := by
  unfold Instr.makeChan
  repeat' first
    | with_reducible exact Fine.pure _
    | exact Fi.out
    | with_reducible refine fine_forIn_array _ _ _ fun _ _ => ?_
    | with_reducible refine fine_forIn_range _ _ _ fun _ _ => ?_
    | with_reducible refine fine_mapM_array _ (fun _ => ?_) _
    | with_reducible refine Fine.bind ?_ fun _ => ?_
    | with_reducible refine Fine.map ?_
    | with_reducible refine fine_ite ?_ ?_
    | split
    | dsimp only
instance (t : TypeId) (v : Value) : Fi P (Instr.makeChan t v) := ⟨fine_makeChan t v⟩

theorem fine_makeInterface (t : TypeId) (v : Value) : Fine P (Instr.makeInterface t v) := by
  unfold Instr.makeInterface
  repeat' first
    | with_reducible exact Fine.pure _
    | exact Fi.out
    | with_reducible refine fine_forIn_array _ _ _ fun _ _ => ?_
    | with_reducible refine fine_forIn_range _ _ _ fun _ _ => ?_
    | with_reducible refine fine_mapM_array _ (fun _ => ?_) _
    | with_reducible refine Fine.bind ?_ fun _ => ?_
    | with_reducible refine Fine.map ?_
    | with_reducible refine fine_ite ?_ ?_
    | split
    | dsimp only
instance (t : TypeId) (v : Value) : Fi P (Instr.makeInterface t v) := ⟨fine_makeInterface t v⟩

theorem fine_makeFunc (f : Fn) (a b : Array Value) : Fine P (Instr.makeFunc f a b) := by
  unfold Instr.makeFunc
  repeat' first
    | with_reducible exact Fine.pure _
    | exact Fi.out
    | with_reducible refine fine_forIn_array _ _ _ fun _ _ => ?_
    | with_reducible refine fine_forIn_range _ _ _ fun _ _ => ?_
    | with_reducible refine fine_mapM_array _ (fun _ => ?_) _
    | with_reducible refine Fine.bind ?_ fun _ => ?_
    | with_reducible refine Fine.map ?_
    | with_reducible refine fine_ite ?_ ?_
    | split
    | dsimp only
instance (f : Fn) (a b : Array Value) : Fi P (Instr.makeFunc f a b) := ⟨fine_makeFunc f a b⟩

theorem fine_makeSlice (t : TypeId) (l c : Value) : Fine P (Instr.makeSlice t l c) := by
  unfold Instr.makeSlice
  repeat' first
    | with_reducible exact Fine.pure _
    | exact Fi.out
    | with_reducible refine fine_forIn_array _ _ _ fun _ _ => ?_
    | with_reducible refine fine_forIn_range _ _ _ fun _ _ => ?_
    | with_reducible refine fine_mapM_array _ (fun _ => ?_) _
    | with_reducible refine Fine.bind ?_ fun _ => ?_
    | with_reducible refine Fine.map ?_
    | with_reducible refine fine_ite ?_ ?_
    | split
    | dsimp only
instance (t : TypeId) (l c : Value) : Fi P (Instr.makeSlice t l c) := ⟨fine_makeSlice t l c⟩

theorem fine_get (t : TypeId) (x : Place) : Fine P (Place.get t x) := by
  unfold Place.get
  repeat' first
    | with_reducible exact Fine.pure _
    | exact Fi.out
    | with_reducible refine fine_forIn_array _ _ _ fun _ _ => ?_
    | with_reducible refine fine_forIn_range _ _ _ fun _ _ => ?_
    | with_reducible refine fine_mapM_array _ (fun _ => ?_) _
    | with_reducible refine Fine.bind ?_ fun _ => ?_
    | with_reducible refine Fine.map ?_
    | with_reducible refine fine_ite ?_ ?_
    | split
    | dsimp only
instance (t : TypeId) (x : Place) : Fi P (Place.get t x) := ⟨fine_get t x⟩

theorem fine_follow : ∀ (l : List FieldStep) (t : TypeId) (x : Place), Fine P (follow l t x)
  | [], _, _ => Fine.pure _
  | s :: l, t, x => by
    have ih := fine_follow l
    unfold follow
    repeat' first
      | with_reducible exact Fine.pure _
      | exact Fi.out
      | apply ih
      | with_reducible refine fine_forIn_array _ _ _ fun _ _ => ?_
      | with_reducible refine fine_forIn_range _ _ _ fun _ _ => ?_
      | with_reducible refine fine_mapM_array _ (fun _ => ?_) _
      | with_reducible refine Fine.bind ?_ fun _ => ?_
      | with_reducible refine Fine.map ?_
      | with_reducible refine fine_ite ?_ ?_
      | split
      | dsimp only
instance (l : List FieldStep) (t : TypeId) (x : Place) : Fi P (follow l t x) := ⟨fine_follow l t x⟩

theorem fine_receiverAt (t : TypeId) (x : Place) (b : Bool) (o : Option String) : Fine P (receiverAt t x b o) := by
  unfold receiverAt
  repeat' first
    | with_reducible exact Fine.pure _
    | exact Fi.out
    | with_reducible refine fine_forIn_array _ _ _ fun _ _ => ?_
    | with_reducible refine fine_forIn_range _ _ _ fun _ _ => ?_
    | with_reducible refine fine_mapM_array _ (fun _ => ?_) _
    | with_reducible refine Fine.bind ?_ fun _ => ?_
    | with_reducible refine Fine.map ?_
    | with_reducible refine fine_ite ?_ ?_
    | split
    | dsimp only
instance (t : TypeId) (x : Place) (b : Bool) (o : Option String) : Fi P (receiverAt t x b o) := ⟨fine_receiverAt t x b o⟩

theorem fine_receiverVia (t : TypeId) (v : Value) (p : Array FieldStep) (b : Bool) : Fine P (receiverVia t v p b) := by
  unfold receiverVia
  repeat' first
    | with_reducible exact Fine.pure _
    | exact Fi.out
    | with_reducible refine fine_forIn_array _ _ _ fun _ _ => ?_
    | with_reducible refine fine_forIn_range _ _ _ fun _ _ => ?_
    | with_reducible refine fine_mapM_array _ (fun _ => ?_) _
    | with_reducible refine Fine.bind ?_ fun _ => ?_
    | with_reducible refine Fine.map ?_
    | with_reducible refine fine_ite ?_ ?_
    | split
    | dsimp only
instance (t : TypeId) (v : Value) (p : Array FieldStep) (b : Bool) : Fi P (receiverVia t v p b) := ⟨fine_receiverVia t v p b⟩

theorem fine_method : ∀ (d : Nat) (t : TypeId) (v : Value) (n : String), Fine P (method d t v n)
  | 0, _, _, _ => trivial
  | d + 1, _, _, _ => by
    have ih := fine_method d
    unfold method
    repeat' first
      | with_reducible exact Fine.pure _
      | exact Fi.out
      | apply ih
      | with_reducible refine fine_forIn_array _ _ _ fun _ _ => ?_
      | with_reducible refine fine_forIn_range _ _ _ fun _ _ => ?_
      | with_reducible refine fine_mapM_array _ (fun _ => ?_) _
      | with_reducible refine Fine.bind ?_ fun _ => ?_
      | with_reducible refine Fine.map ?_
      | with_reducible refine fine_ite ?_ ?_
      | split
      | dsimp only
instance (d : Nat) (t : TypeId) (v : Value) (n : String) : Fi P (method d t v n) := ⟨fine_method d t v n⟩

theorem fine_followBlind : ∀ (l : List FieldStep) (t : TypeId) (x : Option Value), Fine P (followBlind l t x)
  | [], _, _ => Fine.pure _
  | s :: l, t, x => by
    have ih := fine_followBlind l
    unfold followBlind
    repeat' first
      | with_reducible exact Fine.pure _
      | exact Fi.out
      | apply ih
      | with_reducible refine fine_forIn_array _ _ _ fun _ _ => ?_
      | with_reducible refine fine_forIn_range _ _ _ fun _ _ => ?_
      | with_reducible refine fine_mapM_array _ (fun _ => ?_) _
      | with_reducible refine Fine.bind ?_ fun _ => ?_
      | with_reducible refine Fine.map ?_
      | with_reducible refine fine_ite ?_ ?_
      | split
      | dsimp only
instance (l : List FieldStep) (t : TypeId) (x : Option Value) : Fi P (followBlind l t x) := ⟨fine_followBlind l t x⟩

theorem fine_nilAhead : ∀ (d : Nat) (t : TypeId) (v : Value) (n : String), Fine P (nilAhead d t v n)
  | 0, _, _, _ => trivial
  | d + 1, _, _, _ => by
    have ih := fine_nilAhead d
    unfold nilAhead
    repeat' first
      | with_reducible exact Fine.pure _
      | exact Fi.out
      | apply ih
      | with_reducible refine fine_forIn_array _ _ _ fun _ _ => ?_
      | with_reducible refine fine_forIn_range _ _ _ fun _ _ => ?_
      | with_reducible refine fine_mapM_array _ (fun _ => ?_) _
      | with_reducible refine Fine.bind ?_ fun _ => ?_
      | with_reducible refine Fine.map ?_
      | with_reducible refine fine_ite ?_ ?_
      | split
      | dsimp only
instance (d : Nat) (t : TypeId) (v : Value) (n : String) : Fi P (nilAhead d t v n) := ⟨fine_nilAhead d t v n⟩

theorem fine_ofValue (f : Value) (a : Array Value) : Fine P (Deferred.ofValue f a) := by
  unfold Deferred.ofValue
  repeat' first
    | with_reducible exact Fine.pure _
    | exact Fi.out
    | with_reducible refine fine_forIn_array _ _ _ fun _ _ => ?_
    | with_reducible refine fine_forIn_range _ _ _ fun _ _ => ?_
    | with_reducible refine fine_mapM_array _ (fun _ => ?_) _
    | with_reducible refine Fine.bind ?_ fun _ => ?_
    | with_reducible refine Fine.map ?_
    | with_reducible refine fine_ite ?_ ?_
    | split
    | dsimp only
instance (f : Value) (a : Array Value) : Fi P (Deferred.ofValue f a) := ⟨fine_ofValue f a⟩

theorem fine_resolve (ρ : Operand → Value) (c : Call) (t : TypeId) : Fine P (resolve ρ c t) := by
  unfold resolve
  repeat' first
    | with_reducible exact Fine.pure _
    | exact Fi.out
    | with_reducible refine fine_forIn_array _ _ _ fun _ _ => ?_
    | with_reducible refine fine_forIn_range _ _ _ fun _ _ => ?_
    | with_reducible refine fine_mapM_array _ (fun _ => ?_) _
    | with_reducible refine Fine.bind ?_ fun _ => ?_
    | with_reducible refine Fine.map ?_
    | with_reducible refine fine_ite ?_ ?_
    | split
    | dsimp only
instance (ρ : Operand → Value) (c : Call) (t : TypeId) : Fi P (resolve ρ c t) := ⟨fine_resolve ρ c t⟩

end Go.Fi

/-
  A fine operation hangs on the answers that it asks for alone.
-/
namespace Go.Fi
variable {P : Program} {α β : Type}

/-- The world on another tape, at another place of it. -/
def _root_.Go.World.td (w : World) (τ : Nat → Question → Nat) (d : Nat) : World := { w with tape := τ, drawn := d }

theorem viewStore_td {w w' : World} {at_ : Addr} {u : TypeId} {k : Addr} {x : Value} {atomic : Bool} {l : List Addr} (h : w.viewStore P at_ u k x atomic = .ok (w', l)) (τ : Nat → Question → Nat) (d : Nat) :
    w'.tape = w.tape ∧ w'.drawn = w.drawn ∧ w'.os = w.os ∧ w'.output = w.output ∧ (w.td τ d).viewStore P at_ u k x atomic = .ok (w'.td τ d, l) := by
  have hseen : (w.td τ d).seen P at_ u k atomic = w.seen P at_ u k atomic := rfl
  unfold World.viewStore at h ⊢
  rw [hseen]
  by_cases ht : (!tight P P.depth u) = true
  · simp only [ht, if_true] at h
    cases h
  cases hs : w.seen P at_ u k atomic with
  | error e => simp only [ht, hs] at h; cases h
  | ok r =>
    obtain ⟨c, e, fz, first, like, cells⟩ := r
    simp only [ht, hs, bind, Except.bind, Bool.false_eq_true, if_false] at h ⊢
    split at h
    · split at h
      · cases h
      · rename_i hl
        rw [if_neg hl]
        split at h
        · cases h
        · simp only [Pure.pure, Except.pure, Except.ok.injEq, Prod.mk.injEq] at h
          obtain ⟨rfl, rfl⟩ := h
          exact ⟨rfl, rfl, rfl, rfl, rfl⟩
    · cases h

/-- WHAT A FINE OPERATION HANGS ON. -/
theorem Fine.shift {m : Sem α} (h : Fine P m) : ∀ {w : World} {a : α} {w' : World}, m.run P w = .ok a w' →
    w'.tape = w.tape ∧ w'.os = w.os ∧ w'.output = w.output ∧ w.drawn ≤ w'.drawn ∧
      ∀ τ d, (∀ j q, j < w'.drawn - w.drawn → τ (d + j) q = w.tape (w.drawn + j) q) → m.run P (w.td τ d) = .ok a (w'.td τ (d + (w'.drawn - w.drawn))) := by
  induction m with
  | pure a =>
    intro w b w' e
    cases e
    exact ⟨rfl, rfl, rfl, Nat.le_refl _, fun τ d _ => by simp [Sem.run]⟩
  | halt _ => intro w a w' e; cases e
  | load m a k ih =>
    intro w b w' e
    unfold Sem.run at e
    cases hc : w.cell? a with
    | some v =>
      rw [hc] at e
      obtain ⟨h1, h2, h3, h4, h5⟩ := ih v (h v) e
      refine ⟨h1, h2, h3, h4, fun τ d hτ => ?_⟩
      unfold Sem.run
      rw [show (w.td τ d).cell? a = some v from hc]
      exact h5 τ d hτ
    | none =>
      rw [hc] at e
      dsimp only at e
      cases hf : w.farLoad P a (m == .atomic) with
      | error x => rw [hf] at e; cases e
      | ok r =>
        obtain ⟨v, tt⟩ := r
        rw [hf] at e
        obtain ⟨h1, h2, h3, h4, h5⟩ := ih v (h v) e
        refine ⟨h1, h2, h3, h4, fun τ d hτ => ?_⟩
        unfold Sem.run
        rw [show (w.td τ d).cell? a = none from hc]
        dsimp only
        rw [show (w.td τ d).farLoad P a (m == .atomic) = .ok (v, tt) from hf]
        exact h5 τ d hτ
  | store m a v k ih =>
    intro w b w' e
    have ih' := @ih h
    have main : ∀ {w : World}, (∀ l, v ≠ .agg l) → (∀ l, v ≠ .tuple l) → (Sem.store m a v k).run P w = match w.cell? a with
        | some _ => if w.frozen? a then .halt (.unsupported (.unsafePointer "a write to bytes that a string shares")) w else k.run P (w.setCell a v)
        | none => match w.farStore P a v (m == .atomic) with
          | .ok (w, _) => k.run P w
          | .error h => .halt h w := by
      intro w n1 n2
      cases v with
      | agg l => exact absurd rfl (n1 l)
      | tuple l => exact absurd rfl (n2 l)
      | _ => rfl
    by_cases n1 : ∃ l, v = .agg l
    · obtain ⟨l, rfl⟩ := n1; cases e
    by_cases n2 : ∃ l, v = .tuple l
    · obtain ⟨l, rfl⟩ := n2; cases e
    have n1' : ∀ l, v ≠ .agg l := fun l q => n1 ⟨l, q⟩
    have n2' : ∀ l, v ≠ .tuple l := fun l q => n2 ⟨l, q⟩
    rw [main n1' n2'] at e
    cases hc : w.cell? a with
    | some x =>
      rw [hc] at e
      dsimp only at e
      split at e
      · cases e
      · rename_i hfz
        obtain ⟨h1, h2, h3, h4, h5⟩ := ih' e
        refine ⟨h1, h2, h3, h4, fun τ d hτ => ?_⟩
        rw [main n1' n2', show (w.td τ d).cell? a = some x from hc]
        dsimp only
        rw [if_neg (show ¬ (w.td τ d).frozen? a = true from hfz)]
        exact h5 τ d hτ
    | none =>
      rw [hc] at e
      dsimp only at e
      cases hf : w.farStore P a v (m == .atomic) with
      | error x => rw [hf] at e; cases e
      | ok r =>
        obtain ⟨w₁, tt⟩ := r
        rw [hf] at e
        have key : ∀ τ d, w₁.tape = w.tape ∧ w₁.drawn = w.drawn ∧ w₁.os = w.os ∧ w₁.output = w.output ∧ (w.td τ d).farStore P a v (m == .atomic) = .ok (w₁.td τ d, tt) := by
          intro τ d
          unfold World.farStore at hf ⊢
          rw [show (w.td τ d).heap = w.heap from rfl]
          split at hf
          · rename_i at_ u hb
            split at hf
            · rename_i r hr
              cases hf
              obtain ⟨q1, q2, q3, q4, q5⟩ := viewStore_td hr τ d
              refine ⟨q1, q2, q3, q4, ?_⟩
              simp only [q5]
            · cases hf
          · cases hf
        obtain ⟨k1, k2, k3, k4, _⟩ := key w.tape w.drawn
        obtain ⟨h1, h2, h3, h4, h5⟩ := ih' e
        rw [k1, k2] at h5
        refine ⟨h1.trans k1, h2.trans k3, h3.trans k4, k2 ▸ h4, fun τ d hτ => ?_⟩
        rw [main n1' n2', show (w.td τ d).cell? a = none from hc]
        dsimp only
        rw [(key τ d).2.2.2.2]
        exact h5 τ d hτ
  | new o k ih =>
    intro w b w' e
    obtain ⟨h1, h2, h3, h4, h5⟩ := ih w.heap.size (h _) (w := { w with heap := w.heap.push o }) e
    exact ⟨h1, h2, h3, h4, fun τ d hτ => h5 τ d hτ⟩
  | shape r k ih => intro w b w' e; obtain ⟨h1, h2, h3, h4, h5⟩ := ih _ (h _) (w := w) e; exact ⟨h1, h2, h3, h4, fun τ d hτ => h5 τ d hτ⟩
  | freeze a n k ih =>
    intro w b w' e
    have q : ∀ τ d, (w.td τ d).freeze a n = (w.freeze a n).td τ d := fun τ d => by unfold World.freeze World.td; split <;> rfl
    have q1 : (w.freeze a n).tape = w.tape := by unfold World.freeze; split <;> rfl
    have q2 : (w.freeze a n).drawn = w.drawn := by unfold World.freeze; split <;> rfl
    have q3 : (w.freeze a n).os = w.os := by unfold World.freeze; split <;> rfl
    have q4 : (w.freeze a n).output = w.output := by unfold World.freeze; split <;> rfl
    obtain ⟨h1, h2, h3, h4, h5⟩ := ih h (w := w.freeze a n) e
    rw [q1, q2] at h5
    refine ⟨h1.trans q1, h2.trans q3, h3.trans q4, q2 ▸ h4, fun τ d hτ => ?_⟩
    show k.run P ((w.td τ d).freeze a n) = _
    rw [q]
    exact h5 τ d hτ
  | frozen a k ih => intro w b w' e; obtain ⟨h1, h2, h3, h4, h5⟩ := ih _ (h _) (w := w) e; exact ⟨h1, h2, h3, h4, fun τ d hτ => h5 τ d hτ⟩
  | getObj r k ih =>
    intro w b w' e
    unfold Sem.run at e
    split at e
    · cases e
    · rename_i o hn ho
      obtain ⟨h1, h2, h3, h4, h5⟩ := ih o (h o) e
      refine ⟨h1, h2, h3, h4, fun τ d hτ => ?_⟩
      have := h5 τ d hτ
      unfold Sem.run
      rw [show (w.td τ d).heap[r]? = some o from ho]
      cases o with
      | cells c t fz => exact absurd rfl (hn c t fz)
      | _ => exact this
    · cases e
  | setObj r o k ih =>
    intro w b w' e
    unfold Sem.run at e
    split at e
    · cases e
    · rename_i o' hn ho
      obtain ⟨h1, h2, h3, h4, h5⟩ := ih h (w := { w with heap := w.heap.setIfInBounds r o }) e
      refine ⟨h1, h2, h3, h4, fun τ d hτ => ?_⟩
      have := h5 τ d hτ
      unfold Sem.run
      rw [show (w.td τ d).heap[r]? = some o' from ho]
      cases o' with
      | cells c t fz => exact absurd rfl (hn c t fz)
      | _ => exact this
    · cases e
  | choose q k ih =>
    intro w b w' e
    unfold Sem.run at e
    split at e
    · rename_i hq
      obtain ⟨h1, h2, h3, h4, h5⟩ := ih 0 (h 0) e
      refine ⟨h1, h2, h3, h4, fun τ d hτ => ?_⟩
      unfold Sem.run
      rw [if_pos hq]
      exact h5 τ d hτ
    · rename_i hq
      obtain ⟨h1, h2, h3, h4, h5⟩ := ih _ (h _) (w := { w with drawn := w.drawn + 1 }) e
      have h4' : w.drawn + 1 ≤ w'.drawn := h4
      refine ⟨h1, h2, h3, by omega, fun τ d hτ => ?_⟩
      have t0 : τ d q = w.tape w.drawn q := by
        have := hτ 0 q (by omega)
        simpa using this
      have h6 := h5 τ (d + 1) fun j q' hj => by
        have hj' : j < w'.drawn - (w.drawn + 1) := hj
        have := hτ (j + 1) q' (by omega)
        rw [show d + 1 + j = d + (j + 1) by omega, this]
        show w.tape (w.drawn + (j + 1)) q' = w.tape (w.drawn + 1 + j) q'
        rw [show w.drawn + (j + 1) = w.drawn + 1 + j by omega]
      unfold Sem.run
      rw [if_neg hq]
      have e1 : d + 1 + (w'.drawn - (w.drawn + 1)) = d + (w'.drawn - w.drawn) := by omega
      have h7 : (k (q.cut (w.tape w.drawn q))).run P ({ w with drawn := w.drawn + 1 }.td τ (d + 1)) = .ok b (w'.td τ (d + 1 + (w'.drawn - (w.drawn + 1)))) := h6
      rw [e1] at h7
      show (k (q.cut (τ d q))).run P ({ w with drawn := w.drawn + 1 }.td τ (d + 1)) = _
      rw [t0]
      exact h7
  | sys _ _ _ => exact h.elim
  | program k ih => intro w b w' e; obtain ⟨h1, h2, h3, h4, h5⟩ := ih P h (w := w) e; exact ⟨h1, h2, h3, h4, fun τ d hτ => h5 τ d hτ⟩
  | mark m k ih => intro w b w' e; obtain ⟨h1, h2, h3, h4, h5⟩ := ih h.2 (w := w) e; exact ⟨h1, h2, h3, h4, fun τ d hτ => h5 τ d hτ⟩
end Go.Fi

/-
  An operation that the simulation bears: what it lists, and what it hangs on.
-/
namespace Go.Fi
open Go.Sim
variable {P : Program} {α β : Type} {Shd : Nat → Prop} {R : BR}

/-- What is known of a run that comes to its end. -/
structure Fk (P : Program) (m : Sem α) (w : World) (a : α) (w' : World) : Prop where
  size : w.heap.size ≤ w'.heap.size
  tape : w'.tape = w.tape
  os : w'.os = w.os
  output : w'.output = w.output
  drawn : w.drawn ≤ w'.drawn
  ev : ∀ e ∈ m.events P w #[], EvF w'.heap.size e
  shift : ∀ τ d, (∀ j q, j < w'.drawn - w.drawn → τ (d + j) q = w.tape (w.drawn + j) q) → m.run P (w.td τ d) = .ok a (w'.td τ (d + (w'.drawn - w.drawn))) ∧ ∀ e ∈ m.events P (w.td τ d) #[], EvF w'.heap.size e
def FkAt (P : Program) (m : Sem α) (w : World) : Prop := ∀ a w', m.run P w = .ok a w' → Fk P m w a w'

theorem Fine.events {m : Sem α} (h : Fine P m) {w : World} {a : α} {w' : World} (hr : m.run P w = .ok a w') : w.heap.size ≤ w'.heap.size ∧ ∀ e ∈ m.events P w #[], EvF w'.heap.size e := by
  have := h.runT w #[]
  have e1 : (m.runT P w #[]).1 = .ok a w' := by rw [Sem.runT_eq]; exact hr
  rw [e1] at this
  refine ⟨this.1, fun e he => ?_⟩
  have he' : e ∈ (m.runT P w #[]).2 := he
  rcases this.2 e he' with q | q
  · simp at q
  · exact q
theorem Fine.fk {m : Sem α} (h : Fine P m) (w : World) : FkAt P m w := by
  intro a w' hr
  obtain ⟨h1, h2, h3, h4, h5⟩ := h.shift hr
  obtain ⟨s1, s2⟩ := h.events hr
  refine ⟨s1, h1, h2, h3, h4, s2, fun τ d hτ => ?_⟩
  have hr2 := h5 τ d hτ
  exact ⟨hr2, (h.events hr2).2⟩
theorem FkAt.bind {m : Sem α} {f : α → Sem β} {w : World} (h : FkAt P m w) (k : ∀ a w1, m.run P w = .ok a w1 → FkAt P (f a) w1) : FkAt P (m >>= f) w := by
  intro b w' hr
  rw [Sem.run_bind] at hr
  cases hm : m.run P w with
  | halt x y => rw [hm] at hr; simp [Result.andThen] at hr
  | ok a w1 =>
    rw [hm] at hr
    have h1 := h a w1 hm
    have h2 := k a w1 hm b w' hr
    have ev : ∀ {W W1 : World}, m.run P W = .ok a W1 → (∀ e ∈ m.events P W #[], EvF w'.heap.size e) → (∀ e ∈ (f a).events P W1 #[], EvF w'.heap.size e) → ∀ e ∈ (m >>= f).events P W #[], EvF w'.heap.size e := by
      intro W W1 hW q1 q2 e he
      rw [Sem.events_bind, hW] at he
      simp only [Result.evThen_ok] at he
      rw [Sem.events_acc] at he
      rcases Array.mem_append.1 he with he | he
      · exact q1 e he
      · exact q2 e he
    have hd := h1.drawn
    have hd2 := h2.drawn
    refine ⟨Nat.le_trans h1.size h2.size, h2.tape.trans h1.tape, h2.os.trans h1.os, h2.output.trans h1.output, Nat.le_trans hd hd2, ev hm (fun e he => (h1.ev e he).mono h2.size) h2.ev, fun τ d hτ => ?_⟩
    obtain ⟨r1, e1⟩ := h1.shift τ d fun j q hj => hτ j q (by omega)
    obtain ⟨r2, e2⟩ := h2.shift τ (d + (w1.drawn - w.drawn)) fun j q hj => by
      have := hτ ((w1.drawn - w.drawn) + j) q (by omega)
      rw [Nat.add_assoc, this, h1.tape]
      congr 1
      omega
    refine ⟨?_, ev r1 (fun e he => (e1 e he).mono h2.size) e2⟩
    rw [Sem.run_bind, r1]
    simp only [Result.andThen_ok]
    rw [r2]
    congr 2
    omega
theorem FkAt.dead {m : Sem α} (h : Dead P m) (w : World) : FkAt P m w := by
  intro a w' hr
  obtain ⟨x, y, e, _⟩ := h w
  rw [hr] at e; cases e

theorem fk_callFunc {f : FuncId} (hf : BodyOK P f) (x : Array Value) (w : World) : FkAt P (callFunc f x) w := by
  obtain ⟨fn, h1, h2, h3⟩ := hf
  have hn : fn.name ≠ "runtime.NumGoroutine" := fun x => by rw [x] at h3; revert h3; decide
  have e : ∀ w : World, (callFunc f x).run P w = .ok (.enter f x) w ∧ (callFunc f x).events P w #[] = #[] := by
    intro w
    cases hb : fn.body with
    | none => rw [hb] at h2; cases h2
    | some c => exact ⟨by simp [callFunc, program, h1, hn, hb, bind, Sem.bind, Sem.run, pure], by simp [callFunc, h1, hn, hb]⟩
  intro a w' hr
  rw [(e w).1] at hr
  cases hr
  exact ⟨Nat.le_refl _, rfl, rfl, rfl, Nat.le_refl _, fun ev he => by rw [(e w).2] at he; simp at he, fun τ d _ => ⟨by rw [(e _).1]; simp, fun ev he => by rw [(e _).2] at he; simp at he⟩⟩

theorem fk_callMethod {name : String} (hm : MethOK P name) {v V : Value} (h : VR P R v V) (x : Array Value) {w W : World} (hw : WR P Shd R w W) (ht : ∀ j q, w.tape (w.drawn + j) q = W.tape (W.drawn + j) q) : FkAt P (callMethod v name x) w := by
  cases h with
  | iface t htl h =>
    refine FkAt.bind (Fine.fk fine_program w) fun p w1 e => ?_
    cases e
    refine FkAt.bind (Fine.fk (fine_method _ t _ name) w) fun r w1 e => ?_
    obtain ⟨f, rc⟩ := r
    obtain ⟨R', b, W', _, ⟨_, hb, _⟩, _⟩ := (sim_method hm _ t htl h w W hw ht).2 _ _ e
    exact fk_callFunc hb _ w1
  | nilIface => exact FkAt.dead (dead_runtimePanic .nilDeref) w
  | _ => exact FkAt.dead (dead_stuck _) w

theorem fk_v {m : Sem Value} (h : Fine P m) (w : World) : FkAt P (do pure (Next.value (← m)) : Sem Next) w := Fine.fk (Fine.bind h fun _ => Fine.pure _) w
theorem fk_u {m : Sem Unit} (h : Fine P m) (w : World) : FkAt P (do m; pure Next.skip : Sem Next) w := Fine.fk (Fine.bind h fun _ => Fine.pure _) w

theorem fk_execOp {f g : Operand → Value} (h : ∀ x, OperandOK P x → VR P R (f x) (g x)) (o : Oper) (ho : OpOK P o.op) {w W : World} (hw : WR P Shd R w W) (ht : ∀ j q, w.tape (w.drawn + j) q = W.tape (W.drawn + j) q) : FkAt P (execOp f o) w := by
  unfold execOp
  cases hop : o.op with
  | move x => exact Fine.fk (Fine.pure _) w
  | assign x => exact Fine.fk (Fine.pure _) w
  | pick c a b => exact Fine.fk (Fine.bind (fine_asBool _) fun _ => Fine.pure _) w
  | alloc t => exact fk_v (fine_alloc _ _ _) w
  | box t x => exact fk_v (fine_box _ _) w
  | build t parts => exact fk_v (fine_build _ _) w
  | buildSlice t n parts => exact fk_v (fine_buildSlice _ _ _) w
  | load t a => exact fk_v (fine_loadAt _ _) w
  | store t a x => exact fk_u (fine_storeAt _ _ _) w
  | nilCheck x =>
    dsimp only
    split
    · exact FkAt.dead (dead_runtimePanic .nilDeref) w
    · exact FkAt.dead (dead_runtimePanic .nilDeref) w
    · exact FkAt.dead (dead_runtimePanic .nilDeref) w
    · split
      · exact FkAt.dead (dead_runtimePanic .nilDeref) w
      · refine Fine.fk (Fine.bind fine_program fun _ => Fine.bind (fine_nilAhead _ _ _ _) fun _ => ?_) w
        split
        · exact Fine.bind (fine_unsupported _) fun _ => Fine.pure _
        · exact Fine.pure _
      · exact Fine.fk (Fine.pure _) w
    · exact Fine.fk (Fine.pure _) w
  | binOp op t x y ty => exact fk_v (Fine.bind (fine_eqGuard _ _ _ _ _ _) fun _ => fine_binOp _ _ _ _) w
  | unOp op t x => exact fk_v (fine_unary _ _) w
  | convert a b x => exact fk_v (fine_convert _ _ _) w
  | makeInterface t x => exact fk_v (fine_makeInterface _ _) w
  | makeFunc fn a b => exact fk_v (fine_makeFunc _ _ _) w
  | makeSlice t l c => exact fk_v (fine_makeSlice _ _ _) w
  | slice t x lo hi mx => exact fk_v (fine_sliceAt _ _ _ _ _) w
  | fieldAddr s x i => exact fk_v (fine_fieldAt _ _ _) w
  | field t x i => exact fk_v (fine_field _ _ _) w
  | indexAddr t x i => exact fk_v (fine_indexAt _ _ _) w
  | index t x i => exact fk_v (fine_index _ _ _) w
  | extract x i => exact fk_v (fine_extract _ _) w
  | panic x => exact FkAt.dead (dead_left (dead_panic _)) w
  | call c =>
    rw [hop] at ho
    obtain ⟨hargs, ho⟩ := ho
    show FkAt P (do let d ← resolve f c o.type; invoke d.target d.args) w
    unfold resolve
    cases hc : c.callee with
    | value fv =>
      rw [hc] at ho
      have hv := h fv ho
      show FkAt P (do let d ← Deferred.ofValue (f fv) (c.args.map f); invoke d.target d.args) w
      generalize f fv = v at hv
      generalize g fv = V at hv
      cases hv with
      | func fn hf h1 h2 h3 h4 =>
        cases fn with
        | func k => exact fk_callFunc hf _ w
        | method name =>
          rename_i a A b B
          show FkAt P (invoke (.fn (.method name) b) (a ++ c.args.map f)) w
          unfold invoke
          dsimp only
          have ha : VRs P R a A := ⟨h1, h2⟩
          have hax := ha.append (VRs.map h hargs)
          cases he : (a ++ c.args.map f)[0]? with
          | none => exact FkAt.dead (dead_stuck _) w
          | some r =>
            obtain ⟨r', e', hr⟩ := hax.get he
            exact fk_callMethod hf hr _ hw ht
        | methodOf _ _ => exact hf.elim
        | via _ _ _ _ => exact hf.elim
        | yield _ => exact hf.elim
      | nilFunc => exact FkAt.dead (dead_runtimePanic .nilDeref) w
      | _ => exact FkAt.dead (dead_stuck _) w
    | invoke r name =>
      rw [hc] at ho
      show FkAt P (invoke (.fn (.method name) #[]) (#[f r] ++ c.args.map f)) w
      unfold invoke
      dsimp only
      have e1 : ∀ (z : Value) (l : Array Value), (#[z] ++ l)[0]? = some z := by intro z l; simp [Array.getElem?_append]
      simp only [e1]
      exact fk_callMethod ho.2 (h r ho.1) _ hw ht
    | builtin b =>
      rw [hc] at ho
      cases b <;> first | exact ho.elim | skip
      · exact fk_v (fine_bappend _ _ _) w
      · exact fk_v (fine_bcap _ _ _) w
      · exact fk_v (fine_bcopy _ _ _) w
      · exact fk_v (fine_blen _ _ _) w
      · exact fk_v (fine_bunsafeString _ _ _) w
  | _ => rw [hop] at ho; exact ho.elim

theorem fine_results (fn : Func) (t : Array Value) : Fine P (results fn t) := by
  unfold results
  refine Fine.bind (fine_mapM_array _ (fun r => ?_) _) fun _ => Fine.pure _
  cases r with
  | tmp x => exact Fine.pure _
  | cell a ty => exact Fine.bind (fine_asAddr _) fun _ => fine_loadVar _ _
end Go.Fi

/-
  A goroutine's own step that the simulation bears: the same in whatever company, on whatever tape that answers alike.
-/
namespace Go.Fi
open Go.Sim
open Go.Conc (G)
variable {P : Program} {Shd : Nat → Prop} {R : BR}

/-- What is known of an own step. -/
structure Co (P : Program) (fr : Frame) (cs : List Frame) (w : World) (fr' : Frame) (cs' : List Frame) (w' : World) : Prop where
  size : w.heap.size ≤ w'.heap.size
  tape : w'.tape = w.tape
  os : w'.os = w.os
  output : w'.output = w.output
  drawn : w.drawn ≤ w'.drawn
  go : ∀ K main τ d, (∀ j q, j < w'.drawn - w.drawn → τ (d + j) q = w.tape (w.drawn + j) q) → ∃ es, stepG P main (G fr (cs ++ K)) (w.td τ d) = .go (G fr' (cs' ++ K)) (w'.td τ (d + (w'.drawn - w.drawn))) es ∧ ∀ e ∈ es, EvF w'.heap.size e

theorem bare_go {s : GStep} {g : Goroutine} {w : World} (h : s.bare = .go g w) : ∃ es, s = .go g w es := by
  cases s <;> simp [GStep.bare] at h
  obtain ⟨rfl, rfl⟩ := h
  exact ⟨_, rfl⟩

theorem Co.pure {fr fr' : Frame} {cs cs' : List Frame} {w : World} (h : ∀ K main (w : World), stepG P main (G fr (cs ++ K)) w = .go (G fr' (cs' ++ K)) w) : Co P fr cs w fr' cs' w :=
  ⟨Nat.le_refl _, rfl, rfl, rfl, Nat.le_refl _, fun K main τ d _ => ⟨#[], by rw [h]; simp, fun e he => by simp at he⟩⟩

theorem step_co (hS : ∀ b, ¬ Shd b) (hZ : ZeroOK P) {fr Fr c0 : Frame} {cs Cs : List Frame} {w W : World} (h : FR P R fr Fr) (hcs : FRs P R cs Cs) (hw : WR P Shd R w W)
    (ht : ∀ j q, w.tape (w.drawn + j) q = W.tape (W.drawn + j) q) (hn : fr.mode = .returning → cs ≠ []) {fr' : Frame} {cs' : List Frame} {w' : World}
    (hs : (stepG P true (G fr (cs ++ [c0])) w).bare = .go (G fr' (cs' ++ [c0])) w') (hp : ∀ ch, fr'.mode ≠ .panicking ch) : Co P fr cs w fr' cs' w' := by
  have same : ∀ (fr2 : Frame), (∀ K main (w : World), stepG P main (G fr (cs ++ K)) w = .go (G fr2 (cs ++ K)) w) → Co P fr cs w fr' cs' w' := by
    intro fr2 e
    rw [e] at hs
    obtain ⟨rfl, rfl, rfl⟩ := G_inj hs
    exact Co.pure e
  have dead : ∀ {o : Outcome} {w2 : World}, (stepG P true (G fr (cs ++ [c0])) w).bare = .ended o w2 → Co P fr cs w fr' cs' w' := by
    intro o w2 e
    rw [e] at hs; cases hs
  rcases h.modes with hm | hm
  · have hi := h.items
    cases hd : fr.todo with
    | nil => exact same { fr with mode := .returning } fun K main w => by simp [stepG, stepG.exec, G, hm, hd, h.round]
    | cons it k =>
      rw [hd] at hi
      have h0 := hi it (List.mem_cons_self ..)
      cases it with
      | inBlock i => exact same { fr with todo := k } fun K main w => by simp [stepG, stepG.exec, G, hm, hd]
      | inScope c => exact same { fr with todo := k } fun K main w => by simp [stepG, stepG.exec, G, hm, hd]
      | inLoop c => exact same { fr with todo := .code c :: .inLoop c :: k } fun K main w => by simp [stepG, stepG.exec, G, hm, hd]
      | code c =>
        cases c with
        | ret => exact same { fr with mode := .returning } fun K main w => by simp [stepG, stepG.exec, G, hm, hd, h.round]
        | skip => exact same { fr with todo := k } fun K main w => by simp [stepG, stepG.exec, G, hm, hd]
        | label l => exact same { fr with todo := k } fun K main w => by simp [stepG, stepG.exec, G, hm, hd]
        | seq a b => exact same { fr with todo := .code a :: .code b :: k } fun K main w => by simp [stepG, stepG.exec, G, hm, hd]
        | block i c => exact same { fr with todo := .code c :: .inBlock i :: k } fun K main w => by simp [stepG, stepG.exec, G, hm, hd]
        | scope c => exact same { fr with todo := .code c :: .inScope c :: k } fun K main w => by simp [stepG, stepG.exec, G, hm, hd]
        | loop c => exact same { fr with todo := .code c :: .inLoop c :: k } fun K main w => by simp [stepG, stepG.exec, G, hm, hd]
        | exit i =>
          cases he : exitTo i k with
          | some k' => exact same { fr with todo := k' } fun K main w => by simp [stepG, stepG.exec, G, hm, hd, he]
          | none => exact dead (w2 := w) (by simp [stepG, stepG.exec, G, hm, hd, he, h.round]; rfl)
        | cond c a b =>
          have hv := h.eval c h0.1
          generalize hx : fr.eval c = v at hv
          generalize Fr.eval c = V at hv
          cases hv with
          | bool t => exact same { fr with todo := .code (if t then a else b) :: k } fun K main w => by simp [stepG, stepG.exec, G, hm, hd, hx]
          | _ => exact dead (w2 := w) (by simp [stepG, stepG.exec, G, hm, hd, hx]; rfl)
        | region i ops draw =>
          cases draw with
          | false => exact same { fr with todo := .inRegion ops (List.range ops.size) :: k } fun K main w => by simp [stepG, stepG.exec, G, hm, hd]
          | true =>
            have e : ∀ K main (w : World), stepG P main (G fr (cs ++ K)) w = .go (G { fr with todo := .inRegion ops (Region.schedule (P.follows .mixedOrders) ops (w.tape w.drawn (.order fr.fn i))) :: k } (cs ++ K)) { w with drawn := w.drawn + 1 } := by
              intro K main w
              simp [stepG, stepG.exec, G, hm, hd, choose, Sem.run, Question.forced, Question.cut]
            rw [e] at hs
            obtain ⟨rfl, rfl, rfl⟩ := G_inj hs
            refine ⟨Nat.le_refl _, rfl, rfl, rfl, Nat.le_succ _, fun K main τ d hτ => ⟨#[], ?_, fun e he => by simp at he⟩⟩
            have t0 := hτ 0 (.order fr.fn i) (by show 0 < w.drawn + 1 - w.drawn; omega)
            simp only [Nat.add_zero] at t0
            rw [e]
            have e2 : (w.td τ d).tape (w.td τ d).drawn (.order fr.fn i) = w.tape w.drawn (.order fr.fn i) := t0
            rw [e2]
            congr 1
            show ({ w.td τ d with drawn := d + 1 } : World) = ({ w with drawn := w.drawn + 1 } : World).td τ (d + (w.drawn + 1 - w.drawn))
            rw [show d + (w.drawn + 1 - w.drawn) = d + 1 by omega]
            rfl
        | _ => exact h0.elim
      | inRegion ops todo =>
        cases todo with
        | nil => exact same { fr with todo := k } fun K main w => by simp [stepG, stepG.exec, G, hm, hd]
        | cons i rest =>
          cases hwt : ((ops[i]?).map (Region.wanted · (yielded ops fr.tmps))).getD false with
          | false => exact same (fr.finish Go.undef) fun K main w => by simp [stepG, stepG.exec, G, hm, hd, hwt]
          | true =>
            cases ho : ops[i]? with
            | none => rw [ho] at hwt; cases hwt
            | some o =>
              have hop : OpOK P o.op := h0 o (Array.mem_of_getElem? ho)
              have er : fr.oper? = some o := by simp [Frame.oper?, hd, ho]
              have hfk := fk_execOp (f := fr.eval) (g := Fr.eval) (fun x hx => h.eval x hx) o hop hw ht
              have fin : ∀ {a : Next} {w1 : World} {fr2 : Frame} {cs2 : List Frame}, (execOp fr.eval o).run P w = .ok a w1 →
                  (∀ K main (w w1 : World), (execOp fr.eval o).run P w = .ok a w1 → stepG P main (G fr (cs ++ K)) w = .go (G fr2 (cs2 ++ K)) w1 (seen P fr.fn ((execOp fr.eval o).events P w #[]))) → Co P fr cs w fr' cs' w' := by
                intro a w1 fr2 cs2 hr e
                rw [e _ _ _ _ hr] at hs
                obtain ⟨rfl, rfl, rfl⟩ := G_inj hs
                have q := hfk a w1 hr
                refine ⟨q.size, q.tape, q.os, q.output, q.drawn, fun K main τ d hτ => ?_⟩
                obtain ⟨r1, r2⟩ := q.shift τ d hτ
                exact ⟨_, e K main _ _ r1, fun ev he => r2 ev (Conc.mem_seen he)⟩
              have hsm := sim_execOp (Shd := Shd) hS hZ (f := fr.eval) (g := Fr.eval) (fun x hx => h.eval x hx) (fun _ => rfl) (fun _ => rfl) o hop w W hw ht
              cases hr : (execOp fr.eval o).run P w with
              | halt x w1 =>
                have hx := hsm.1 _ _ hr
                cases x with
                | panic v =>
                  have e : (stepG P true (G fr (cs ++ [c0])) w).bare = .go (G (fr.raise [{ v, recovered := false }]) (cs ++ [c0])) w1 := by simp [stepG, stepG.exec, G, hm, hd, hwt, stepG.oper, er, h.round, stepG.apply, hr, h.kind]
                  rw [e] at hs
                  obtain ⟨rfl, rfl, rfl⟩ := G_inj hs
                  obtain ⟨ch, hc⟩ := raise_mode fr [{ v, recovered := false }]
                  exact absurd hc (hp ch)
                | stuck t => exact dead (w2 := w1) (by simp [stepG, stepG.exec, G, hm, hd, hwt, stepG.oper, er, h.round, stepG.apply, hr, h.kind]; rfl)
                | unsupported u =>
                  cases u with
                  | initOrder _ => exact hx.elim
                  | _ => exact dead (w2 := w1) (by simp [stepG, stepG.exec, G, hm, hd, hwt, stepG.oper, er, h.round, stepG.apply, hr, h.kind]; rfl)
                | _ => exact hx.elim
              | ok a w1 =>
                obtain ⟨R', b, W', -, q, -⟩ := hsm.2 _ _ hr
                cases q with
                | value hv =>
                  rename_i v V
                  exact fin (fr2 := fr.finish v) (cs2 := cs) hr fun K main w w1 hr => by simp [stepG, stepG.exec, G, hm, hd, hwt, stepG.oper, er, h.round, stepG.apply, hr, h.kind, GStep.after]
                | skip => exact fin (fr2 := fr.finish Go.undef) (cs2 := cs) hr fun K main w w1 hr => by simp [stepG, stepG.exec, G, hm, hd, hwt, stepG.oper, er, h.round, stepG.apply, hr, h.kind, GStep.after]
                | enter f hf hv =>
                  rename_i x X
                  exact fin (fr2 := Frame.enter P f x .normal) (cs2 := fr :: cs) hr fun K main w w1 hr => by simp [stepG, stepG.exec, G, hm, hd, hwt, stepG.oper, er, h.round, stepG.apply, hr, h.kind, GStep.after]
      | _ => exact h0.elim
  · obtain ⟨fn, hf⟩ := h.func
    cases cs with
    | nil => exact absurd rfl (hn hm)
    | cons c cs =>
      have hfk := Fine.fk (P := P) (fine_results fn fr.tmps) w
      cases hr : (results fn fr.tmps).run P w with
      | halt x w1 =>
        cases x with
        | stuck t => exact dead (w2 := w1) (by simp [stepG, G, hm, unwind, h.defers, hf, hr]; rfl)
        | _ => exact dead (w2 := w1) (by simp [stepG, G, hm, unwind, h.defers, hf, hr]; rfl)
      | ok v w1 =>
        have e : ∀ K main (w w1 : World), (results fn fr.tmps).run P w = .ok v w1 → stepG P main (G fr (c :: cs ++ K)) w = .go (G (c.finish v) (cs ++ K)) w1 (seen P fr.fn ((results fn fr.tmps).events P w #[])) := fun K main w w1 hr => by simp [stepG, G, hm, unwind, h.defers, hf, hr, doReturn, h.kind, GStep.after]
        rw [e _ _ _ _ hr] at hs
        obtain ⟨rfl, rfl, rfl⟩ := G_inj hs
        have q := hfk v w1 hr
        refine ⟨q.size, q.tape, q.os, q.output, q.drawn, fun K main τ d hτ => ?_⟩
        obtain ⟨r1, r2⟩ := q.shift τ d hτ
        exact ⟨_, e K main _ _ r1, fun ev he => r2 ev (Conc.mem_seen he)⟩
end Go.Fi
