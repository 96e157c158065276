/-
  proofs: its code, its first loop.
-/
import Derived.Test.YtlndinigbppafaaPsE
namespace Go.Proofs.Ytlndinigbppafaa
open Go.Sim Go.Conc

def r46_0 : Array Oper :=
  #[{ dst := some 4, op := .assign (.const (.slice none 0 0)), type := 23, pos := "log.go:123", after := #[], guard := none }]
def r46_1 : Array Oper :=
  #[{ dst := some 11, op := .move (.tmp 1), type := 3, pos := "log.go:124", after := #[], guard := none },
    { dst := some 12, op := .makeSlice 106 (.tmp 11) (.tmp 11), type := 106, pos := "log.go:124", after := #[{ on := 0, ground := .data }, { on := 0, ground := .data }], guard := none },
    { dst := some 5, op := .assign (.tmp 12), type := 106, pos := "log.go:124", after := #[{ on := 1, ground := .data }, { on := 0, ground := .phase }, { on := 1, ground := .phase }], guard := none }]
def r46_2 : Array Oper :=
  #[{ dst := some 13, op := .move (.tmp 5), type := 106, pos := "log.go:125", after := #[], guard := none },
    { dst := some 14, op := .call { callee := .builtin .len, args := #[.tmp 13], argTypes := #[106] }, type := 3, pos := "log.go:125", after := #[{ on := 0, ground := .data }], guard := none },
    { dst := some 15, op := .move (.const (.int .i64 0)), type := 3, pos := "log.go:125", after := #[], guard := none }]
def r46_3 : Array Oper :=
  #[{ dst := some 16, op := .binOp .lss 3 (.tmp 15) (.tmp 14) 3, type := 0, pos := "log.go:125", after := #[], guard := none }]
def r46_4 : Array Oper :=
  #[{ dst := some 17, op := .move (.tmp 15), type := 3, pos := "log.go:125", after := #[], guard := none },
    { dst := some 6, op := .assign (.tmp 17), type := 3, pos := "log.go:125", after := #[{ on := 0, ground := .data }, { on := 0, ground := .phase }], guard := none }]
def r46_5 : Array Oper :=
  #[{ dst := some 18, op := .move (.tmp 5), type := 106, pos := "log.go:126", after := #[], guard := none },
    { dst := some 19, op := .move (.tmp 6), type := 3, pos := "log.go:126", after := #[], guard := none },
    { dst := some 20, op := .move (.tmp 0), type := 84, pos := "log.go:126", after := #[], guard := none },
    { dst := some 21, op := .move (.tmp 6), type := 3, pos := "log.go:126", after := #[], guard := none },
    { dst := some 22, op := .move (.tmp 1), type := 3, pos := "log.go:126", after := #[], guard := none },
    { dst := some 23, op := .call { callee := .value (.func 64), args := #[.tmp 20, .tmp 21, .tmp 22], argTypes := #[84, 3, 3] }, type := 107, pos := "log.go:126", after := #[{ on := 2, ground := .data }, { on := 3, ground := .data }, { on := 4, ground := .data }], guard := none },
    { dst := some 24, op := .indexAddr 106 (.tmp 18) (.tmp 19), type := 0, pos := "log.go:126", after := #[{ on := 0, ground := .data }, { on := 1, ground := .data }, { on := 0, ground := .phase }, { on := 1, ground := .phase }, { on := 2, ground := .phase }, { on := 3, ground := .phase }, { on := 4, ground := .phase }, { on := 5, ground := .phase }], guard := none },
    { dst := none, op := .store 107 (.tmp 24) (.tmp 23), type := 0, pos := "log.go:126", after := #[{ on := 6, ground := .data }, { on := 5, ground := .data }, { on := 5, ground := .chain }, { on := 0, ground := .phase }, { on := 1, ground := .phase }, { on := 2, ground := .phase }, { on := 3, ground := .phase }, { on := 4, ground := .phase }, { on := 5, ground := .phase }], guard := none }]
def r46_6 : Array Oper :=
  #[{ dst := some 25, op := .binOp .add 3 (.tmp 15) (.const (.int .i64 1)) 3, type := 3, pos := "log.go:125", after := #[], guard := none },
    { dst := some 15, op := .move (.tmp 25), type := 3, pos := "log.go:125", after := #[{ on := 0, ground := .data }], guard := none }]
def r46_7 : Array Oper :=
  #[{ dst := some 26, op := .move (.tmp 1), type := 3, pos := "log.go:128", after := #[], guard := none },
    { dst := some 27, op := .makeSlice 23 (.const (.int .i64 0)) (.tmp 26), type := 23, pos := "log.go:128", after := #[{ on := 0, ground := .data }], guard := none },
    { dst := some 7, op := .assign (.tmp 27), type := 23, pos := "log.go:128", after := #[{ on := 1, ground := .data }, { on := 0, ground := .phase }, { on := 1, ground := .phase }], guard := none }]
def r46_8 : Array Oper :=
  #[{ dst := some 28, op := .move (.tmp 5), type := 106, pos := "log.go:129", after := #[], guard := none },
    { dst := some 29, op := .call { callee := .builtin .len, args := #[.tmp 28], argTypes := #[106] }, type := 3, pos := "log.go:129", after := #[{ on := 0, ground := .data }], guard := none },
    { dst := some 30, op := .move (.const (.int .i64 0)), type := 3, pos := "log.go:129", after := #[], guard := none }]
def r46_9 : Array Oper :=
  #[{ dst := some 31, op := .binOp .lss 3 (.tmp 30) (.tmp 29) 3, type := 0, pos := "log.go:129", after := #[], guard := none }]
def r46_10 : Array Oper :=
  #[{ dst := some 32, op := .indexAddr 106 (.tmp 28) (.tmp 30), type := 0, pos := "log.go:129", after := #[], guard := none },
    { dst := some 33, op := .load 107 (.tmp 32), type := 107, pos := "log.go:129", after := #[{ on := 0, ground := .data }], guard := none },
    { dst := some 9, op := .assign (.tmp 33), type := 107, pos := "log.go:129", after := #[{ on := 1, ground := .data }, { on := 0, ground := .phase }, { on := 1, ground := .phase }], guard := none }]
def r46_11 : Array Oper :=
  #[{ dst := some 34, op := .move (.tmp 9), type := 107, pos := "log.go:130", after := #[], guard := none }]
def r46_12 : Array Oper :=
  #[{ dst := some 35, op := .recv 107 (.tmp 34) true, type := 0, pos := "log.go:130", after := #[], guard := none },
    { dst := some 36, op := .extract (.tmp 35) 1, type := 4, pos := "log.go:130", after := #[{ on := 0, ground := .data }], guard := none }]
def r46_13 : Array Oper :=
  #[{ dst := some 37, op := .extract (.tmp 35) 0, type := 24, pos := "log.go:130", after := #[], guard := none },
    { dst := some 10, op := .assign (.tmp 37), type := 24, pos := "log.go:130", after := #[{ on := 0, ground := .data }, { on := 0, ground := .phase }], guard := none }]
def r46_14 : Array Oper :=
  #[{ dst := some 38, op := .move (.tmp 7), type := 23, pos := "log.go:131", after := #[], guard := none },
    { dst := some 39, op := .move (.tmp 10), type := 24, pos := "log.go:131", after := #[], guard := none },
    { dst := some 40, op := .buildSlice 23 1 #[(0, .tmp 39)], type := 23, pos := "log.go:131", after := #[{ on := 1, ground := .data }], guard := none },
    { dst := some 41, op := .call { callee := .builtin .append, args := #[.tmp 38, .tmp 40], argTypes := #[23, 23] }, type := 23, pos := "log.go:131", after := #[{ on := 0, ground := .data }, { on := 2, ground := .data }], guard := none },
    { dst := some 7, op := .assign (.tmp 41), type := 23, pos := "log.go:131", after := #[{ on := 3, ground := .data }, { on := 3, ground := .chain }, { on := 0, ground := .phase }, { on := 1, ground := .phase }, { on := 2, ground := .phase }, { on := 3, ground := .phase }], guard := none }]
def r46_15 : Array Oper :=
  #[{ dst := some 42, op := .binOp .add 3 (.tmp 30) (.const (.int .i64 1)) 3, type := 3, pos := "log.go:129", after := #[], guard := none },
    { dst := some 30, op := .move (.tmp 42), type := 3, pos := "log.go:129", after := #[{ on := 0, ground := .data }], guard := none }]
def r46_16 : Array Oper :=
  #[{ dst := some 43, op := .move (.tmp 7), type := 23, pos := "log.go:134", after := #[], guard := none },
    { dst := some 4, op := .assign (.tmp 43), type := 23, pos := "log.go:134", after := #[{ on := 0, ground := .data }, { on := 0, ground := .phase }], guard := none }]
def L1 : Code := .seq (.region 3 r46_3 false) (.seq (.cond (.tmp 16) .skip (.exit 0)) (.seq (.block 1 (.seq (.region 4 r46_4 false) (.region 5 r46_5 false))) (.region 6 r46_6 false)))
def L3 : Code := .seq (.region 12 r46_12 false) (.seq (.cond (.tmp 36) .skip (.exit 4)) (.block 5 (.seq (.region 13 r46_13 false) (.region 14 r46_14 false))))
def L2 : Code := .seq (.region 9 r46_9 false) (.seq (.cond (.tmp 31) .skip (.exit 2)) (.seq (.block 3 (.seq (.region 10 r46_10 false) (.seq (.region 11 r46_11 false) (.block 4 (.loop L3))))) (.region 15 r46_15 false)))
def c46 : Code := .seq (.region 0 r46_0 false) (.seq (.region 1 r46_1 false) (.seq (.seq (.region 2 r46_2 false) (.block 0 (.loop L1))) (.seq (.region 7 r46_7 false) (.seq (.seq (.region 8 r46_8 false) (.block 2 (.loop L2))) (.seq (.region 16 r46_16 false) .ret)))))
theorem body46 : Try.f46.body = some c46 := rfl

/-- The frame in the first loop, and in the second. -/
def aL1 (ver : Value) (N ch : Nat) (i : Int) (x6 x16 x17 x18 x19 x20 x21 x22 x23 x24 x25 : Value) : Act :=
  ⟨#[ver, .int .i64 N, undef, undef, .slice none 0 0, .slice (some ⟨ch, 0, none⟩) N N, x6, undef, undef, undef, undef, .int .i64 N, .slice (some ⟨ch, 0, none⟩) N N, .slice (some ⟨ch, 0, none⟩) N N, .int .i64 N, .int .i64 i, x16, x17, x18, x19, x20, x21, x22, x23, x24, x25, undef, undef, undef, undef, undef, undef, undef, undef, undef, undef, undef, undef, undef, undef, undef, undef, undef, undef], []⟩
def aL2 (ver : Value) (N ch ga m : Nat) (j : Int) (x6 x15 x16 x17 x18 x19 x20 x21 x22 x23 x24 x25 y9 y10 y31 y32 y33 y34 y35 y36 y37 y38 y39 y40 y41 y42 : Value) : Act :=
  ⟨#[ver, .int .i64 N, undef, undef, .slice none 0 0, .slice (some ⟨ch, 0, none⟩) N N, x6, .slice (some ⟨ga, 0, none⟩) m N, undef, y9, y10, .int .i64 N, .slice (some ⟨ch, 0, none⟩) N N, .slice (some ⟨ch, 0, none⟩) N N, .int .i64 N, x15, x16, x17, x18, x19, x20, x21, x22, x23, x24, x25, .int .i64 N, .slice (some ⟨ga, 0, none⟩) 0 N, .slice (some ⟨ch, 0, none⟩) N N, .int .i64 N, .int .i64 j, y31, y32, y33, y34, y35, y36, y37, y38, y39, y40, y41, y42, undef], []⟩

/-- The channels so far, and what is gathered so far. -/
def chArr (cs : List (Nat × Nat)) (N : Nat) : Array Value := (cs.map (fun p : Nat × Nat => Value.chan (some p.1)) ++ List.replicate (N - cs.length) (Value.chan none)).toArray
def gaArr (vs : List Value) (N : Nat) : Array Value := (vs ++ List.replicate (N - vs.length) (Value.slice none 0 0)).toArray
theorem chArr_nil (N : Nat) : chArr [] N = Array.replicate N (.chan none) := by simp [chArr]
theorem gaArr_nil (N : Nat) : gaArr [] N = Array.replicate N (.slice none 0 0) := by simp [gaArr]
theorem pad_set {α : Type} (l : List α) (n : Nat) (z v : α) (h : l.length < n) : (l ++ List.replicate (n - l.length) z).set l.length v = (l ++ [v]) ++ List.replicate (n - (l ++ [v]).length) z := by
  rw [List.set_append_right _ _ (Nat.le_refl _)]
  obtain ⟨m, hm⟩ : ∃ m, n - l.length = m + 1 := ⟨n - l.length - 1, by omega⟩
  have h2 : n - (l ++ [v]).length = m := by simp; omega
  rw [hm, h2]
  simp [List.replicate_succ]
theorem chArr_set {cs : List (Nat × Nat)} {N c bc : Nat} (h : cs.length < N) : (chArr cs N).setIfInBounds cs.length (.chan (some c)) = chArr (cs ++ [(c, bc)]) N := by
  unfold chArr
  have := pad_set (cs.map fun p => Value.chan (some p.1)) N (.chan none) (.chan (some c)) (by simpa using h)
  simp only [List.length_map] at this
  rw [List.setIfInBounds_toArray, this]
  simp
theorem gaArr_set {vs : List Value} {N : Nat} {V : Value} (h : vs.length < N) : (gaArr vs N).setIfInBounds vs.length V = gaArr (vs ++ [V]) N := by
  unfold gaArr
  rw [List.setIfInBounds_toArray, pad_set _ _ _ _ h]
theorem chArr_size {cs : List (Nat × Nat)} {N : Nat} (h : cs.length ≤ N) : (chArr cs N).size = N := by simp [chArr]; omega
theorem gaArr_size {vs : List Value} {N : Nat} (h : vs.length ≤ N) : (gaArr vs N).size = N := by simp [gaArr]; omega

/-- The boxes of the children are there. -/
def FB (s : St) (w : World) : Prop := ∀ b, s.rd b → b < w.heap.size
theorem fb_stab {PB : Nat → Prop} {s : St} : Stab PB s (FB s) := fun _ _ h hR b hb => Nat.lt_of_lt_of_le (h b hb) hR.size

theorem wrap_nat {n : Nat} (h : n < 2 ^ 62) : IntKind.i64.wrap ((n : Int) + 1) = ((n + 1 : Nat) : Int) := by rw [IntKind.wrap_i64]; omega

section
variable {ver : Value} {N : Nat} {Fin : St → (Nat → Prop) → Goroutine → World → Prop} {s : St} {PB : Nat → Prop} {k : List Item} {cs : List Frame} {ch : Nat}

theorem ok_ch (hch : PB ch) (hPB : ∀ b, PB b → b = ch) {ob : Obj} : Ok PB s (And1 (FB s) ch ob) := by
  refine ⟨fun w w₁ hw hR => ⟨fb_stab w w₁ hw.1 hR, by rw [hR.keep ch (.inl hch)]; exact hw.2⟩, fun w hw b hb => ?_⟩
  rcases hb with hb | hb
  · rw [hPB b hb]; exact (Array.getElem?_eq_some_iff.1 hw.2).1
  · exact hw.1 b hb

theorem hk46 : (base 46).kind ≠ .early := by intro h; cases h

/-- THE FIRST LOOP: a child for each. -/
theorem loop1 (hch : PB ch) (hPB : ∀ b, PB b → b = ch) (hver : ver.cells = #[ver]) (hN : N < 2 ^ 40)
    (hK : ∀ (s : St) (x6 x16 x17 x18 x19 x20 x21 x22 x23 x24 x25 : Value), s.cs.length = N → s.cur = 0 → s.got = false → s.vs = [] → ¬ s.rd ch → At ver N Fin s PB (And1 (FB s) ch (.cells (chArr s.cs N) 107)) (G ((base 46).at (aL1 ver N ch (N) x6 x16 x17 x18 x19 x20 x21 x22 x23 x24 x25) k) cs)) :
    ∀ (m : Nat) (s : St) (x6 x16 x17 x18 x19 x20 x21 x22 x23 x24 x25 : Value), s.cs.length + m = N → s.cur = 0 → s.got = false → s.vs = [] → ¬ s.rd ch →
      At ver N Fin s PB (And1 (FB s) ch (.cells (chArr s.cs N) 107)) (G ((base 46).at (aL1 ver N ch (s.cs.length) x6 x16 x17 x18 x19 x20 x21 x22 x23 x24 x25) (.code L1 :: .inLoop L1 :: .inBlock 0 :: k)) cs) := by
  intro m
  induction m with
  | zero =>
    intro s x6 x16 x17 x18 x19 x20 x21 x22 x23 x24 x25 hs h1 h2 h3 h4
    have O := ok_ch (s := s) (ob := .cells (chArr s.cs N) 107) hch hPB
    have hN' : s.cs.length = N := by omega
    refine At.seq O.stab (At.region (a' := (aL1 ver N ch (s.cs.length) x6 (.bool (decide ((s.cs.length : Int) < (N : Int)))) x17 x18 x19 x20 x21 x22 x23 x24 x25)) O.stab hk46 rfl ?_)
    rw [show decide ((s.cs.length : Int) < (N : Int)) = false by simp; omega]
    refine At.seq O.stab (At.cond (t := false) O.stab rfl ?_)
    refine At.exit (k' := k) O.stab rfl ?_
    rw [hN']
    exact hK s _ _ _ _ _ _ _ _ _ _ _ hN' h1 h2 h3 h4
  | succ m ih =>
    intro s x6 x16 x17 x18 x19 x20 x21 x22 x23 x24 x25 hs h1 h2 h3 h4
    have O := ok_ch (s := s) (ob := .cells (chArr s.cs N) 107) hch hPB
    have hlt : s.cs.length < N := by omega
    refine At.seq O.stab (At.region (a' := (aL1 ver N ch (s.cs.length) x6 (.bool (decide ((s.cs.length : Int) < (N : Int)))) x17 x18 x19 x20 x21 x22 x23 x24 x25)) O.stab hk46 rfl ?_)
    rw [show decide ((s.cs.length : Int) < (N : Int)) = true by simp; omega]
    refine At.seq O.stab (At.cond (t := true) O.stab rfl (At.skip O.stab ?_))
    refine At.seq O.stab (At.block O.stab (At.seq O.stab ?_))
    refine At.region (a' := (aL1 ver N ch (s.cs.length) (.int .i64 s.cs.length) (.bool true) (.int .i64 s.cs.length) x18 x19 x20 x21 x22 x23 x24 x25)) O.stab hk46 rfl ?_
    refine At.into O.stab (At.pures (l := [0, 1, 2, 3, 4]) (rest := [5, 6, 7]) (a' := (aL1 ver N ch (s.cs.length) (.int .i64 s.cs.length) (.bool true) (.int .i64 s.cs.length) (.slice (some ⟨ch, 0, none⟩) N N) (.int .i64 s.cs.length) ver (.int .i64 s.cs.length) (.int .i64 N) x23 x24 x25)) O.stab hk46 rfl ?_)
    refine At.call (o := r46_5[5]) O.stab hk46 rfl rfl rfl Try.func64 (by simp [Try.f64]) body64 ?_
    have hst := start_at (Fin := Fin) (ops := r46_5) (j := 5) (rest := [6, 7]) (k := .inBlock 1 :: .code (.region 6 r46_6 false) :: .inLoop L1 :: .inBlock 0 :: k) (cs := cs) (b₀ := base 46) (a₀ := (aL1 ver N ch (s.cs.length) (.int .i64 s.cs.length) (.bool true) (.int .i64 s.cs.length) (.slice (some ⟨ch, 0, none⟩) N N) (.int .i64 s.cs.length) ver (.int .i64 s.cs.length) (.int .i64 N) x23 x24 x25)) O hlt hver fun c bc hbc => ?_
    · have e : (#[.tmp 20, .tmp 21, .tmp 22] : Array Operand).map (aL1 ver N ch (s.cs.length) (.int .i64 s.cs.length) (.bool true) (.int .i64 s.cs.length) (.slice (some ⟨ch, 0, none⟩) N N) (.int .i64 s.cs.length) ver (.int .i64 s.cs.length) (.int .i64 N) x23 x24 x25).eval ++ Array.replicate (Try.f64.ntmps - ((#[.tmp 20, .tmp 21, .tmp 22] : Array Operand).map (aL1 ver N ch (s.cs.length) (.int .i64 s.cs.length) (.bool true) (.int .i64 s.cs.length) (.slice (some ⟨ch, 0, none⟩) N N) (.int .i64 s.cs.length) ver (.int .i64 s.cs.length) (.int .i64 N) x23 x24 x25).eval).size) undef = #[ver, .int .i64 s.cs.length, .int .i64 N, undef, undef, undef, undef, undef, undef, undef, undef] := by
        simp [aL1, Act.eval, Try.f64]
      rw [e]
      exact hst
    -- behind the call
    have hcb : bc ≠ ch := fun e => hbc (e ▸ hch)
    have hrd : ¬ (s.more c bc).rd ch := fun q => (rd_more.1 q).elim h4 fun e => hcb e.symm
    have O' := ok_ch (s := s.more c bc) (ob := .cells (chArr s.cs N) 107) hch hPB
    have O2 := ok_ch (s := s.more c bc) (ob := .cells (chArr (s.more c bc).cs N) 107) hch hPB
    refine At.mono (F := And1 (FB (s.more c bc)) ch (.cells (chArr s.cs N) 107)) (fun w hw => ⟨fun b hb => ?_, hw.1.2⟩) ?_
    · rcases rd_more.1 hb with hb | rfl
      · exact hw.1.1 b hb
      · exact (Array.getElem?_eq_some_iff.1 hw.2).1
    show At _ _ _ _ _ _ (G ((base 46).at (aL1 ver N ch (s.cs.length) (.int .i64 s.cs.length) (.bool true) (.int .i64 s.cs.length) (.slice (some ⟨ch, 0, none⟩) N N) (.int .i64 s.cs.length) ver (.int .i64 s.cs.length) (.int .i64 N) (.chan (some c)) x24 x25) _) _)
    refine At.val (o := r46_5[6]) (v := .pointer (some ⟨ch, s.cs.length, none⟩)) O'.stab hk46 rfl rfl (fun w => ?_) ?_
    · obtain ⟨q1, q2⟩ := indexAt_run (r := ch) hlt w
      exact ⟨run_v q1, (ev_v q1).trans q2⟩
    show At _ _ _ _ _ _ (G ((base 46).at (aL1 ver N ch (s.cs.length) (.int .i64 s.cs.length) (.bool true) (.int .i64 s.cs.length) (.slice (some ⟨ch, 0, none⟩) N N) (.int .i64 s.cs.length) ver (.int .i64 s.cs.length) (.int .i64 N) (.chan (some c)) (.pointer (some ⟨ch, s.cs.length, none⟩)) x25) _) _)
    refine At.store (o := r46_5[7]) (r := ch) (off := s.cs.length) (v := .chan (some c)) fb_stab O'.stab hk46 rfl rfl rfl hch hrd rfl rfl Try.size107 rfl rfl (by rw [chArr_size (by omega)]; exact hlt) ?_
    rw [chArr_set (bc := bc) hlt]
    refine At.out O2.stab (At.inBlock O2.stab ?_)
    refine At.region (a' := (aL1 ver N ch (IntKind.i64.wrap ((s.cs.length : Int) + 1)) (.int .i64 s.cs.length) (.bool true) (.int .i64 s.cs.length) (.slice (some ⟨ch, 0, none⟩) N N) (.int .i64 s.cs.length) ver (.int .i64 s.cs.length) (.int .i64 N) (.chan (some c)) (.pointer (some ⟨ch, s.cs.length, none⟩)) (.int .i64 (IntKind.i64.wrap ((s.cs.length : Int) + 1))))) O2.stab hk46 rfl (At.inLoop O2.stab ?_)
    rw [wrap_nat (by omega)]
    have hlen : (s.more c bc).cs.length = s.cs.length + 1 := by simp [St.more]
    rw [← hlen]
    exact ih (s.more c bc) _ _ _ _ _ _ _ _ _ _ _ (by rw [hlen]; omega) h1 h2 h3 hrd
end
end Go.Proofs.Ytlndinigbppafaa
