/-
  Log.Proofs, called by goroutine 0 alone.
-/
import Derived.Test.YtlndinigbppafaaJ39
import Derived.Test.YtlndinigbppafaaChM
namespace Go.Proofs.Ytlndinigbppafaa
open Go.Sim Go.Conc Go.Fi

def r24_0 : Array Oper :=
  #[{ dst := some 4, op := .assign (.const (.slice none 0 0)), type := 23, pos := "log.go:91", after := #[], guard := none },
    { dst := some 5, op := .assign (.const (.int .i64 0)), type := 52, pos := "log.go:91", after := #[{ on := 0, ground := .chain }], guard := none }]
def r24_1 : Array Oper :=
  #[{ dst := some 7, op := .move (.tmp 0), type := 48, pos := "log.go:92", after := #[], guard := none },
    { dst := some 8, op := .move (.tmp 1), type := 3, pos := "log.go:92", after := #[], guard := none },
    { dst := some 9, op := .call { callee := .value (.func 42), args := #[.tmp 7, .tmp 8], argTypes := #[48, 3] }, type := 52, pos := "log.go:92", after := #[{ on := 0, ground := .data }, { on := 1, ground := .data }], guard := none },
    { dst := some 6, op := .assign (.tmp 9), type := 52, pos := "log.go:92", after := #[{ on := 2, ground := .data }, { on := 2, ground := .chain }, { on := 0, ground := .phase }, { on := 1, ground := .phase }, { on := 2, ground := .phase }], guard := none }]
def r24_2 : Array Oper :=
  #[{ dst := some 10, op := .move (.tmp 6), type := 52, pos := "log.go:92", after := #[], guard := none },
    { dst := some 11, op := .binOp .neq 52 (.tmp 10) (.const (.int .i64 0)) 52, type := 4, pos := "log.go:92", after := #[{ on := 0, ground := .data }], guard := none }]
def r24_3 : Array Oper :=
  #[{ dst := some 12, op := .move (.tmp 6), type := 52, pos := "log.go:93", after := #[{ on := 1, ground := .gcOnly .lateStores }], guard := none },
    { dst := some 4, op := .assign (.const (.slice none 0 0)), type := 23, pos := "log.go:93", after := #[{ on := 0, ground := .textOnly .lateStores }], guard := none },
    { dst := some 5, op := .assign (.tmp 12), type := 52, pos := "log.go:93", after := #[{ on := 0, ground := .data }, { on := 1, ground := .chain }, { on := 0, ground := .phase }, { on := 1, ground := .phase }], guard := none }]
def r24_4 : Array Oper :=
  #[{ dst := some 13, op := .move (.tmp 0), type := 48, pos := "log.go:95", after := #[], guard := none },
    { dst := some 14, op := .move (.tmp 1), type := 3, pos := "log.go:95", after := #[], guard := none },
    { dst := some 15, op := .call { callee := .value (.func 44), args := #[.tmp 13, .tmp 14], argTypes := #[48, 3] }, type := 84, pos := "log.go:95", after := #[{ on := 0, ground := .data }, { on := 1, ground := .data }], guard := none },
    { dst := some 16, op := .move (.tmp 1), type := 3, pos := "log.go:95", after := #[], guard := none },
    { dst := some 17, op := .call { callee := .value (.func 46), args := #[.tmp 15, .tmp 16], argTypes := #[84, 3] }, type := 23, pos := "log.go:95", after := #[{ on := 2, ground := .data }, { on := 3, ground := .data }, { on := 2, ground := .chain }], guard := none },
    { dst := some 4, op := .assign (.tmp 17), type := 23, pos := "log.go:95", after := #[{ on := 4, ground := .data }, { on := 4, ground := .chain }, { on := 0, ground := .phase }, { on := 1, ground := .phase }, { on := 2, ground := .phase }, { on := 3, ground := .phase }, { on := 4, ground := .phase }], guard := none },
    { dst := some 5, op := .assign (.const (.int .i64 0)), type := 52, pos := "log.go:95", after := #[{ on := 5, ground := .chain }, { on := 0, ground := .phase }, { on := 1, ground := .phase }, { on := 2, ground := .phase }, { on := 3, ground := .phase }, { on := 4, ground := .phase }, { on := 5, ground := .phase }], guard := none }]
def c24 : Code := .seq (.region 0 r24_0 false) (.seq (.seq (.region 1 r24_1 false) (.seq (.region 2 r24_2 false) (.cond (.tmp 11) (.seq (.region 3 r24_3 false) .ret) .skip))) (.seq (.region 4 r24_4 false) .ret))
theorem body24 : Try.f24.body = some c24 := rfl

/-- What was there stands. -/
structure Bel (w w' : World) : Prop where
  os : w'.os = w.os
  output : w'.output = w.output
  size : w.heap.size ≤ w'.heap.size
  keep : ∀ b, b < w.heap.size → w'.heap[b]? = w.heap[b]?
theorem Bel.refl (w : World) : Bel w w := ⟨rfl, rfl, Nat.le_refl _, fun _ _ => rfl⟩
theorem Bel.trans {a b c : World} (h : Bel a b) (k : Bel b c) : Bel a c := ⟨k.os.trans h.os, k.output.trans h.output, Nat.le_trans h.size k.size, fun x hx => (k.keep x (Nat.lt_of_lt_of_le hx h.size)).trans (h.keep x hx)⟩
theorem Bel.tp {w w' : World} (h : Bel w w') (τ : Nat → Question → Nat) : Bel w (w'.tp τ) := ⟨h.os, h.output, h.size, h.keep⟩
theorem Bel.of {w w' : World} {τ : Nat → Question → Nat} (h : Go.RowKit.Below (w.tp τ).heap.size (w.tp τ) w') : Bel w w' := ⟨h.os, h.output, h.size, h.block⟩
theorem Sf.bel {D : Nat → Prop} {w w' : World} (h : Sf D w) (hb : Bel w w') : Sf D w' := h.keep hb.size hb.keep

theorem treeV_cells (evs : List ByteArray) (d p : Nat) : (treeV evs d p).cells = #[treeV evs d p] := by
  cases d with
  | zero => rfl
  | succ d => unfold treeV; split <;> rfl
theorem rowB_sl {l : List UInt8} {V : Value} {w : World} (h : RowB l V w) : Sl V := by
  obtain ⟨_, h2⟩ := h
  rcases h2 with ⟨rfl, _⟩ | ⟨g, cap, cur, rfl, _⟩
  · exact ⟨rfl, rfl⟩
  · exact ⟨rfl, rfl⟩

section
variable {Gl : Array Goroutine → World → Option (Nat × Nat) → Trace → Prop}
variable {k : List Item} {cs : List Frame} {ops : Array Oper} {i : Nat} {rest : List Nat} {b₀ : Frame} {a₀ : Act} {w : World}

theorem Can.logProofs {D : Nat → Prop} {b0 B n : Nat} {S : Value} {evs : List ByteArray} (hlog : LogAt w b0 B S evs) (h1 : 1 ≤ n) (h2 : n ≤ evs.length) (hn : evs.length ≤ 65535) (hs : ∀ s ∈ evs, s.size ≤ 255)
    (hlv : Vs D (.pointer (some ⟨B, 0, none⟩))) (hw : Sf D w)
    (hK : ∀ (D' : Nat → Prop) (w' : World) (ga : Nat) (vs : List Value), (∀ b, D b → D' b) → Sf D' w' → Vs D' (.slice (some ⟨ga, 0, none⟩) n n) → Bel w w' → vs.length = n → w.heap.size ≤ ga → w'.heap[ga]? = some (.cells vs.toArray 24) → (∀ (j : Nat) (V : Value), vs[j]? = some V → RowB (memberB (evs.take n) j) V w') →
      Can Gl n (G (b₀.at (a₀.put ((ops[i]?).bind (·.dst)) (.tuple #[.slice (some ⟨ga, 0, none⟩) n n, .int .i64 0])) (.inRegion ops rest :: k)) cs) w') :
    Can Gl 0 (G ((base 24).at (⟨#[.pointer (some ⟨B, 0, none⟩), .int .i64 n, undef, undef, undef, undef, undef, undef, undef, undef, undef, undef, undef, undef, undef, undef, undef, undef], []⟩ : Act) [.code c24]) (b₀.at a₀ (.inRegion ops (i :: rest) :: k) :: cs)) w := by
  generalize hl : Value.pointer (some ⟨B, 0, none⟩) = lv at hlv ⊢
  have hk : (base 24).kind ≠ .early := by intro h; cases h
  refine Can.seq (Can.region (a' := (⟨#[lv, .int .i64 n, undef, undef, .slice none 0 0, .int .i64 0, undef, undef, undef, undef, undef, undef, undef, undef, undef, undef, undef, undef], []⟩ : Act)) hk rfl ?_)
  refine Can.seq (Can.seq (Can.into (Can.pures (l := [0, 1]) (rest := [2, 3]) (a' := (⟨#[lv, .int .i64 n, undef, undef, .slice none 0 0, .int .i64 0, undef, lv, .int .i64 n, undef, undef, undef, undef, undef, undef, undef, undef, undef], []⟩ : Act)) hk rfl ?_)))
  refine Can.callS (o := r24_1[2]) (vs := [lv, .int .i64 n]) (Q := fun v w' => v = .int .i64 0 ∧ Bel w w') hk rfl rfl rfl Try.func42 (by simp [Try.f42, names]) rfl (by simp [Try.f42]) (by simp [Act.eval]) (fun v hv => ?_) hw (fun v w' τ q => ⟨q.1, q.2.tp τ⟩) (fun τ => ?_) ?_
  · simp at hv
    rcases hv with rfl | rfl
    · exact hlv
    · exact Vs.int _ _ _
  · show Calls _ _ #[lv, .int .i64 n] _ _
    rw [← hl]
    refine (check_ok (w.tp τ) b0 B S evs n hlog (by omega) (by omega)).mono fun e w' q => ?_
    obtain ⟨rfl, rfl⟩ := q
    exact ⟨rfl, rfl, rfl, Nat.le_refl _, fun _ _ => rfl⟩
  intro D1 v w1 s1 _ hw1 hq1
  obtain ⟨rfl, hb1⟩ := hq1
  show Can Gl 0 (G ((base 24).at (⟨#[lv, .int .i64 n, undef, undef, .slice none 0 0, .int .i64 0, undef, lv, .int .i64 n, .int .i64 0, undef, undef, undef, undef, undef, undef, undef, undef], []⟩ : Act) _) _) _
  refine Can.pures (l := [3]) (rest := []) (a' := (⟨#[lv, .int .i64 n, undef, undef, .slice none 0 0, .int .i64 0, .int .i64 0, lv, .int .i64 n, .int .i64 0, undef, undef, undef, undef, undef, undef, undef, undef], []⟩ : Act)) hk rfl (Can.out ?_)
  refine Can.seq (Can.region (a' := (⟨#[lv, .int .i64 n, undef, undef, .slice none 0 0, .int .i64 0, .int .i64 0, lv, .int .i64 n, .int .i64 0, .int .i64 0, .bool false, undef, undef, undef, undef, undef, undef], []⟩ : Act)) hk rfl ?_)
  refine Can.cond (t := false) rfl (Can.skip ?_)
  refine Can.seq (Can.into (Can.pures (l := [0, 1]) (rest := [2, 3, 4, 5, 6]) (a' := (⟨#[lv, .int .i64 n, undef, undef, .slice none 0 0, .int .i64 0, .int .i64 0, lv, .int .i64 n, .int .i64 0, .int .i64 0, .bool false, undef, lv, .int .i64 n, undef, undef, undef], []⟩ : Act)) hk rfl ?_))
  have hlog1 : LogAt w1 b0 B S evs := by
    have : LogAt (w1.tp w.tape) b0 B S evs := hlog.below ⟨hb1.os, rfl, hb1.output, hb1.size, hb1.keep⟩
    exact this
  refine Can.callS (o := r24_4[2]) (vs := [lv, .int .i64 n]) (Q := fun v w' => v = treeV (evs.take n) (dep n) 0 ∧ Bel w1 w') hk rfl rfl rfl Try.func44 (by simp [Try.f44, names]) rfl (by simp [Try.f44]) (by simp [Act.eval]) (fun v hv => ?_) hw1 (fun v w' τ q => ⟨q.1, q.2.tp τ⟩) (fun τ => ?_) ?_
  · simp at hv
    rcases hv with rfl | rfl
    · exact hlv.mono s1
    · exact Vs.int _ _ _
  · show Calls _ _ #[lv, .int .i64 n] _ _
    rw [← hl]
    refine (version_any (w1.tp τ) b0 B S evs n n rfl hlog1 h1 h2 hn hs).mono fun e w' q => ?_
    obtain ⟨rfl, q⟩ := q
    exact ⟨rfl, Bel.of q⟩
  intro D2 v w2 s2 _ hw2 hq2
  obtain ⟨rfl, hb2⟩ := hq2
  show Can Gl 0 (G ((base 24).at (⟨#[lv, .int .i64 n, undef, undef, .slice none 0 0, .int .i64 0, .int .i64 0, lv, .int .i64 n, .int .i64 0, .int .i64 0, .bool false, undef, lv, .int .i64 n, treeV (evs.take n) (dep n) 0, undef, undef], []⟩ : Act) _) _) _
  refine Can.pures (l := [3]) (rest := [4, 5, 6]) (a' := (⟨#[lv, .int .i64 n, undef, undef, .slice none 0 0, .int .i64 0, .int .i64 0, lv, .int .i64 n, .int .i64 0, .int .i64 0, .bool false, undef, lv, .int .i64 n, treeV (evs.take n) (dep n) 0, .int .i64 n, undef], []⟩ : Act)) hk rfl ?_
  refine Can.enter (o := r24_4[4]) hk rfl rfl rfl Try.func46 (by simp [Try.f46]) body46 ?_
  have e : (#[.tmp 15, .tmp 16] : Array Operand).map (⟨#[lv, .int .i64 n, undef, undef, .slice none 0 0, .int .i64 0, .int .i64 0, lv, .int .i64 n, .int .i64 0, .int .i64 0, .bool false, undef, lv, .int .i64 n, treeV (evs.take n) (dep n) 0, .int .i64 n, undef], []⟩ : Act).eval ++ Array.replicate (Try.f46.ntmps - ((#[.tmp 15, .tmp 16] : Array Operand).map (⟨#[lv, .int .i64 n, undef, undef, .slice none 0 0, .int .i64 0, .int .i64 0, lv, .int .i64 n, .int .i64 0, .int .i64 0, .bool false, undef, lv, .int .i64 n, treeV (evs.take n) (dep n) 0, .int .i64 n, undef], []⟩ : Act).eval).size) undef = #[treeV (evs.take n) (dep n) 0, .int .i64 n, undef, undef, undef, undef, undef, undef, undef, undef, undef, undef, undef, undef, undef, undef, undef, undef, undef, undef, undef, undef, undef, undef, undef, undef, undef, undef, undef, undef, undef, undef, undef, undef, undef, undef, undef, undef, undef, undef, undef, undef, undef, undef] := by
    simp [Act.eval, Try.f46]
  rw [e]
  have hlen : (evs.take n).length = n := by rw [List.length_take]; omega
  refine Can.proofs (Post := fun j => RowP (memberB (evs.take n) j)) (treeV_cells _ _ _) (by omega) hw2.glob.1 (fun _ _ _ q => rowB_sl q.1) (fun j bc bv bi bn c hj => ?_) fun w' ga vs a hB hd h4 => ?_
  · have := memberC_tree (evs.take n) j (by omega) (by omega) (take_small hs) bc bv bi bn c
    rw [hlen] at this
    exact this
  refine Can.leave1 rfl hd Try.func46 rfl ?_
  rw [h4]
  show Can Gl n (G ((base 24).at (⟨#[lv, .int .i64 n, undef, undef, .slice none 0 0, .int .i64 0, .int .i64 0, lv, .int .i64 n, .int .i64 0, .int .i64 0, .bool false, undef, lv, .int .i64 n, treeV (evs.take n) (dep n) 0, .int .i64 n, .slice (some ⟨ga, 0, none⟩) n n], []⟩ : Act) _) _) _
  refine Can.pures (l := [5, 6]) (rest := []) (a' := (⟨#[lv, .int .i64 n, undef, undef, .slice (some ⟨ga, 0, none⟩) n n, .int .i64 0, .int .i64 0, lv, .int .i64 n, .int .i64 0, .int .i64 0, .bool false, undef, lv, .int .i64 n, treeV (evs.take n) (dep n) 0, .int .i64 n, .slice (some ⟨ga, 0, none⟩) n n], []⟩ : Act)) hk rfl (Can.out (Can.ret ?_))
  refine Can.leave2 rfl rfl Try.func24 rfl ?_
  have sf1 := (hw2.keep hB.size hB.keep).plain
  have sf2 : Sf (fun b => (D2 b ∨ ∃ E, Pl E w' ∧ E b) ∨ b = ga) w' := by
    refine sf1.add (fun b hb => .inl hb) fun b hb => ?_
    rcases hb with hb | rfl
    · exact .inl hb
    · refine .inr ⟨Nat.le_trans hw2.glob.1 hB.new, _, _, _, hB.row, fun v hv => ?_⟩
      obtain ⟨j, hj, rfl⟩ := Array.mem_iff_getElem.1 hv
      obtain ⟨_, E, hE1, hE2⟩ := hB.post j _ (by rw [← List.getElem?_toArray]; exact Array.getElem?_eq_getElem hj)
      exact hE1.mono fun b hb => .inl (.inr ⟨E, hE2, hb⟩)
  exact hK _ w' ga vs (fun b hb => .inl (.inl (s2 b (s1 b hb)))) sf2 (.slice _ _ ⟨⟨rfl, .inr rfl⟩, rfl, rfl, rfl⟩) ((hb1.trans hb2).trans ⟨hB.os, hB.output, hB.size, hB.keep⟩) hB.len (Nat.le_trans (Nat.le_trans hb1.size hb2.size) hB.new) hB.row fun j V hj => (hB.post j V hj).1
end
end Go.Proofs.Ytlndinigbppafaa
