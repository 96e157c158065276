/-
  Texts of ours, joined: SpD, PvA, PvB, PvC, SeA, SeB, SeC, LgA, LgB, LgC, LgD, ArgIn.
-/
import Derived.Test.YtlndinigbppafaaJ52
import Derived.Deep.RegionHeld3
import Derived.Test.YtlndinigbppafaaJ40
import Derived.Test.YtlndinigbppafaaRows
import Derived.ProofKit
import Derived.SliceStrings
/-
  The statements' own side of a log: all proofs of a version, called by goroutine 0 alone: the whole.
-/
namespace Go.Proofs.Ytlndinigbppafaa
open Go.Sim Go.Conc Go.Fi Go.RowKit

theorem fine_v {o : Oper} {ρ : Operand → Value} {m : Sem Value} (h : execOp ρ o = (do pure (.value (← m)))) (hm : Fine Try.prog m) : Fine Try.prog (execOp ρ o) := by rw [h]; exact Fine.bind hm fun _ => Fine.pure _
theorem vs_of_block {D : Nat → Prop} {w : World} {b : Nat} {c : Array Value} {t : TypeId} {f : Nat × Nat} (hw : Sf D w) (hb : Vs D (.pointer (some ⟨b, 0, none⟩))) (hh : w.heap[b]? = some (.cells c t f)) {j : Nat} {v : Value} (hj : c[j]? = some v) : Vs D v := by
  unfold Vs at hb
  cases hb with
  | ptr ha =>
    obtain ⟨hD, _⟩ := ha
    obtain ⟨o, O, e1, e2, hor⟩ := hw.dom b b hD
    rw [hh] at e1 e2
    cases e1; cases e2
    cases hor with
    | cells t hv _ _ => exact hv.2 j v v hj hj
theorem vs_two {D : Nat → Prop} {a b : Value} (ha : Vs D a) (hb : Vs D b) : Vs D (.tuple #[a, b]) := by
  refine VR.tuple rfl fun i v V e1 e2 => ?_
  rw [e1] at e2; cases e2
  match i, e1 with
  | 0, e1 => cases e1; exact ha
  | 1, e1 => cases e1; exact hb

theorem vs_nil' {D : Nat → Prop} : ∀ v ∈ ([] : List Value), Vs D v := fun v hv => by cases hv
theorem vs_cons' {D : Nat → Prop} {a : Value} {l : List Value} (h : Vs D a) (k : ∀ v ∈ l, Vs D v) : ∀ v ∈ a :: l, Vs D v := by
  intro v hv
  rcases List.mem_cons.1 hv with rfl | hv
  · exact h
  · exact k v hv
theorem vs_arr' {D : Nat → Prop} {l : List Value} (h : ∀ v ∈ l, Vs D v) : ∀ v ∈ l.toArray, Vs D v := fun v hv => h v (by simpa using hv)
theorem vs_undef' {D : Nat → Prop} : Vs D undef := VR.undef
set_option maxRecDepth 100000 in
theorem px16_vs {D : Nat → Prop} {C B : Nat} {n e : Int} {l : Value} (h1 : Vs D (.pointer (some ⟨C, 0, none⟩))) (h2 : Vs D (.pointer (some ⟨B, 0, none⟩))) (h3 : Vs D l) : ∀ v ∈ (px16 C B n l e).tmps, Vs D v := by
  have hz : Vs D (.slice none 0 0) := VR.nilSlice 0 0
  have ht : Vs D (.tuple #[l, .int .i64 e]) := vs_two h3 (Vs.int _ _ _)
  unfold px16
  refine vs_arr' ?_
  repeat' first
    | exact vs_nil'
    | exact vs_undef'
    | exact Vs.int _ _ _
    | exact Vs.bool _ _
    | assumption
    | refine vs_cons' ?_ ?_

section
variable {Gl : Array Goroutine → World → Option (Nat × Nat) → Trace → Prop}
variable {k : List Item} {cs : List Frame} {ops : Array Oper} {i : Nat} {rest : List Nat} {b₀ : Frame} {a₀ : Act} {w : World}
theorem Can.conv16 {n : Nat} {b : Frame} {a a' : Act} {k : List Item} {cs : List Frame} {w : World} (h : a = a') (hK : Can Gl n (G (b.at a' k) cs) w) : Can Gl n (G (b.at a k) cs) w := by rw [h]; exact hK

set_option maxRecDepth 100000 in
set_option maxHeartbeats 4000000 in
theorem Can.sideProofs {D : Nat → Prop} {b0 C B : Nat} {n : Int} {S L : Value} {evs : List ByteArray} (h : SideAt w b0 C B S L evs) (hl : evs.length ≤ 500) (hs : ∀ s ∈ evs, s.size ≤ 50) (hlv : Vs D (.pointer (some ⟨C, 0, none⟩))) (hw : Sf D w)
    (hK : ∀ (N : Nat) (D' : Nat → Prop) (v : Value) (w' : World), (∀ b, D b → D' b) → Vs D' v → Sf D' w' → Bel w w' → Can Gl N (G (b₀.at (a₀.put ((ops[i]?).bind (·.dst)) (.tuple #[v, .bool true])) (.inRegion ops rest :: k)) cs) w') :
    Can Gl 0 (G ((base 16).at (⟨#[.pointer (some ⟨C, 0, none⟩), .int .i64 n, undef, undef, undef, undef, undef, undef, undef, undef, undef, undef, undef, undef, undef, undef, undef, undef, undef, undef, undef, undef, undef, undef, undef, undef, undef, undef, undef, undef, undef, undef, undef, undef, undef, undef, undef, undef, undef, undef, undef, undef, undef, undef, undef, undef, undef, undef, undef, undef, undef, undef, undef, undef, undef, undef, undef, undef, undef, undef, undef, undef, undef, undef, undef, undef], []⟩ : Act) [.code c16]) (b₀.at a₀ (.inRegion ops (i :: rest) :: k) :: cs)) w := by
  have hk : (base 16).kind ≠ .early := by intro h; cases h
  have hB : Vs D (.pointer (some ⟨B, 0, none⟩)) := vs_of_block hw hlv h.blk (j := 0) rfl
  rw [c16_eq]
  refine Can.seq (Can.region (a' := (⟨#[.pointer (some ⟨C, 0, none⟩), .int .i64 n, undef, undef, .slice none 0 0, .bool false, undef, undef, undef, undef, undef, undef, undef, undef, undef, undef, undef, undef, undef, undef, undef, undef, undef, undef, undef, undef, undef, undef, undef, undef, undef, undef, undef, undef, undef, undef, undef, undef, undef, undef, undef, undef, undef, undef, undef, undef, undef, undef, undef, undef, undef, undef, undef, undef, undef, undef, undef, undef, undef, undef, undef, undef, undef, undef, undef, undef], []⟩ : Act)) hk (by kernel_rfl) ?_)
  refine Can.seq (Can.into (Can.pures (l := [0]) (rest := [1, 2, 3, 4, 5, 6, 7, 8, 9, 10]) (a' := (⟨#[.pointer (some ⟨C, 0, none⟩), .int .i64 n, undef, undef, .slice none 0 0, .bool false, undef, undef, undef, undef, undef, undef, undef, .pointer (some ⟨C, 0, none⟩), undef, undef, undef, undef, undef, undef, undef, undef, undef, undef, undef, undef, undef, undef, undef, undef, undef, undef, undef, undef, undef, undef, undef, undef, undef, undef, undef, undef, undef, undef, undef, undef, undef, undef, undef, undef, undef, undef, undef, undef, undef, undef, undef, undef, undef, undef, undef, undef, undef, undef, undef, undef], []⟩ : Act)) hk (by kernel_rfl) ?_))
  refine Can.val (o := r16_1[1]) (v := .pointer (some ⟨C, 0, none⟩)) hk rfl rfl (fun w => ⟨by simp [execOp, r16_1, Act.eval], by simp [execOp, r16_1, Act.eval]⟩) ?_
  refine Can.conv16 (a' := (⟨#[.pointer (some ⟨C, 0, none⟩), .int .i64 n, undef, undef, .slice none 0 0, .bool false, undef, undef, undef, undef, undef, undef, undef, .pointer (some ⟨C, 0, none⟩), .pointer (some ⟨C, 0, none⟩), undef, undef, undef, undef, undef, undef, undef, undef, undef, undef, undef, undef, undef, undef, undef, undef, undef, undef, undef, undef, undef, undef, undef, undef, undef, undef, undef, undef, undef, undef, undef, undef, undef, undef, undef, undef, undef, undef, undef, undef, undef, undef, undef, undef, undef, undef, undef, undef, undef, undef, undef], []⟩ : Act)) (by kernel_rfl) ?_
  refine Can.val (o := r16_1[2]) (v := .pointer (some ⟨C, 0, none⟩)) hk rfl rfl (fun w => ⟨by simp [execOp, r16_1, Act.eval, (field16 C w).1], by simp [execOp, r16_1, Act.eval, (field16 C w).2]⟩) ?_
  refine Can.conv16 (a' := (⟨#[.pointer (some ⟨C, 0, none⟩), .int .i64 n, undef, undef, .slice none 0 0, .bool false, undef, undef, undef, undef, undef, undef, undef, .pointer (some ⟨C, 0, none⟩), .pointer (some ⟨C, 0, none⟩), .pointer (some ⟨C, 0, none⟩), undef, undef, undef, undef, undef, undef, undef, undef, undef, undef, undef, undef, undef, undef, undef, undef, undef, undef, undef, undef, undef, undef, undef, undef, undef, undef, undef, undef, undef, undef, undef, undef, undef, undef, undef, undef, undef, undef, undef, undef, undef, undef, undef, undef, undef, undef, undef, undef, undef, undef], []⟩ : Act)) (by kernel_rfl) ?_
  refine Can.fop (o := r16_1[3]) (v := .pointer (some ⟨B, 0, none⟩)) (w' := w) hk rfl rfl (fine_v (by rfl) (fine_loadAt _ _)) ?_ rfl ?_
  · simp [execOp, r16_1, Act.eval, Instr.loadAt, Instr.sureAddr, loadVar, load, Sem.run, h.cells.1]
  refine Can.conv16 (a' := (⟨#[.pointer (some ⟨C, 0, none⟩), .int .i64 n, undef, undef, .slice none 0 0, .bool false, undef, undef, undef, undef, undef, undef, undef, .pointer (some ⟨C, 0, none⟩), .pointer (some ⟨C, 0, none⟩), .pointer (some ⟨C, 0, none⟩), .pointer (some ⟨B, 0, none⟩), undef, undef, undef, undef, undef, undef, undef, undef, undef, undef, undef, undef, undef, undef, undef, undef, undef, undef, undef, undef, undef, undef, undef, undef, undef, undef, undef, undef, undef, undef, undef, undef, undef, undef, undef, undef, undef, undef, undef, undef, undef, undef, undef, undef, undef, undef, undef, undef, undef], []⟩ : Act)) (by kernel_rfl) ?_
  refine Can.pures (l := [4]) (rest := [5, 6, 7, 8, 9, 10]) (a' := (⟨#[.pointer (some ⟨C, 0, none⟩), .int .i64 n, undef, undef, .slice none 0 0, .bool false, undef, undef, undef, undef, undef, undef, undef, .pointer (some ⟨C, 0, none⟩), .pointer (some ⟨C, 0, none⟩), .pointer (some ⟨C, 0, none⟩), .pointer (some ⟨B, 0, none⟩), .int .i64 n, undef, undef, undef, undef, undef, undef, undef, undef, undef, undef, undef, undef, undef, undef, undef, undef, undef, undef, undef, undef, undef, undef, undef, undef, undef, undef, undef, undef, undef, undef, undef, undef, undef, undef, undef, undef, undef, undef, undef, undef, undef, undef, undef, undef, undef, undef, undef, undef], []⟩ : Act)) hk (by kernel_rfl) ?_
  refine Can.enter (o := r16_1[5]) hk rfl rfl rfl Try.func24 (by simp [Try.f24]) body24 ?_
  have e : (#[.tmp 16, .tmp 17] : Array Operand).map (⟨#[.pointer (some ⟨C, 0, none⟩), .int .i64 n, undef, undef, .slice none 0 0, .bool false, undef, undef, undef, undef, undef, undef, undef, .pointer (some ⟨C, 0, none⟩), .pointer (some ⟨C, 0, none⟩), .pointer (some ⟨C, 0, none⟩), .pointer (some ⟨B, 0, none⟩), .int .i64 n, undef, undef, undef, undef, undef, undef, undef, undef, undef, undef, undef, undef, undef, undef, undef, undef, undef, undef, undef, undef, undef, undef, undef, undef, undef, undef, undef, undef, undef, undef, undef, undef, undef, undef, undef, undef, undef, undef, undef, undef, undef, undef, undef, undef, undef, undef, undef, undef], []⟩ : Act).eval ++ Array.replicate (Try.f24.ntmps - ((#[.tmp 16, .tmp 17] : Array Operand).map (⟨#[.pointer (some ⟨C, 0, none⟩), .int .i64 n, undef, undef, .slice none 0 0, .bool false, undef, undef, undef, undef, undef, undef, undef, .pointer (some ⟨C, 0, none⟩), .pointer (some ⟨C, 0, none⟩), .pointer (some ⟨C, 0, none⟩), .pointer (some ⟨B, 0, none⟩), .int .i64 n, undef, undef, undef, undef, undef, undef, undef, undef, undef, undef, undef, undef, undef, undef, undef, undef, undef, undef, undef, undef, undef, undef, undef, undef, undef, undef, undef, undef, undef, undef, undef, undef, undef, undef, undef, undef, undef, undef, undef, undef, undef, undef, undef, undef, undef, undef, undef, undef], []⟩ : Act).eval).size) undef = #[.pointer (some ⟨B, 0, none⟩), .int .i64 n, undef, undef, undef, undef, undef, undef, undef, undef, undef, undef, undef, undef, undef, undef, undef, undef] := by kernel_rfl
  rw [e]
  by_cases hv : 1 ≤ n ∧ n ≤ evs.length
  · obtain ⟨N, rfl⟩ : ∃ N : Nat, n = N := ⟨n.toNat, by omega⟩
    refine Can.logProofs (ops := r16_1) (i := 5) (rest := [6, 7, 8, 9, 10]) h.log (by omega) (by omega) (by omega) (fun s q => by have := hs s q; omega) hB hw fun D1 w1 ga vs d1 sf1 hvs bw hvl hga hrow hpost => ?_
    refine Can.conv16 (a' := (⟨#[.pointer (some ⟨C, 0, none⟩), .int .i64 N, undef, undef, .slice none 0 0, .bool false, undef, undef, undef, undef, undef, undef, undef, .pointer (some ⟨C, 0, none⟩), .pointer (some ⟨C, 0, none⟩), .pointer (some ⟨C, 0, none⟩), .pointer (some ⟨B, 0, none⟩), .int .i64 N, .tuple #[.slice (some ⟨ga, 0, none⟩) N N, .int .i64 0], undef, undef, undef, undef, undef, undef, undef, undef, undef, undef, undef, undef, undef, undef, undef, undef, undef, undef, undef, undef, undef, undef, undef, undef, undef, undef, undef, undef, undef, undef, undef, undef, undef, undef, undef, undef, undef, undef, undef, undef, undef, undef, undef, undef, undef, undef, undef], []⟩ : Act)) (by kernel_rfl) ?_
    refine Can.pures (l := [6, 7, 8, 9, 10]) (rest := []) (a' := px16 C B N (.slice (some ⟨ga, 0, none⟩) N N) 0) hk (by kernel_rfl) (Can.out ?_)
    refine Can.restK (Q := fun v w' => v = .tuple #[.slice (some ⟨ga, 0, none⟩) N N, .bool true] ∧ Bel w1 w') Try.func16 codeOK16 (px16_vs (hlv.mono d1) (hB.mono d1) hvs) rfl sf1 (by simp [Try.f16]) (fun v w' τ q => ⟨q.1, q.2.tp τ⟩) (fun τ => ?_) ?_
    · have hS1 : SideAt (w1.tp τ) b0 C B S L evs := by
        have : SideAt (w1.tp w.tape) b0 C B S L evs := h.below ⟨bw.os, rfl, bw.output, bw.size, bw.keep⟩
        exact ⟨this.low, this.blk, this.log, this.row, this.apart⟩
      exact rest16_ok (w1.tp τ) b0 C B S L evs N ga hS1 (by omega) (by omega) hl hs ⟨vs, hvl, hrow, hpost⟩ _ fun w' hb => ⟨rfl, Bel.of hb⟩
    · intro D2 v w2 d2 hv2 sf2 q
      obtain ⟨rfl, b2⟩ := q
      exact hK N D2 _ w2 (fun b hb => d2 b (d1 b hb)) (hv2.tuple (i := 0) rfl) sf2 (bw.trans b2)
  · refine Can.logProofsErr (ops := r16_1) (i := 5) (rest := [6, 7, 8, 9, 10]) h.log (by omega) hB hw fun D1 w1 d1 sf1 bw => ?_
    refine Can.conv16 (a' := (⟨#[.pointer (some ⟨C, 0, none⟩), .int .i64 n, undef, undef, .slice none 0 0, .bool false, undef, undef, undef, undef, undef, undef, undef, .pointer (some ⟨C, 0, none⟩), .pointer (some ⟨C, 0, none⟩), .pointer (some ⟨C, 0, none⟩), .pointer (some ⟨B, 0, none⟩), .int .i64 n, .tuple #[.slice none 0 0, .int .i64 1], undef, undef, undef, undef, undef, undef, undef, undef, undef, undef, undef, undef, undef, undef, undef, undef, undef, undef, undef, undef, undef, undef, undef, undef, undef, undef, undef, undef, undef, undef, undef, undef, undef, undef, undef, undef, undef, undef, undef, undef, undef, undef, undef, undef, undef, undef, undef], []⟩ : Act)) (by kernel_rfl) ?_
    refine Can.pures (l := [6, 7, 8, 9, 10]) (rest := []) (a' := px16 C B n (.slice none 0 0) 1) hk (by kernel_rfl) (Can.out ?_)
    refine Can.restK (Q := fun v w' => v = .tuple #[.slice none 0 0, .bool true] ∧ Bel w1 w') Try.func16 codeOK16 (px16_vs (hlv.mono d1) (hB.mono d1) (VR.nilSlice 0 0)) rfl sf1 (by simp [Try.f16]) (fun v w' τ q => ⟨q.1, q.2.tp τ⟩) (fun τ => ?_) ?_
    · have hS1 : SideAt (w1.tp τ) b0 C B S L evs := by
        have : SideAt (w1.tp w.tape) b0 C B S L evs := h.below ⟨bw.os, rfl, bw.output, bw.size, bw.keep⟩
        exact ⟨this.low, this.blk, this.log, this.row, this.apart⟩
      exact rest16_no (w1.tp τ) b0 C B S L evs n hS1 (by omega) _ fun w' hb => ⟨rfl, Bel.of hb⟩
    · intro D2 v w2 d2 hv2 sf2 q
      obtain ⟨rfl, b2⟩ := q
      exact hK 0 D2 _ w2 (fun b hb => d2 b (d1 b hb)) (hv2.tuple (i := 0) rfl) sf2 (bw.trans b2)
end
end Go.Proofs.Ytlndinigbppafaa

/-
  The law Proven: its own frame: the pieces ahead of the proofs.
-/
namespace Go.Proofs.Ytlndinigbppafaa
open Go.Sim Go.Conc Go.Fi Go.RowKit

def r5_0 : Array Oper :=
  #[{ dst := some 4, op := .assign (.const (.bool false)), type := 4, pos := "law.go:154", after := #[], guard := none }]
def r5_1 : Array Oper :=
  #[{ dst := some 9, op := .call { callee := .value (.func 12), args := #[], argTypes := #[] }, type := 30, pos := "law.go:155", after := #[], guard := none },
    { dst := some 8, op := .move (.tmp 9), type := 30, pos := "law.go:155", after := #[{ on := 0, ground := .data }], guard := none },
    { dst := some 10, op := .extract (.tmp 8) 0, type := 29, pos := "law.go:155", after := #[{ on := 1, ground := .data }], guard := none },
    { dst := some 11, op := .extract (.tmp 8) 1, type := 4, pos := "law.go:155", after := #[{ on := 1, ground := .data }, { on := 4, ground := .gcOnly .lateStores }], guard := none },
    { dst := some 5, op := .assign (.tmp 10), type := 29, pos := "law.go:155", after := #[{ on := 2, ground := .data }, { on := 0, ground := .chain }, { on := 0, ground := .phase }, { on := 1, ground := .phase }, { on := 2, ground := .phase }, { on := 3, ground := .textOnly .lateStores }], guard := none },
    { dst := some 6, op := .assign (.tmp 11), type := 4, pos := "law.go:155", after := #[{ on := 3, ground := .data }, { on := 4, ground := .chain }, { on := 0, ground := .phase }, { on := 1, ground := .phase }, { on := 2, ground := .phase }, { on := 3, ground := .phase }, { on := 4, ground := .phase }], guard := none }]
def r5_2 : Array Oper :=
  #[{ dst := some 7, op := .assign (.const (.int .i64 0)), type := 3, pos := "law.go:156", after := #[], guard := none }]
def r5_3 : Array Oper :=
  #[{ dst := some 12, op := .move (.tmp 7), type := 3, pos := "law.go:156", after := #[], guard := none },
    { dst := some 13, op := .move (.tmp 0), type := 22, pos := "law.go:156", after := #[], guard := none },
    { dst := some 14, op := .call { callee := .builtin .len, args := #[.tmp 13], argTypes := #[22] }, type := 3, pos := "law.go:156", after := #[{ on := 1, ground := .data }], guard := none },
    { dst := some 15, op := .binOp .lss 3 (.tmp 12) (.tmp 14) 3, type := 4, pos := "law.go:156", after := #[{ on := 0, ground := .data }, { on := 2, ground := .data }], guard := none },
    { dst := some 16, op := .move (.tmp 15), type := 4, pos := "law.go:156", after := #[{ on := 3, ground := .data }], guard := none },
    { dst := some 17, op := .move (.tmp 6), type := 4, pos := "law.go:156", after := #[{ on := 4, ground := .guard }], guard := some (4, true) },
    { dst := some 18, op := .pick (.tmp 16) (.tmp 17) (.const (.bool false)), type := 4, pos := "law.go:156", after := #[{ on := 4, ground := .data }, { on := 5, ground := .data }], guard := none }]
def r5_5 : Array Oper :=
  #[{ dst := some 21, op := .move (.tmp 5), type := 29, pos := "law.go:157", after := #[], guard := none },
    { dst := some 22, op := .move (.tmp 0), type := 22, pos := "law.go:157", after := #[], guard := none },
    { dst := some 23, op := .move (.tmp 7), type := 3, pos := "law.go:157", after := #[], guard := none },
    { dst := some 24, op := .indexAddr 22 (.tmp 22) (.tmp 23), type := 0, pos := "law.go:157", after := #[{ on := 1, ground := .data }, { on := 2, ground := .data }], guard := none },
    { dst := some 25, op := .load 9 (.tmp 24), type := 9, pos := "law.go:157", after := #[{ on := 3, ground := .data }], guard := none },
    { dst := some 26, op := .call { callee := .value (.func 15), args := #[.tmp 21, .tmp 25], argTypes := #[29, 9] }, type := 4, pos := "law.go:157", after := #[{ on := 0, ground := .data }, { on := 4, ground := .data }], guard := none },
    { dst := some 6, op := .assign (.tmp 26), type := 4, pos := "law.go:157", after := #[{ on := 5, ground := .data }, { on := 5, ground := .chain }, { on := 0, ground := .phase }, { on := 1, ground := .phase }, { on := 2, ground := .phase }, { on := 3, ground := .phase }, { on := 4, ground := .phase }, { on := 5, ground := .phase }], guard := none }]
def r5_4 : Array Oper :=
  #[{ dst := some 19, op := .move (.tmp 7), type := 3, pos := "law.go:156", after := #[], guard := none },
    { dst := some 20, op := .binOp .add 3 (.tmp 19) (.const (.int .i64 1)) 3, type := 3, pos := "law.go:156", after := #[{ on := 0, ground := .data }], guard := none },
    { dst := some 7, op := .assign (.tmp 20), type := 3, pos := "law.go:156", after := #[{ on := 1, ground := .data }, { on := 0, ground := .phase }, { on := 1, ground := .phase }], guard := none }]
def r5_6 : Array Oper :=
  #[{ dst := some 27, op := .move (.tmp 6), type := 4, pos := "law.go:159", after := #[], guard := none },
    { dst := some 28, op := .unOp .not 4 (.tmp 27), type := 4, pos := "law.go:159", after := #[{ on := 0, ground := .data }], guard := none }]
def r5_7 : Array Oper :=
  #[{ dst := some 4, op := .assign (.const (.bool false)), type := 4, pos := "law.go:160", after := #[], guard := none }]
def r5_8 : Array Oper :=
  #[{ dst := some 30, op := .move (.tmp 5), type := 29, pos := "law.go:162", after := #[], guard := none },
    { dst := some 31, op := .move (.tmp 1), type := 3, pos := "law.go:162", after := #[], guard := none },
    { dst := some 32, op := .call { callee := .value (.func 16), args := #[.tmp 30, .tmp 31], argTypes := #[29, 3] }, type := 36, pos := "law.go:162", after := #[{ on := 0, ground := .data }, { on := 1, ground := .data }], guard := none },
    { dst := some 29, op := .move (.tmp 32), type := 36, pos := "law.go:162", after := #[{ on := 2, ground := .data }], guard := none },
    { dst := some 33, op := .extract (.tmp 29) 0, type := 23, pos := "law.go:162", after := #[{ on := 3, ground := .data }], guard := none },
    { dst := some 34, op := .extract (.tmp 29) 1, type := 4, pos := "law.go:162", after := #[{ on := 3, ground := .data }], guard := none },
    { dst := some 6, op := .assign (.tmp 34), type := 4, pos := "law.go:162", after := #[{ on := 5, ground := .data }, { on := 2, ground := .chain }, { on := 0, ground := .phase }, { on := 1, ground := .phase }, { on := 2, ground := .phase }, { on := 3, ground := .phase }, { on := 4, ground := .phase }, { on := 5, ground := .phase }], guard := none }]
def r5_9 : Array Oper :=
  #[{ dst := some 35, op := .move (.tmp 6), type := 4, pos := "law.go:163", after := #[], guard := none },
    { dst := some 4, op := .assign (.tmp 35), type := 4, pos := "law.go:163", after := #[{ on := 0, ground := .data }, { on := 0, ground := .phase }], guard := none }]
def c5 : Code := ((Code.region 0 r5_0 false).seq ((Code.region 1 r5_1 false).seq (((Code.region 2 r5_2 false).seq (Code.block 0 (((Code.region 3 r5_3 false).seq (Code.cond (Operand.tmp 18) Code.skip (Code.exit 0))).seq ((Code.block 1 (Code.region 5 r5_5 false)).seq (Code.region 4 r5_4 false))).loop)).seq (((Code.region 6 r5_6 false).seq (Code.cond (Operand.tmp 28) ((Code.region 7 r5_7 false).seq Code.ret) Code.skip)).seq ((Code.region 8 r5_8 false).seq ((Code.region 9 r5_9 false).seq Code.ret))))))
theorem body5 : Try.f5.body = some c5 := rfl

def c5lp : Code := (Code.region 2 r5_2 false).seq (Code.block 0 (((Code.region 3 r5_3 false).seq (Code.cond (Operand.tmp 18) Code.skip (Code.exit 0))).seq ((Code.block 1 (Code.region 5 r5_5 false)).seq (Code.region 4 r5_4 false))).loop)
def c5if : Code := (Code.region 6 r5_6 false).seq (Code.cond (Operand.tmp 28) ((Code.region 7 r5_7 false).seq Code.ret) Code.skip)
theorem c5_eq : c5 = (Code.region 0 r5_0 false).seq ((Code.region 1 r5_1 false).seq (c5lp.seq (c5if.seq ((Code.region 8 r5_8 false).seq ((Code.region 9 r5_9 false).seq Code.ret))))) := rfl
def rl5 : Rl := rolesOf [0, 13, 22] [24]

/-- All events, laid. -/
def layAll (ps : List ByteArray) : List ByteArray := ps.foldl layL []
theorem layL_ok {evs : List ByteArray} {s : ByteArray} (h : evs.length ≤ 500 ∧ ∀ x ∈ evs, x.size ≤ 50) : (layL evs s).length ≤ 500 ∧ ∀ x ∈ layL evs s, x.size ≤ 50 := by
  unfold layL
  split
  · exact h
  · split
    · exact h
    · refine ⟨by simp; omega, fun x hx => ?_⟩
      rcases List.mem_append.1 hx with hx | hx
      · exact h.2 x hx
      · simp at hx; subst hx; omega
theorem layAll_take (ps : List ByteArray) (k : Nat) (hk : k < ps.length) : layAll (ps.take (k + 1)) = layL (layAll (ps.take k)) ps[k] := by
  unfold layAll
  rw [take_snoc ps k hk, List.foldl_append]
  rfl
theorem layAll_ok (ps : List ByteArray) : (layAll ps).length ≤ 500 ∧ ∀ x ∈ layAll ps, x.size ≤ 50 := by
  unfold layAll
  have K : ∀ (l evs : List ByteArray), (evs.length ≤ 500 ∧ ∀ x ∈ evs, x.size ≤ 50) → (l.foldl layL evs).length ≤ 500 ∧ ∀ x ∈ l.foldl layL evs, x.size ≤ 50 := by
    intro l
    induction l with
    | nil => exact fun _ h => h
    | cons s l ih => exact fun evs h => ih _ (layL_ok h)
  exact K ps [] ⟨by simp, fun x hx => by cases hx⟩

theorem lay_any (w : World) (b0 C B : Nat) (S L : Value) (evs : List ByteArray) (s : ByteArray) (h : SideAt w b0 C B S L evs) (hb0 : b0 ≤ w.heap.size) (hl : evs.length ≤ 500) (hm : s.size ≤ maxLen) :
    Calls Try.prog 15 #[.pointer (some ⟨C, 0, none⟩), .string s] w fun e w' => e = .returned (.bool true) ∧ ∃ S' L', SideAt w' b0 C B S' L' (layL evs s) ∧ Below b0 w w' := by
  unfold layL
  by_cases h1 : 50 < s.size
  · rw [if_pos h1]
    exact (lay_long w b0 C B S L evs s h h1 hm).mono fun e w' q => ⟨q.1, S, L, h.below q.2.1, q.2.1.mono hb0⟩
  · rw [if_neg h1]
    by_cases h2 : 500 ≤ evs.length
    · rw [if_pos h2]
      exact (lay_many w b0 C B S L evs s h (by omega) (by omega)).mono fun e w' q => ⟨q.1, S, L, h.below q.2.1, q.2.1.mono hb0⟩
    · rw [if_neg h2]
      exact lay_ok w b0 C B S L evs s h hb0 (by omega) (by omega)

theorem codeOK5_1 : CodeOK Try.prog (Code.region 1 r5_1 false) := codeB_ok infos (by kernel_rfl)
theorem codeOK5_lp : CodeOK Try.prog c5lp := codeB_ok infos (by kernel_rfl)
theorem codeOK5_if : CodeOK Try.prog c5if := codeB_ok infos (by kernel_rfl)
theorem codeR5_1 : CodeR Try.prog rl5 (Code.region 1 r5_1 false) := codeRB_ok (by kernel_rfl)
theorem codeR5_lp : CodeR Try.prog rl5 c5lp := codeRB_ok (by kernel_rfl)
theorem codeR5_if : CodeR Try.prog rl5 c5if := codeRB_ok (by kernel_rfl)

set_option maxRecDepth 100000 in
set_option maxHeartbeats 1000000 in
theorem wp5_1 (w : World) (v : Value) (n : Int) (Q : Exit → Act → World → Prop)
    (hQ : ∀ w', SideAt w' w.heap.size (w.heap.size + 1) w.heap.size (.slice none 0 0) (.slice none 0 0) [] → Below w.heap.size w w' → Q .normal ⟨#[v, .int .i64 n, undef, undef, .bool false, .pointer (some ⟨w.heap.size + 1, 0, none⟩), .bool true, undef, .tuple #[.pointer (some ⟨w.heap.size + 1, 0, none⟩), .bool true], .tuple #[.pointer (some ⟨w.heap.size + 1, 0, none⟩), .bool true], .pointer (some ⟨w.heap.size + 1, 0, none⟩), .bool true, undef, undef, undef, undef, undef, undef, undef, undef, undef, undef, undef, undef, undef, undef, undef, undef, undef, undef, undef, undef, undef, undef, undef, undef], []⟩ w') :
    (Code.region 1 r5_1 false).wp Try.prog Q ⟨#[v, .int .i64 n, undef, undef, .bool false, undef, undef, undef, undef, undef, undef, undef, undef, undef, undef, undef, undef, undef, undef, undef, undef, undef, undef, undef, undef, undef, undef, undef, undef, undef, undef, undef, undef, undef, undef, undef], []⟩ w := by
  have HQ : Hid _ := hQ
  clear hQ
  unfold r5_1
  go_wp2_with fail
  refine (begun_any w).mono ?_
  rintro e w1 ⟨rfl, hS, hb⟩
  have := HQ.out w1 hS hb
  go_wp2
  exact this
end Go.Proofs.Ytlndinigbppafaa

/-
  The law Proven: its own frame: the loop that lays the events.
-/
namespace Go.Proofs.Ytlndinigbppafaa
open Go.Sim Go.Conc Go.Fi Go.RowKit

/-- The frame ahead of the proofs. -/
def px5 (v : Value) (n : Int) (C : Nat) (x : Nat → Value) : Act :=
  ⟨#[v, .int .i64 n, undef, undef, .bool false, .pointer (some ⟨C, 0, none⟩), .bool true, x 7, .tuple #[.pointer (some ⟨C, 0, none⟩), .bool true], .tuple #[.pointer (some ⟨C, 0, none⟩), .bool true], .pointer (some ⟨C, 0, none⟩), .bool true, x 12, x 13, x 14, x 15, x 16, x 17, x 18, x 19, x 20, x 21, x 22, x 23, x 24, x 25, x 26, x 27, x 28, undef, undef, undef, undef, undef, undef, undef], []⟩

set_option maxRecDepth 100000 in
set_option maxHeartbeats 4000000 in
theorem wp5_lp (w : World) (v : Value) (n : Int) (b0 C B : Nat) (ps : List ByteArray) (x : Nat → Value) (hv : StringsAt w v ps) (hn1 : ps.length ≤ maxLen) (hn2 : ∀ p ∈ ps, p.size ≤ maxLen) (hvb : ∀ w', Below b0 w w' → StringsAt w' v ps) (hb0 : b0 ≤ w.heap.size)
    (h : SideAt w b0 C B (.slice none 0 0) (.slice none 0 0) []) (Q : Exit → Act → World → Prop)
    (hQ : ∀ w' S L a', a' = px5 v n C (fun i => a'.tmps.getD i undef) → SideAt w' b0 C B S L (layAll ps) → Below b0 w w' → Q .normal a' w') :
    c5lp.wp Try.prog Q (px5 v n C x) w := by
  have HQ : Hid _ := hQ
  have HV : Hid _ := hvb
  have HN : Hid _ := hn2
  clear hQ hvb hn2
  obtain ⟨ao, cap, rfl, hc⟩ := hv
  clear hc
  unfold c5lp r5_2 r5_3 r5_4 r5_5 px5
  go_wp2
  go_loopw [6, 7] (fun o i wr => ∃ (k : Nat) (S L : Value), k ≤ ps.length ∧ i = .int .i64 k ∧ o = .bool true ∧ SideAt wr b0 C B S L (layAll (ps.take k)) ∧ Below b0 w wr) (fun _ i _ => ps.length - (intOf i).toNat)
  case atStart => exact ⟨0, _, _, Nat.zero_le _, rfl, rfl, h, Below.refl _ _⟩
  case round =>
    obtain ⟨k, S, L, hk, rfl, rfl, hS, hb⟩ := hrel
    have hsz := hb.size
    by_cases hlt : k < ps.length
    · have hki : (k : Int) < (ps.length : Int) := by omega
      obtain ⟨ao', cap', e, hc⟩ := HV.out wr hb
      cases e
      obtain ⟨b, o, rfl, hbl, hcell⟩ := hc (by omega)
      have hck := hcell k hlt
      clear hcell hc
      have hml : (ps.length : Int) ≤ 9223372036854775807 := by unfold maxLen at hn1; omega
      go_wp2_with fail
      refine (lay_any wr b0 C B S L _ ps[k] hS (by omega) (layAll_ok _).1 (HN.out _ (List.getElem_mem hlt))).mono ?_
      rintro e w2 ⟨rfl, S', L', hS', hb2⟩
      rw [← layAll_take ps k hlt] at hS'
      go_wp2
      go_roundw
      case rel => exact ⟨k + 1, S', L', by omega, by go_num, rfl, hS', hb.trans hb2⟩
      case measure => simp [intOf]; omega
    · have hke : k = ps.length := by omega
      subst hke
      rw [List.take_length] at hS
      go_wp2
      exact HQ.out _ _ _ _ (by kernel_rfl) hS hb

set_option maxRecDepth 100000 in
set_option maxHeartbeats 4000000 in
theorem wp5_if (w : World) (v : Value) (n : Int) (C : Nat) (x : Nat → Value) (Q : Exit → Act → World → Prop) (hQ : ∀ a', a' = px5 v n C (fun i => a'.tmps.getD i undef) → Q .normal a' w) : c5if.wp Try.prog Q (px5 v n C x) w := by
  have HQ : Hid _ := hQ
  clear hQ
  unfold c5if r5_6 r5_7 px5
  go_wp2
  exact HQ.out _ (by kernel_rfl)
end Go.Proofs.Ytlndinigbppafaa

/-
  The law Proven: its own frame, whole.
-/

namespace Go.Proofs.Ytlndinigbppafaa
open Go.Sim Go.Conc Go.Fi Go.RowKit

theorem side_tp {w : World} {τ : Nat → Question → Nat} {b0 C B : Nat} {S L : Value} {evs : List ByteArray} (h : SideAt w b0 C B S L evs) : SideAt (w.tp τ) b0 C B S L evs := ⟨h.low, h.blk, h.log, h.row, h.apart⟩
theorem bel_tp' {w u : World} {τ : Nat → Question → Nat} (h : Below w.heap.size (w.tp τ) u) : Bel w u := ⟨h.os, h.output, h.size, h.block⟩
def sv5 (v : Value) : Nat → Value := fun i => if i = 0 then v else undef
theorem sv5_ok {Fo : FoT} {v : Value} (h : SlV Fo v) : SvOK rl5 Fo (sv5 v) := by
  intro i
  unfold sv5
  by_cases hi : i = 0
  · subst hi
    exact ⟨fun _ => h, fun q => by cases q⟩
  · rw [if_neg hi]
    exact ⟨fun _ => .inl rfl, fun _ => .inl rfl⟩
set_option maxRecDepth 100000 in
theorem z5_ov (v : Value) (n : Int) : (⟨#[v, .int .i64 n, undef, undef, .bool false, undef, undef, undef, undef, undef, undef, undef, undef, undef, undef, undef, undef, undef, undef, undef, undef, undef, undef, undef, undef, undef, undef, undef, undef, undef, undef, undef, undef, undef, undef, undef], []⟩ : Act) = ⟨ov rl5 (sv5 v) (⟨#[undef, .int .i64 n, undef, undef, .bool false, undef, undef, undef, undef, undef, undef, undef, undef, undef, undef, undef, undef, undef, undef, undef, undef, undef, undef, undef, undef, undef, undef, undef, undef, undef, undef, undef, undef, undef, undef, undef], []⟩ : Act).tmps, []⟩ := by kernel_rfl
set_option maxRecDepth 100000 in
theorem z5_vs {D : Nat → Prop} (n : Int) : ∀ x ∈ (⟨#[undef, .int .i64 n, undef, undef, .bool false, undef, undef, undef, undef, undef, undef, undef, undef, undef, undef, undef, undef, undef, undef, undef, undef, undef, undef, undef, undef, undef, undef, undef, undef, undef, undef, undef, undef, undef, undef, undef], []⟩ : Act).tmps, Vs D x := by
  refine vs_arr' ?_
  repeat' first
    | exact vs_nil'
    | exact vs_undef'
    | exact Vs.int _ _ _
    | exact Vs.bool _ _
    | refine vs_cons' ?_ ?_
theorem px5_start (v : Value) (n : Int) (C : Nat) : (⟨#[v, .int .i64 n, undef, undef, .bool false, .pointer (some ⟨C, 0, none⟩), .bool true, undef, .tuple #[.pointer (some ⟨C, 0, none⟩), .bool true], .tuple #[.pointer (some ⟨C, 0, none⟩), .bool true], .pointer (some ⟨C, 0, none⟩), .bool true, undef, undef, undef, undef, undef, undef, undef, undef, undef, undef, undef, undef, undef, undef, undef, undef, undef, undef, undef, undef, undef, undef, undef, undef], []⟩ : Act) = px5 v n C (fun _ => undef) := by kernel_rfl
theorem fn5_res : ∀ r ∈ Try.f5.results, ∃ t, r = .tmp t := by simp [Try.f5]
theorem px5_slot {sv : Nat → Value} {t : Array Value} {v : Value} {n : Int} {C : Nat} {x : Nat → Value} (h : (⟨ov rl5 sv t, []⟩ : Act) = px5 v n C x) : .pointer (some ⟨C, 0, none⟩) ∈ t := by
  have h1 : ov rl5 sv t = (px5 v n C x).tmps := congrArg Act.tmps h
  have h2 : (ov rl5 sv t)[5]? = some (.pointer (some ⟨C, 0, none⟩)) := by rw [h1]; rfl
  rw [ov_get] at h2
  cases h3 : t[5]? with
  | none => rw [h3] at h2; cases h2
  | some y =>
    rw [h3] at h2
    have : y = .pointer (some ⟨C, 0, none⟩) := by simpa [rl5, rolesOf] using h2
    exact this ▸ Array.mem_of_getElem? h3

set_option maxRecDepth 100000 in
set_option maxHeartbeats 4000000 in
theorem can_proven {Fo : FoT} {D : Nat → Prop} {ps : List ByteArray} {v : Value} {n : Int} {w : World} {Post : Value → World → Prop} (hv : StringsAt w v ps) (hn1 : ps.length ≤ maxLen) (hn2 : ∀ p ∈ ps, p.size ≤ maxLen) (hvs : SlV Fo v) (hext : ExtOK Fo D w) (hSf : Sf D w)
    (hPost : ∀ w', Bel w w' → Post (.bool true) w') (hP : ∀ v w w₁, Post v w → Eqv w w₁ → Post v w₁) :
    Can (Done Post) 0 (G ((base 5).at (⟨#[v, .int .i64 n, undef, undef, undef, undef, undef, undef, undef, undef, undef, undef, undef, undef, undef, undef, undef, undef, undef, undef, undef, undef, undef, undef, undef, undef, undef, undef, undef, undef, undef, undef, undef, undef, undef, undef], []⟩ : Act) [.code c5]) []) w := by
  have hk : (base 5).kind ≠ .early := by intro h; cases h
  rw [c5_eq]
  refine Can.seq (Can.region (a' := (⟨#[v, .int .i64 n, undef, undef, .bool false, undef, undef, undef, undef, undef, undef, undef, undef, undef, undef, undef, undef, undef, undef, undef, undef, undef, undef, undef, undef, undef, undef, undef, undef, undef, undef, undef, undef, undef, undef, undef], []⟩ : Act)) hk (by kernel_rfl) ?_)
  refine Can.conv16 (z5_ov v n) (Can.seq ?_)
  refine Can.pieceX (Fo := Fo) (a := (⟨#[undef, .int .i64 n, undef, undef, .bool false, undef, undef, undef, undef, undef, undef, undef, undef, undef, undef, undef, undef, undef, undef, undef, undef, undef, undef, undef, undef, undef, undef, undef, undef, undef, undef, undef, undef, undef, undef, undef], []⟩ : Act)) (Q := fun a u => a = px5 v n (w.heap.size + 1) (fun _ => undef) ∧ SideAt u w.heap.size (w.heap.size + 1) w.heap.size (.slice none 0 0) (.slice none 0 0) [] ∧ Bel w u) Try.func5 codeOK5_1 codeR5_1 (z5_vs n) rfl hSf (sv5_ok hvs) hext (fun a u τ q => ⟨q.1, side_tp q.2.1, q.2.2.tp τ⟩) (fun τ => ?_) ?_
  · rw [← z5_ov]
    exact wp5_1 (w.tp τ) v n _ fun w' hS hb => ⟨rfl, px5_start v n _, hS, Bel.of hb⟩
  intro D1 sv1 t1 w1 d1 vs1 sf1 so1 ex1 q1
  obtain ⟨e1, S1, b1⟩ := q1
  refine Can.seq (Can.pieceX (Fo := Fo) (rl := rl5) (sv := sv1) (a := ⟨t1, []⟩) (Q := fun a u => ∃ S L, a = px5 v n (w.heap.size + 1) (fun i => a.tmps.getD i undef) ∧ SideAt u w.heap.size (w.heap.size + 1) w.heap.size S L (layAll ps) ∧ Bel w u) Try.func5 codeOK5_lp codeR5_lp vs1 rfl sf1 so1 ex1 (fun a u τ q => by obtain ⟨S, L, q1, q2, q3⟩ := q; exact ⟨S, L, q1, side_tp q2, q3.tp τ⟩) (fun τ => ?_) ?_)
  · show c5lp.wp Try.prog _ ⟨ov rl5 sv1 t1, []⟩ _
    rw [e1]
    have hb1 : Below w.heap.size (w.tp τ) (w1.tp τ) := ⟨b1.os, rfl, b1.output, b1.size, b1.keep⟩
    have hvt : StringsAt (w.tp τ) v ps := hv
    refine wp5_lp (w1.tp τ) v n w.heap.size (w.heap.size + 1) w.heap.size ps (fun _ => undef) (hvt.below hb1) hn1 hn2 (fun w' hb => hvt.below (hb1.trans hb)) b1.size (side_tp S1) _ fun w' S L a' ea hS hb => ⟨rfl, S, L, ea, hS, bel_tp' (hb1.trans hb)⟩
  intro D2 sv2 t2 w2 d2 vs2 sf2 so2 ex2 q2
  obtain ⟨S2, L2, e2, hS2, b2⟩ := q2
  refine Can.seq (Can.pieceX (Fo := Fo) (rl := rl5) (sv := sv2) (a := ⟨t2, []⟩) (Q := fun a u => a = px5 v n (w.heap.size + 1) (fun i => a.tmps.getD i undef) ∧ SideAt u w.heap.size (w.heap.size + 1) w.heap.size S2 L2 (layAll ps) ∧ Bel w u) Try.func5 codeOK5_if codeR5_if vs2 rfl sf2 so2 ex2 (fun a u τ q => ⟨q.1, side_tp q.2.1, q.2.2.tp τ⟩) (fun τ => ?_) ?_)
  · show c5if.wp Try.prog _ ⟨ov rl5 sv2 t2, []⟩ _
    rw [e2]
    exact wp5_if (w2.tp τ) v n (w.heap.size + 1) _ _ fun a' ea => ⟨rfl, ea, side_tp hS2, b2.tp τ⟩
  intro D3 sv3 t3 w3 d3 vs3 sf3 so3 ex3 q3
  obtain ⟨e3, S3, b3⟩ := q3
  revert e3
  generalize (fun i => (⟨ov rl5 sv3 t3, []⟩ : Act).tmps.getD i undef) = x
  generalize w.heap.size + 1 = C at S3
  intro e3
  have hC : Vs D3 (.pointer (some ⟨C, 0, none⟩)) := vs3 _ (px5_slot e3)
  refine Can.conv16 e3 ?_
  unfold px5
  refine Can.seq (Can.into (Can.pures (l := [0, 1]) (rest := [2, 3, 4, 5, 6]) (a' := (⟨#[v, .int .i64 n, undef, undef, .bool false, .pointer (some ⟨C, 0, none⟩), .bool true, x 7, .tuple #[.pointer (some ⟨C, 0, none⟩), .bool true], .tuple #[.pointer (some ⟨C, 0, none⟩), .bool true], .pointer (some ⟨C, 0, none⟩), .bool true, x 12, x 13, x 14, x 15, x 16, x 17, x 18, x 19, x 20, x 21, x 22, x 23, x 24, x 25, x 26, x 27, x 28, undef, .pointer (some ⟨C, 0, none⟩), .int .i64 n, undef, undef, undef, undef], []⟩ : Act)) hk (by kernel_rfl) ?_))
  refine Can.enter (o := r5_8[2]) hk rfl rfl rfl Try.func16 (by simp [Try.f16]) body16 ?_
  have e : (#[.tmp 30, .tmp 31] : Array Operand).map (⟨#[v, .int .i64 n, undef, undef, .bool false, .pointer (some ⟨C, 0, none⟩), .bool true, x 7, .tuple #[.pointer (some ⟨C, 0, none⟩), .bool true], .tuple #[.pointer (some ⟨C, 0, none⟩), .bool true], .pointer (some ⟨C, 0, none⟩), .bool true, x 12, x 13, x 14, x 15, x 16, x 17, x 18, x 19, x 20, x 21, x 22, x 23, x 24, x 25, x 26, x 27, x 28, undef, .pointer (some ⟨C, 0, none⟩), .int .i64 n, undef, undef, undef, undef], []⟩ : Act).eval ++ Array.replicate (Try.f16.ntmps - ((#[.tmp 30, .tmp 31] : Array Operand).map (⟨#[v, .int .i64 n, undef, undef, .bool false, .pointer (some ⟨C, 0, none⟩), .bool true, x 7, .tuple #[.pointer (some ⟨C, 0, none⟩), .bool true], .tuple #[.pointer (some ⟨C, 0, none⟩), .bool true], .pointer (some ⟨C, 0, none⟩), .bool true, x 12, x 13, x 14, x 15, x 16, x 17, x 18, x 19, x 20, x 21, x 22, x 23, x 24, x 25, x 26, x 27, x 28, undef, .pointer (some ⟨C, 0, none⟩), .int .i64 n, undef, undef, undef, undef], []⟩ : Act).eval).size) undef = #[.pointer (some ⟨C, 0, none⟩), .int .i64 n, undef, undef, undef, undef, undef, undef, undef, undef, undef, undef, undef, undef, undef, undef, undef, undef, undef, undef, undef, undef, undef, undef, undef, undef, undef, undef, undef, undef, undef, undef, undef, undef, undef, undef, undef, undef, undef, undef, undef, undef, undef, undef, undef, undef, undef, undef, undef, undef, undef, undef, undef, undef, undef, undef, undef, undef, undef, undef, undef, undef, undef, undef, undef, undef] := by kernel_rfl
  rw [e]
  refine Can.sideProofs (ops := r5_8) (i := 2) (rest := [3, 4, 5, 6]) S3 (layAll_ok ps).1 (layAll_ok ps).2 hC sf3 fun N D4 l w4 d4 hl4 sf4 b4 => ?_
  refine Can.conv16 (a' := (⟨#[v, .int .i64 n, undef, undef, .bool false, .pointer (some ⟨C, 0, none⟩), .bool true, x 7, .tuple #[.pointer (some ⟨C, 0, none⟩), .bool true], .tuple #[.pointer (some ⟨C, 0, none⟩), .bool true], .pointer (some ⟨C, 0, none⟩), .bool true, x 12, x 13, x 14, x 15, x 16, x 17, x 18, x 19, x 20, x 21, x 22, x 23, x 24, x 25, x 26, x 27, x 28, undef, .pointer (some ⟨C, 0, none⟩), .int .i64 n, .tuple #[l, .bool true], undef, undef, undef], []⟩ : Act)) (by kernel_rfl) ?_
  refine Can.pures (l := [3, 4, 5, 6]) (rest := []) (a' := (⟨#[v, .int .i64 n, undef, undef, .bool false, .pointer (some ⟨C, 0, none⟩), .bool true, x 7, .tuple #[.pointer (some ⟨C, 0, none⟩), .bool true], .tuple #[.pointer (some ⟨C, 0, none⟩), .bool true], .pointer (some ⟨C, 0, none⟩), .bool true, x 12, x 13, x 14, x 15, x 16, x 17, x 18, x 19, x 20, x 21, x 22, x 23, x 24, x 25, x 26, x 27, x 28, .tuple #[l, .bool true], .pointer (some ⟨C, 0, none⟩), .int .i64 n, .tuple #[l, .bool true], l, .bool true, undef], []⟩ : Act)) hk (by kernel_rfl) (Can.out ?_)
  refine Can.seq (Can.region (a' := (⟨#[v, .int .i64 n, undef, undef, .bool true, .pointer (some ⟨C, 0, none⟩), .bool true, x 7, .tuple #[.pointer (some ⟨C, 0, none⟩), .bool true], .tuple #[.pointer (some ⟨C, 0, none⟩), .bool true], .pointer (some ⟨C, 0, none⟩), .bool true, x 12, x 13, x 14, x 15, x 16, x 17, x 18, x 19, x 20, x 21, x 22, x 23, x 24, x 25, x 26, x 27, x 28, .tuple #[l, .bool true], .pointer (some ⟨C, 0, none⟩), .int .i64 n, .tuple #[l, .bool true], l, .bool true, .bool true], []⟩ : Act)) hk (by kernel_rfl) ?_)
  refine Can.ret (Can.done (v := .bool true) rfl fun w₁ hE => ⟨?_, hP _ _ _ (hPost w4 (b3.trans b4)) hE⟩)
  exact stepG_done rfl rfl rfl Try.func5 (by kernel_rfl) (by kernel_rfl) w₁
end Go.Proofs.Ytlndinigbppafaa

/-
  The statements' own side of a log: its answers of a root, and what it wants of commitments and growths.
-/
namespace Go.Proofs.Ytlndinigbppafaa
open Go.RowKit

set_option maxRecDepth 100000 in
set_option maxHeartbeats 2000000 in
theorem root_side_no (w : World) (b0 C B : Nat) (S L : Value) (evs : List ByteArray) (n : Int) (h : SideAt w b0 C B S L evs) (hn : ¬ (1 ≤ n ∧ n ≤ (evs.length : Int))) :
    Calls Try.prog 13 #[.pointer (some ⟨C, 0, none⟩), .int .i64 n] w fun e w' => e = .returned (.bool true) ∧ Below w.heap.size w w' := by
  obtain ⟨c0, c1, _⟩ := h.cells
  have HV := version_side w b0 C B S L evs n h
  rw [decide_eq_false hn] at HV
  have HL : Hid _ := h.log
  have HN : Hid (n < 1 ∨ (evs.length : Int) < n) := by show _ ∨ _; omega
  clear hn h
  go_enter Try.func13, Try.ntmps13
  go_wp2_with fail
  refine (root_no _ _ _ _ _ n HL.out HN.out).mono ?_
  rintro e w' ⟨rfl, rfl⟩
  go_wp2_with fail
  refine HV.mono ?_
  rintro e w' ⟨rfl, rfl⟩
  clear HV
  go_wp2_with fail
  refine (num_law _ _).mono ?_
  rintro e w' ⟨rfl, rfl⟩
  go_wp2
  go_ret
  exact ⟨rfl, Below.refl _ _⟩

set_option maxRecDepth 100000 in
set_option maxHeartbeats 2000000 in
theorem root_side_ok (w : World) (b0 C B : Nat) (S L : Value) (evs : List ByteArray) (n : Nat) (h : SideAt w b0 C B S L evs) (h1 : 1 ≤ n) (h2 : n ≤ evs.length) (hl : evs.length ≤ 500) (hs : ∀ s ∈ evs, s.size ≤ 50) :
    Calls Try.prog 13 #[.pointer (some ⟨C, 0, none⟩), .int .i64 n] w fun e w' => e = .returned (.bool true) ∧ Below w.heap.size w w' := by
  have hss : ∀ s ∈ evs, s.size ≤ 255 := fun s q => by have := hs s q; omega
  have hd16 : dep n ≤ 16 := dep_le _ 16 (by rw [pw_16]; omega)
  have DP : ∀ w' : World, Calls Try.prog 34 #[.int .i64 n] w' fun e w'' => e = .returned (.int .i64 (dep n)) ∧ w'' = w' := fun w' => depth_any n w' (by omega)
  obtain ⟨c0, c1, _⟩ := h.cells
  obtain ⟨ao, cap, rfl, hst⟩ := owns_strings h.row
  have HH : Hid _ := h
  clear h
  go_enter Try.func13, Try.ntmps13
  go_wp2_with fail
  refine (root_ok _ _ _ _ _ n HH.out.log h1 h2 (by omega) hss).mono ?_
  rintro e w1 ⟨rfl, hb1⟩
  have hS1 := HH.out.below hb1
  have HV := version_side w1 b0 C B S _ evs n hS1
  rw [decide_eq_true (show 1 ≤ (n : Int) ∧ (n : Int) ≤ evs.length by omega)] at HV
  obtain ⟨d0, d1, _⟩ := hS1.cells
  have HST : Hid _ := StringsAt.below hst hb1
  clear hS1 hst c0 c1
  go_wp2_with fail
  refine HV.mono ?_
  rintro e w' ⟨rfl, rfl⟩
  clear HV
  go_wp2
  go_region_held3 (fun u => u.cell? ⟨C, 1, none⟩ = some (.slice ao evs.length cap)) (first | (with_reducible assumption) | exact cell_keep d1 hq2 | go_keep)
    (first
      | (go_at_call 32; refine (num_law _ _).mono ?_; rintro e wa ⟨rfl, rfl⟩)
      | (go_at_call 34; refine (DP _).mono ?_; rintro e wb ⟨rfl, rfl⟩)
      | (go_at_call 33; refine (digest_ref evs n h2 (by omega) hss (.slice ao evs.length cap) n rfl (dep n) hd16 0 0 (dep n) _ rfl rfl (by omega) (StringsAt.below HST.out ((Below.refl _ _).drew))).mono ?_; rintro e w2 ⟨rfl, hb2⟩; have hq2 : Below w'.heap.size w' w2 := below_step ((Below.refl _ _).drew) hb2))
  all_goals go_wp2
  all_goals go_ret
  all_goals exact ⟨rfl, hb1.trans (hq2.mono hb1.size)⟩

theorem root_side (w : World) (b0 C B : Nat) (S L : Value) (evs : List ByteArray) (n : Int) (h : SideAt w b0 C B S L evs) (hl : evs.length ≤ 500) (hs : ∀ s ∈ evs, s.size ≤ 50) :
    Calls Try.prog 13 #[.pointer (some ⟨C, 0, none⟩), .int .i64 n] w fun e w' => e = .returned (.bool true) ∧ Below w.heap.size w w' := by
  by_cases hn : 1 ≤ n ∧ n ≤ (evs.length : Int)
  · obtain ⟨N, rfl⟩ : ∃ N : Nat, n = N := ⟨n.toNat, by omega⟩
    exact root_side_ok w b0 C B S L evs N h (by omega) (by omega) hl hs
  · exact root_side_no w b0 C B S L evs n h hn
end Go.Proofs.Ytlndinigbppafaa

/-
  The statements' own side of a log: what it wants of commitments and growths, and what it refuses.
-/
namespace Go.Proofs.Ytlndinigbppafaa
open Go.RowKit

/-- A question that may not be asked. -/
def Refused (k m n l : Int) : Prop := ¬ (1 ≤ n ∧ n ≤ l) ∨ k = 2 ∧ (m < 1 ∨ n < m) ∨ k = 3 ∧ (m < 0 ∨ n ≤ m)

set_option maxRecDepth 100000 in
set_option maxHeartbeats 2000000 in
theorem want_none (w : World) (b0 C B : Nat) (S L : Value) (evs : List ByteArray) (k m n : Int) (h : SideAt w b0 C B S L evs) (hn : ¬ (1 ≤ n ∧ n ≤ (evs.length : Int))) :
    Calls Try.prog 35 #[.pointer (some ⟨C, 0, none⟩), .int .i64 k, .int .i64 m, .int .i64 n] w fun e w' => e = .returned (.tuple #[.string ⟨#[]⟩, .bool false]) ∧ w' = w := by
  have HV := version_side w b0 C B S L evs n h
  rw [decide_eq_false hn] at HV
  clear hn h
  go_enter Try.func35, Try.ntmps35
  go_wp2_with fail
  refine HV.mono ?_
  rintro e w' ⟨rfl, rfl⟩
  clear HV
  go_wp2
  go_ret2
  exact ⟨rfl, rfl⟩

set_option maxRecDepth 100000 in
set_option maxHeartbeats 2000000 in
theorem want_no2 (w : World) (b0 C B : Nat) (S L : Value) (evs : List ByteArray) (m n : Int) (h : SideAt w b0 C B S L evs) (hn : 1 ≤ n ∧ n ≤ (evs.length : Int)) (hm : m < 1 ∨ n < m) :
    Calls Try.prog 35 #[.pointer (some ⟨C, 0, none⟩), .int .i64 2, .int .i64 m, .int .i64 n] w fun e w' => e = .returned (.tuple #[.string ⟨#[]⟩, .bool false]) ∧ w' = w := by
  have HV := version_side w b0 C B S L evs n h
  rw [decide_eq_true hn] at HV
  clear h
  by_cases h1 : m < 1
  · clear hm
    go_enter Try.func35, Try.ntmps35
    go_wp2_with fail
    refine HV.mono ?_
    rintro e w' ⟨rfl, rfl⟩
    clear HV
    go_wp2
    go_ret2
    exact ⟨rfl, rfl⟩
  · have h2 : n < m := by omega
    clear hm
    go_enter Try.func35, Try.ntmps35
    go_wp2_with fail
    refine HV.mono ?_
    rintro e w' ⟨rfl, rfl⟩
    clear HV
    go_wp2
    go_ret2
    exact ⟨rfl, rfl⟩

set_option maxRecDepth 100000 in
set_option maxHeartbeats 2000000 in
theorem want_no3 (w : World) (b0 C B : Nat) (S L : Value) (evs : List ByteArray) (m n : Int) (h : SideAt w b0 C B S L evs) (hn : 1 ≤ n ∧ n ≤ (evs.length : Int)) (hm : m < 0 ∨ n ≤ m) :
    Calls Try.prog 35 #[.pointer (some ⟨C, 0, none⟩), .int .i64 3, .int .i64 m, .int .i64 n] w fun e w' => e = .returned (.tuple #[.string ⟨#[]⟩, .bool false]) ∧ w' = w := by
  have HV := version_side w b0 C B S L evs n h
  rw [decide_eq_true hn] at HV
  clear h
  by_cases h1 : m < 0
  · clear hm
    go_enter Try.func35, Try.ntmps35
    go_wp2_with fail
    refine HV.mono ?_
    rintro e w' ⟨rfl, rfl⟩
    clear HV
    go_wp2
    go_ret2
    exact ⟨rfl, rfl⟩
  · have h2 : n ≤ m := by omega
    clear hm
    go_enter Try.func35, Try.ntmps35
    go_wp2_with fail
    refine HV.mono ?_
    rintro e w' ⟨rfl, rfl⟩
    clear HV
    go_wp2
    go_ret2
    exact ⟨rfl, rfl⟩

set_option maxRecDepth 100000 in
set_option maxHeartbeats 2000000 in
theorem want_commit (w : World) (b0 C B : Nat) (S L : Value) (evs : List ByteArray) (n : Nat) (m : Int) (h : SideAt w b0 C B S L evs) (h1 : 1 ≤ n) (h2 : n ≤ evs.length) (hl : evs.length ≤ 500) (hs : ∀ s ∈ evs, s.size ≤ 50) :
    Calls Try.prog 35 #[.pointer (some ⟨C, 0, none⟩), .int .i64 1, .int .i64 m, .int .i64 n] w fun e w' => e = .returned (.tuple #[.string ⟨(commitB (evs.take n)).toArray⟩, .bool true]) ∧ Below w.heap.size w w' := by
  have hss : ∀ s ∈ evs, s.size ≤ 255 := fun s q => by have := hs s q; omega
  have hln : (evs.take n).length = n := by rw [List.length_take]; omega
  have hd16 : dep n ≤ 16 := dep_le _ 16 (by rw [pw_16]; omega)
  have hdb := dig_bd (evs.take n) (dep n) 0
  have HS : Hid (SmallM 1 0 n (dig (evs.take n) (dep n) 0) []) := ⟨by omega, by omega, ⟨by omega, by omega⟩, hdb, by simp, fun x hx => by cases hx⟩
  have HM : Hid (commitB (evs.take n) = encM 1 0 n (dig (evs.take n) (dep n) 0) []) := by show _ = _; unfold commitB; rw [hln]
  have HV := version_side w b0 C B S L evs n h
  rw [decide_eq_true (show 1 ≤ (n : Int) ∧ (n : Int) ≤ evs.length by omega)] at HV
  obtain ⟨c0, c1, _⟩ := h.cells
  obtain ⟨ao, cap, rfl, hst⟩ := owns_strings h.row
  have DP : ∀ w' : World, Calls Try.prog 34 #[.int .i64 n] w' fun e w'' => e = .returned (.int .i64 (dep n)) ∧ w'' = w' := fun w' => depth_any n w' (by omega)
  go_enter Try.func35, Try.ntmps35
  go_wp2_with fail
  refine HV.mono ?_
  rintro e w' ⟨rfl, rfl⟩
  have hX : Below w'.heap.size w' (w'.alloc (.cells #[.int .i64 1, .int .i64 0, .int .i64 n, .int .i64 0, .slice none 0 0] 42)) := (Below.refl _ _).alloc (Nat.le_refl _) _
  have d0 := cell_keep c0 hX
  have d1 := cell_keep c1 hX
  have HST : Hid _ := StringsAt.below hst hX
  have HN : Hid _ := heap_alloc_new w' (.cells #[.int .i64 1, .int .i64 0, .int .i64 n, .int .i64 0, .slice none 0 0] 42)
  have HX : Hid _ := hX
  clear hX HV
  go_wp2
  have hw0 := HX.out
  have hst0 := HST.out
  have hn0 := HN.out
  clear HX HST HN c0 c1 hst
  generalize w'.alloc (.cells #[.int .i64 1, .int .i64 0, .int .i64 n, .int .i64 0, .slice none 0 0] 42) = X at hw0 hst0 hn0 d0 d1 ⊢
  go_still_tail 7, (by kernel_rfl)
  still_call (DP _)
  repeat still_step
  refine wpStill_nil ?_
  generalize hwd : (World.mk X.heap X.tape (X.drawn + 1) X.os X.output) = wd
  have hbd : Below X.heap.size X wd := by rw [← hwd]; exact (Below.refl _ _).drew
  have hbz : wd.heap.size = X.heap.size := by rw [← hwd]
  clear hwd
  go_wp2_with fail
  refine (digest_ref evs n h2 (by omega) hss (.slice ao evs.length cap) n rfl (dep n) hd16 0 0 (dep n) wd rfl rfl (by omega) (StringsAt.below hst0 hbd)).mono ?_
  rintro e w2 ⟨rfl, hb2⟩
  have hN2 : w2.heap[w'.heap.size]? = some (.cells #[.int .i64 1, .int .i64 0, .int .i64 n, .int .i64 0, .slice none 0 0] 42) := by
    rw [hb2.block _ (by rw [hbz]; exact lt_of_heap hn0), hbd.block _ (lt_of_heap hn0)]; exact hn0
  have q0 : w2.cell? ⟨w'.heap.size, 0, none⟩ = some (.int .i64 1) := by rw [cell_of_row _ _ _ _ _ _ hN2]; rfl
  have q1 : w2.cell? ⟨w'.heap.size, 1, none⟩ = some (.int .i64 0) := by rw [cell_of_row _ _ _ _ _ _ hN2]; rfl
  have q2 : w2.cell? ⟨w'.heap.size, 2, none⟩ = some (.int .i64 n) := by rw [cell_of_row _ _ _ _ _ _ hN2]; rfl
  have q3 : w2.cell? ⟨w'.heap.size, 3, none⟩ = some (.int .i64 0) := by rw [cell_of_row _ _ _ _ _ _ hN2]; rfl
  have q4 : w2.cell? ⟨w'.heap.size, 4, none⟩ = some (.slice none 0 0) := by rw [cell_of_row _ _ _ _ _ _ hN2]; rfl
  have qz : w2.frozen? ⟨w'.heap.size, 3, none⟩ = false := by unfold World.frozen?; rw [hN2]; rfl
  have hB2 : Below w'.heap.size w' w2 := (hw0.trans (hbd.mono hw0.size)).trans (hb2.mono (by rw [hbz]; exact hw0.size))
  clear d0 d1 hst0 hn0 hb2 hbd DP
  generalize dig (evs.take n) (dep n) 0 = dg at *
  go_wp2_with fail
  refine (refBytes_any 1 0 n dg _ [] _ (NodesAt.of_owns (ns := []) (World.ownsRow_nil _ 0 _ _)).any HS.out).mono ?_
  rintro e w5 ⟨rfl, hb5⟩
  have hB4 : Below w'.heap.size w' (w2.setCell ⟨w'.heap.size, 3, none⟩ (.int .i64 dg)) := hB2.setCell (Nat.le_refl _) _
  have hB5 := hB4.trans (hb5.mono hB4.size)
  go_wp2
  go_ret2
  exact ⟨by rw [HM.out]; rfl, hB5⟩

theorem owns_put {w : World} {b0 b k c n : Nat} {t : TypeId} {v : Value} {xs : List Value} (h : w.ownsRow b0 t c v n xs) (hb : b < b0) (x : Value) : (w.setCell ⟨b, k, none⟩ x).ownsRow b0 t c v n xs := by
  obtain ⟨h1, h2⟩ := h
  refine ⟨h1, h2.imp id fun ⟨g, cap, cur, e, hg, hh, r⟩ => ⟨g, cap, cur, e, hg, ?_, r⟩⟩
  rw [Below.heap_setCell _ _ _ _ (by show g ≠ b; omega)]
  exact hh

set_option maxRecDepth 100000 in
set_option maxHeartbeats 4000000 in
theorem want_growth (w : World) (b0 C B : Nat) (S L : Value) (evs : List ByteArray) (n : Nat) (m : Int) (h : SideAt w b0 C B S L evs) (h1 : 1 ≤ n) (h2 : n ≤ evs.length) (hm1 : 1 ≤ m) (hm : m ≤ (n : Int)) (hl : evs.length ≤ 500) (hs : ∀ s ∈ evs, s.size ≤ 50) :
    Calls Try.prog 35 #[.pointer (some ⟨C, 0, none⟩), .int .i64 2, .int .i64 m, .int .i64 n] w fun e w' => e = .returned (.tuple #[.string ⟨(growthB (evs.take n) m).toArray⟩, .bool true]) ∧ Below w.heap.size w w' := by
  have hss : ∀ s ∈ evs, s.size ≤ 255 := fun s q => by have := hs s q; omega
  have hln : (evs.take n).length = n := by rw [List.length_take]; omega
  have hd16 : dep n ≤ 16 := dep_le _ 16 (by rw [pw_16]; omega)
  have hdb := dig_bd (evs.take n) (dep n) 0
  have hsm := small_prune (evs.take n) (ruleG m) 2 m (dig (evs.take n) (dep n) 0) (by omega) (by omega) hdb (by omega) (take_small hss)
  rw [hln] at hsm
  have HS : Hid _ := hsm
  clear hsm
  have HM : Hid (growthB (evs.take n) m = encM 2 m n (dig (evs.take n) (dep n) 0) (pruneN (evs.take n) (ruleK 2 m) (dep n) 0)) := by show _ = _; unfold growthB; rw [hln]; rfl
  have HV := version_side w b0 C B S L evs n h
  rw [decide_eq_true (show 1 ≤ (n : Int) ∧ (n : Int) ≤ evs.length by omega)] at HV
  obtain ⟨c0, c1, _⟩ := h.cells
  obtain ⟨ao, cap, rfl, hst⟩ := owns_strings h.row
  have i1 : ¬ ((n : Int) < m) := by omega
  have i2 : ¬ (m < 1) := by omega
  have DP : ∀ w' : World, Calls Try.prog 34 #[.int .i64 n] w' fun e w'' => e = .returned (.int .i64 (dep n)) ∧ w'' = w' := fun w' => depth_any n w' (by omega)
  go_enter Try.func35, Try.ntmps35
  go_wp2_with fail
  refine HV.mono ?_
  rintro e w' ⟨rfl, rfl⟩
  have hX : Below w'.heap.size w' (w'.alloc (.cells #[.int .i64 2, .int .i64 m, .int .i64 n, .int .i64 0, .slice none 0 0] 42)) := (Below.refl _ _).alloc (Nat.le_refl _) _
  have d0 := cell_keep c0 hX
  have d1 := cell_keep c1 hX
  have HST : Hid _ := StringsAt.below hst hX
  have HN : Hid _ := heap_alloc_new w' (.cells #[.int .i64 2, .int .i64 m, .int .i64 n, .int .i64 0, .slice none 0 0] 42)
  have hM0 : MsgBox (w'.alloc (.cells #[.int .i64 2, .int .i64 m, .int .i64 n, .int .i64 0, .slice none 0 0] 42)) w'.heap.size 2 m n 0 (.slice none 0 0) := by refine ⟨?_, ?_, ?_, ?_, ?_⟩ <;> simp
  have HX : Hid _ := hX
  have HC : Hid (C < w'.heap.size) := lt_of_heap h.blk
  clear hX HV
  go_wp2
  have hw0 := HX.out
  have hst0 := HST.out
  have hn0 := HN.out
  have hCs := HC.out
  clear HX HST HN HC c0 c1 hst
  generalize w'.alloc (.cells #[.int .i64 2, .int .i64 m, .int .i64 n, .int .i64 0, .slice none 0 0] 42) = X at hM0 hw0 hst0 hn0 d0 d1 ⊢
  obtain ⟨m0, m1, m2, m3, m4⟩ := hM0
  go_still_tail 7, (by kernel_rfl)
  still_call (DP _)
  repeat still_step
  refine wpStill_nil ?_
  generalize hwd : (World.mk X.heap X.tape (X.drawn + 1) X.os X.output) = wd
  have hbd : Below X.heap.size X wd := by rw [← hwd]; exact (Below.refl _ _).drew
  have hbz : wd.heap.size = X.heap.size := by rw [← hwd]
  clear hwd
  go_wp2_with fail
  refine (tree_ref evs n h2 (by omega) hss (.slice ao evs.length cap) 2 m 0 (.slice none 0 0) (dep n) hd16 0 0 (dep n) wd rfl rfl (by omega) (StringsAt.below hst0 hbd)).mono ?_
  rintro e w2 ⟨v2, rfl, hO2, hb2⟩
  obtain ⟨g, cp, ev2⟩ : ∃ g cp, v2 = .slice (some ⟨g, 0, none⟩) (pruneN (evs.take n) (ruleK 2 m) (dep n) 0).length cp := by
    have := (pruneN_len (evs.take n) (ruleK 2 m) (dep n) 0).1
    rcases hO2.2 with ⟨_, h0⟩ | ⟨g, cp, cur, rfl, _⟩
    · omega
    · exact ⟨g, cp, rfl⟩
  have hN2 : w2.heap[w'.heap.size]? = some (.cells #[.int .i64 2, .int .i64 m, .int .i64 n, .int .i64 0, .slice none 0 0] 42) := by
    rw [hb2.block _ (by rw [hbz]; exact lt_of_heap hn0), hbd.block _ (lt_of_heap hn0)]; exact hn0
  have hlt := lt_of_heap hn0
  have q4 : w2.cell? ⟨w'.heap.size, 4, none⟩ = some (.slice none 0 0) := by rw [cell_of_row _ _ _ _ _ _ hN2]; rfl
  have qz : w2.frozen? ⟨w'.heap.size, 4, none⟩ = false := by unfold World.frozen?; rw [hN2]; rfl
  have hB2 : Below w'.heap.size w' w2 := (hw0.trans (hbd.mono hw0.size)).trans (hb2.mono (by rw [hbz]; exact hw0.size))
  have hB3 : Below w'.heap.size w' (w2.setCell ⟨w'.heap.size, 4, none⟩ v2) := hB2.setCell (Nat.le_refl _) _
  have hN3 : (w2.setCell ⟨w'.heap.size, 4, none⟩ v2).heap[w'.heap.size]? = some (.cells #[.int .i64 2, .int .i64 m, .int .i64 n, .int .i64 0, v2] 42) := by
    rw [heap_setCell_same _ _ 4 _ _ v2 hN2]; rfl
  have e1 : (w2.setCell ⟨w'.heap.size, 4, none⟩ v2).cell? ⟨C, 1, none⟩ = some (.slice ao evs.length cap) := by
    rw [cell_of_row _ _ _ _ _ _ (show _ = some _ from (hB3.block C hCs).trans h.blk)]; rfl
  have HST3 : Hid _ := StringsAt.below (owns_strings h.row).choose_spec.choose_spec.2 hB3
  have HO3 : Hid _ := owns_put (k := 4) hO2 (b := w'.heap.size) (by rw [hbz]; omega) v2
  have H3 : Hid _ := hB3
  have HN3 : Hid _ := hN3
  have HB : Hid (X.heap.size ≤ w2.heap.size) := by have := hb2.size; rw [hbz] at this; exact this
  clear m0 m1 m2 m3 m4 d0 d1 hst0 hn0 hb2 hbd h hB2 hB3 hN3
  generalize hnn : (pruneN (evs.take n) (ruleK 2 m) (dep n) 0).length = nn at ev2
  subst ev2
  go_wp2
  generalize w2.setCell ⟨w'.heap.size, 4, none⟩ (.slice (some ⟨g, 0, none⟩) nn cp) = Y at HST3 HO3 H3 HN3 e1 ⊢
  go_still_tail 7, (by kernel_rfl)
  still_call (DP _)
  repeat still_step
  refine wpStill_nil ?_
  generalize hwe : (World.mk Y.heap Y.tape (Y.drawn + 1) Y.os Y.output) = we
  have hbe : Below Y.heap.size Y we := by rw [← hwe]; exact (Below.refl _ _).drew
  have hez : we.heap.size = Y.heap.size := by rw [← hwe]
  clear hwe e1
  have hlt3 := lt_of_heap HN3.out
  go_wp2_with fail
  refine (digest_ref evs n h2 (by omega) hss (.slice ao evs.length cap) n rfl (dep n) hd16 0 0 (dep n) we rfl rfl (by omega) (StringsAt.below HST3.out hbe)).mono ?_
  rintro e w4 ⟨rfl, hb4⟩
  have hN4 : w4.heap[w'.heap.size]? = some (.cells #[.int .i64 2, .int .i64 m, .int .i64 n, .int .i64 0, .slice (some ⟨g, 0, none⟩) nn cp] 42) := by
    rw [hb4.block _ (by rw [hez]; exact hlt3), hbe.block _ hlt3]; exact HN3.out
  have f0 : w4.cell? ⟨w'.heap.size, 0, none⟩ = some (.int .i64 2) := by rw [cell_of_row _ _ _ _ _ _ hN4]; rfl
  have f1 : w4.cell? ⟨w'.heap.size, 1, none⟩ = some (.int .i64 m) := by rw [cell_of_row _ _ _ _ _ _ hN4]; rfl
  have f2 : w4.cell? ⟨w'.heap.size, 2, none⟩ = some (.int .i64 n) := by rw [cell_of_row _ _ _ _ _ _ hN4]; rfl
  have f3 : w4.cell? ⟨w'.heap.size, 3, none⟩ = some (.int .i64 0) := by rw [cell_of_row _ _ _ _ _ _ hN4]; rfl
  have f4 : w4.cell? ⟨w'.heap.size, 4, none⟩ = some (.slice (some ⟨g, 0, none⟩) nn cp) := by rw [cell_of_row _ _ _ _ _ _ hN4]; rfl
  have fz : w4.frozen? ⟨w'.heap.size, 3, none⟩ = false := by unfold World.frozen?; rw [hN4]; rfl
  have hB4 : Below w'.heap.size w' w4 := (H3.out.trans (hbe.mono H3.out.size)).trans (hb4.mono (by rw [hez]; exact H3.out.size))
  have HO5 : Hid _ := (NodesAt.of_owns (owns_put (k := 3) (owns_below (owns_below HO3.out hbe) hb4) (b := w'.heap.size) (by rw [hbz]; omega) (.int .i64 (dig (evs.take n) (dep n) 0)))).any
  have hB5 : Below w'.heap.size w' (w4.setCell ⟨w'.heap.size, 3, none⟩ (.int .i64 (dig (evs.take n) (dep n) 0))) := hB4.setCell (Nat.le_refl _) _
  have H5 : Hid _ := hB5
  clear hB4 hB5 hN4 hb4 hbe HO3 H3 HN3 HST3 DP
  generalize dig (evs.take n) (dep n) 0 = dg at *
  go_wp2_with fail
  refine (refBytes_any 2 m n dg _ _ _ HO5.out HS.out).mono ?_
  rintro e w6 ⟨rfl, hb6⟩
  have hB6 := H5.out.trans (hb6.mono H5.out.size)
  go_wp2
  go_ret2
  exact ⟨by rw [HM.out]; rfl, hB6⟩
end Go.Proofs.Ytlndinigbppafaa

/-
  The statements' own side of a log: its messages, against what it wants of them.
-/
namespace Go.Proofs.Ytlndinigbppafaa
open Go.RowKit

theorem encM_pos (k M N R : Int) (ns : List PN) : 0 < (encM k M N R ns).length := by unfold encM encH; simp
theorem conv_nil_s (u : World) : (convert 24 9 (.slice none 0 0)).run Try.prog u = .ok (.string ⟨#[]⟩) u := by
  rw [run_convert_bytes_string _ _ _ 5 none 0 0 Try.underlying24 Try.underlying5 Try.underlying9]
  rfl
theorem own_row {w : World} {b : Nat} {v : Value} {l : List UInt8} (h : w.ownsRow b 5 1 v l.length (bytes8 l)) (hl : 0 < l.length) : ∃ g cp, v = .slice (some ⟨g, 0, none⟩) l.length cp ∧ BytesAt w (.slice (some ⟨g, 0, none⟩) l.length cp) l := by
  have hB := BytesAt.of_owns h
  rcases h.2 with ⟨_, h0⟩ | ⟨g, cp, cur, rfl, _⟩
  · omega
  · exact ⟨g, cp, rfl, hB⟩

set_option maxRecDepth 100000 in
set_option maxHeartbeats 2000000 in
theorem say_commit (w : World) (b0 C B : Nat) (S L : Value) (evs : List ByteArray) (n : Nat) (m : Int) (h : SideAt w b0 C B S L evs) (h1 : 1 ≤ n) (h2 : n ≤ evs.length) (hl : evs.length ≤ 500) (hs : ∀ s ∈ evs, s.size ≤ 50) :
    Calls Try.prog 14 #[.pointer (some ⟨C, 0, none⟩), .int .i64 1, .int .i64 m, .int .i64 n] w fun e w' => (∃ v, e = .returned (.tuple #[v, .bool true])) ∧ Below w.heap.size w w' := by
  have hss : ∀ s ∈ evs, s.size ≤ 255 := fun s q => by have := hs s q; omega
  have hpos : 0 < (commitB (evs.take n)).length := by unfold commitB; exact encM_pos _ _ _ _ _
  have HH : Hid _ := h
  clear h
  go_enter Try.func14, Try.ntmps14
  go_wp2_with fail
  refine (want_commit w b0 C B S L evs n m HH.out h1 h2 hl hs).mono ?_
  rintro e w1 ⟨rfl, hb1⟩
  have d0 := (HH.out.below hb1).cells.1
  have HL : Hid _ := (HH.out.below hb1).log
  go_wp2_with fail
  refine (commit_ok _ _ _ _ _ n HL.out h1 h2 (by omega) hss).mono ?_
  rintro e w2 ⟨y, rfl, hO, hb2⟩
  obtain ⟨g, cp, rfl, hby⟩ := own_row hO hpos
  have hcv := conv_row2 _ _ _ _ hby
  have hb := hb1.trans (hb2.mono hb1.size)
  clear hby hO hpos d0
  generalize commitB (evs.take n) = l at *
  go_wp2_with fail
  refine (num_law _ _).mono ?_
  rintro e w' ⟨rfl, rfl⟩
  go_wp2
  go_ret2
  exact ⟨⟨_, rfl⟩, hb⟩

set_option maxRecDepth 100000 in
set_option maxHeartbeats 2000000 in
theorem say_growth (w : World) (b0 C B : Nat) (S L : Value) (evs : List ByteArray) (n : Nat) (m : Int) (h : SideAt w b0 C B S L evs) (h1 : 1 ≤ n) (h2 : n ≤ evs.length) (hm1 : 1 ≤ m) (hm2 : m ≤ (n : Int)) (hl : evs.length ≤ 500) (hs : ∀ s ∈ evs, s.size ≤ 50) :
    Calls Try.prog 14 #[.pointer (some ⟨C, 0, none⟩), .int .i64 2, .int .i64 m, .int .i64 n] w fun e w' => (∃ v, e = .returned (.tuple #[v, .bool true])) ∧ Below w.heap.size w w' := by
  have hss : ∀ s ∈ evs, s.size ≤ 255 := fun s q => by have := hs s q; omega
  have hpos : 0 < (growthB (evs.take n) m).length := by unfold growthB; exact encM_pos _ _ _ _ _
  have HH : Hid _ := h
  clear h
  go_enter Try.func14, Try.ntmps14
  go_wp2_with fail
  refine (want_growth w b0 C B S L evs n m HH.out h1 h2 hm1 hm2 hl hs).mono ?_
  rintro e w1 ⟨rfl, hb1⟩
  have d0 := (HH.out.below hb1).cells.1
  have HL : Hid _ := (HH.out.below hb1).log
  go_wp2_with fail
  refine (growth_ok _ _ _ _ _ m n HL.out h1 h2 (by omega) (by omega) (by omega) hss).mono ?_
  rintro e w2 ⟨y, rfl, hO, hb2⟩
  obtain ⟨g, cp, rfl, hby⟩ := own_row hO hpos
  have hcv := conv_row2 _ _ _ _ hby
  have hb := hb1.trans (hb2.mono hb1.size)
  clear hby hO hpos d0
  generalize growthB (evs.take n) m = l at *
  go_wp2_with fail
  refine (num_law _ _).mono ?_
  rintro e w' ⟨rfl, rfl⟩
  go_wp2
  go_ret2
  exact ⟨⟨_, rfl⟩, hb⟩

set_option maxRecDepth 100000 in
set_option maxHeartbeats 2000000 in
theorem say_member (w : World) (b0 C B : Nat) (S L : Value) (evs : List ByteArray) (n m : Nat) (h : SideAt w b0 C B S L evs) (h1 : 1 ≤ n) (h2 : n ≤ evs.length) (hm2 : m < n) (hl : evs.length ≤ 500) (hs : ∀ s ∈ evs, s.size ≤ 50) :
    Calls Try.prog 14 #[.pointer (some ⟨C, 0, none⟩), .int .i64 3, .int .i64 m, .int .i64 n] w fun e w' => (∃ v, e = .returned (.tuple #[v, .bool true])) ∧ Below w.heap.size w w' := by
  have hss : ∀ s ∈ evs, s.size ≤ 255 := fun s q => by have := hs s q; omega
  have hpos : 0 < (memberB (evs.take n) m).length := by unfold memberB; exact encM_pos _ _ _ _ _
  have HH : Hid _ := h
  clear h
  go_enter Try.func14, Try.ntmps14
  go_wp2_with fail
  refine (want_member w b0 C B S L evs n m HH.out h1 h2 hm2 hl hs).mono ?_
  rintro e w1 ⟨rfl, hb1⟩
  have d0 := (HH.out.below hb1).cells.1
  have HL : Hid _ := (HH.out.below hb1).log
  go_wp2_with fail
  refine (member_ok _ _ _ _ _ m n HL.out h1 h2 (by omega) (by omega) (by omega) hss).mono ?_
  rintro e w2 ⟨y, rfl, hO, hb2⟩
  obtain ⟨g, cp, rfl, hby⟩ := own_row hO hpos
  have hcv := conv_row2 _ _ _ _ hby
  have hb := hb1.trans (hb2.mono hb1.size)
  clear hby hO hpos d0
  generalize memberB (evs.take n) m = l at *
  go_wp2_with fail
  refine (num_law _ _).mono ?_
  rintro e w' ⟨rfl, rfl⟩
  go_wp2
  go_ret2
  exact ⟨⟨_, rfl⟩, hb⟩

set_option maxRecDepth 100000 in
set_option maxHeartbeats 2000000 in
theorem say_commit_none (w : World) (b0 C B : Nat) (S L : Value) (evs : List ByteArray) (m n : Int) (h : SideAt w b0 C B S L evs) (hn : ¬ (1 ≤ n ∧ n ≤ (evs.length : Int))) :
    Calls Try.prog 14 #[.pointer (some ⟨C, 0, none⟩), .int .i64 1, .int .i64 m, .int .i64 n] w fun e w' => (∃ v, e = .returned (.tuple #[v, .bool true])) ∧ Below w.heap.size w w' := by
  have d0 := h.cells.1
  have HH : Hid _ := h
  clear h
  go_enter Try.func14, Try.ntmps14
  go_wp2_with fail
  refine (want_none w b0 C B S L evs 1 m n HH.out hn).mono ?_
  rintro e w1 ⟨rfl, rfl⟩
  go_wp2_with fail
  refine (commit_no _ _ _ _ _ n HH.out.log (by omega)).mono ?_
  rintro e w2 ⟨rfl, rfl⟩
  have hcv := conv_nil_s w2
  go_wp2_with fail
  refine (num_law _ _).mono ?_
  rintro e w' ⟨rfl, rfl⟩
  go_wp2
  go_ret2
  exact ⟨⟨_, rfl⟩, Below.refl _ _⟩

set_option maxRecDepth 100000 in
set_option maxHeartbeats 2000000 in
theorem say_growth_none (w : World) (b0 C B : Nat) (S L : Value) (evs : List ByteArray) (m n : Int) (h : SideAt w b0 C B S L evs) (hn : ¬ (1 ≤ n ∧ n ≤ (evs.length : Int))) :
    Calls Try.prog 14 #[.pointer (some ⟨C, 0, none⟩), .int .i64 2, .int .i64 m, .int .i64 n] w fun e w' => (∃ v, e = .returned (.tuple #[v, .bool true])) ∧ Below w.heap.size w w' := by
  have d0 := h.cells.1
  have HH : Hid _ := h
  clear h
  go_enter Try.func14, Try.ntmps14
  go_wp2_with fail
  refine (want_none w b0 C B S L evs 2 m n HH.out hn).mono ?_
  rintro e w1 ⟨rfl, rfl⟩
  go_wp2_with fail
  refine (growth_no _ _ _ _ _ m n HH.out.log (by omega)).mono ?_
  rintro e w2 ⟨rfl, rfl⟩
  have hcv := conv_nil_s w2
  go_wp2_with fail
  refine (num_law _ _).mono ?_
  rintro e w' ⟨rfl, rfl⟩
  go_wp2
  go_ret2
  exact ⟨⟨_, rfl⟩, Below.refl _ _⟩

set_option maxRecDepth 100000 in
set_option maxHeartbeats 2000000 in
theorem say_growth_no (w : World) (b0 C B : Nat) (S L : Value) (evs : List ByteArray) (m n : Int) (h : SideAt w b0 C B S L evs) (hn : 1 ≤ n ∧ n ≤ (evs.length : Int)) (hm : m < 1 ∨ n < m) :
    Calls Try.prog 14 #[.pointer (some ⟨C, 0, none⟩), .int .i64 2, .int .i64 m, .int .i64 n] w fun e w' => (∃ v, e = .returned (.tuple #[v, .bool true])) ∧ Below w.heap.size w w' := by
  have d0 := h.cells.1
  have HH : Hid _ := h
  clear h
  go_enter Try.func14, Try.ntmps14
  go_wp2_with fail
  refine (want_no2 w b0 C B S L evs m n HH.out hn hm).mono ?_
  rintro e w1 ⟨rfl, rfl⟩
  go_wp2_with fail
  refine (growth_no2 _ _ _ _ _ m n HH.out.log hn.1 hn.2 hm).mono ?_
  rintro e w2 ⟨rfl, rfl⟩
  have hcv := conv_nil_s w2
  go_wp2_with fail
  refine (num_law _ _).mono ?_
  rintro e w' ⟨rfl, rfl⟩
  go_wp2
  go_ret2
  exact ⟨⟨_, rfl⟩, Below.refl _ _⟩

set_option maxRecDepth 100000 in
set_option maxHeartbeats 2000000 in
theorem say_member_none (w : World) (b0 C B : Nat) (S L : Value) (evs : List ByteArray) (m n : Int) (h : SideAt w b0 C B S L evs) (hn : ¬ (1 ≤ n ∧ n ≤ (evs.length : Int))) :
    Calls Try.prog 14 #[.pointer (some ⟨C, 0, none⟩), .int .i64 3, .int .i64 m, .int .i64 n] w fun e w' => (∃ v, e = .returned (.tuple #[v, .bool true])) ∧ Below w.heap.size w w' := by
  have d0 := h.cells.1
  have HH : Hid _ := h
  clear h
  go_enter Try.func14, Try.ntmps14
  go_wp2_with fail
  refine (want_none w b0 C B S L evs 3 m n HH.out hn).mono ?_
  rintro e w1 ⟨rfl, rfl⟩
  go_wp2_with fail
  refine (member_no _ _ _ _ _ m n HH.out.log (by omega)).mono ?_
  rintro e w2 ⟨rfl, rfl⟩
  have hcv := conv_nil_s w2
  go_wp2_with fail
  refine (num_law _ _).mono ?_
  rintro e w' ⟨rfl, rfl⟩
  go_wp2
  go_ret2
  exact ⟨⟨_, rfl⟩, Below.refl _ _⟩

set_option maxRecDepth 100000 in
set_option maxHeartbeats 2000000 in
theorem say_member_no (w : World) (b0 C B : Nat) (S L : Value) (evs : List ByteArray) (m n : Int) (h : SideAt w b0 C B S L evs) (hn : 1 ≤ n ∧ n ≤ (evs.length : Int)) (hm : m < 0 ∨ n ≤ m) :
    Calls Try.prog 14 #[.pointer (some ⟨C, 0, none⟩), .int .i64 3, .int .i64 m, .int .i64 n] w fun e w' => (∃ v, e = .returned (.tuple #[v, .bool true])) ∧ Below w.heap.size w w' := by
  have d0 := h.cells.1
  have HH : Hid _ := h
  clear h
  go_enter Try.func14, Try.ntmps14
  go_wp2_with fail
  refine (want_no3 w b0 C B S L evs m n HH.out hn hm).mono ?_
  rintro e w1 ⟨rfl, rfl⟩
  go_wp2_with fail
  refine (member_no2 _ _ _ _ _ m n HH.out.log hn.1 hn.2 hm).mono ?_
  rintro e w2 ⟨rfl, rfl⟩
  have hcv := conv_nil_s w2
  go_wp2_with fail
  refine (num_law _ _).mono ?_
  rintro e w' ⟨rfl, rfl⟩
  go_wp2
  go_ret2
  exact ⟨⟨_, rfl⟩, Below.refl _ _⟩

theorem say_any (w : World) (b0 C B : Nat) (S L : Value) (evs : List ByteArray) (k m n : Int) (hk : k = 1 ∨ k = 2 ∨ k = 3) (h : SideAt w b0 C B S L evs) (hl : evs.length ≤ 500) (hs : ∀ s ∈ evs, s.size ≤ 50) :
    Calls Try.prog 14 #[.pointer (some ⟨C, 0, none⟩), .int .i64 k, .int .i64 m, .int .i64 n] w fun e w' => (∃ v, e = .returned (.tuple #[v, .bool true])) ∧ Below w.heap.size w w' := by
  by_cases hn : 1 ≤ n ∧ n ≤ (evs.length : Int)
  · obtain ⟨N, rfl⟩ : ∃ N : Nat, n = N := ⟨n.toNat, by omega⟩
    rcases hk with rfl | rfl | rfl
    · exact say_commit w b0 C B S L evs N m h (by omega) (by omega) hl hs
    · by_cases hm : 1 ≤ m ∧ m ≤ (N : Int)
      · exact say_growth w b0 C B S L evs N m h (by omega) (by omega) hm.1 hm.2 hl hs
      · exact say_growth_no w b0 C B S L evs m N h hn (by omega)
    · by_cases hm : 0 ≤ m ∧ m < (N : Int)
      · obtain ⟨M, rfl⟩ : ∃ M : Nat, m = M := ⟨m.toNat, by omega⟩
        exact say_member w b0 C B S L evs N M h (by omega) (by omega) (by omega) hl hs
      · exact say_member_no w b0 C B S L evs m N h hn (by omega)
  · rcases hk with rfl | rfl | rfl
    · exact say_commit_none w b0 C B S L evs m n h hn
    · exact say_growth_none w b0 C B S L evs m n h hn
    · exact say_member_none w b0 C B S L evs m n h hn
end Go.Proofs.Ytlndinigbppafaa

/-
  The law Logs: its code, its frame.
-/
namespace Go.Proofs.Ytlndinigbppafaa
open Go.Sim Go.Conc Go.Fi Go.RowKit

def r4_0 : Array Oper :=
  #[{ dst := some 6, op := .assign (.const (.bool false)), type := 4, pos := "law.go:120", after := #[], guard := none }]
def r4_1 : Array Oper :=
  #[{ dst := some 19, op := .call { callee := .value (.func 12), args := #[], argTypes := #[] }, type := 30, pos := "law.go:121", after := #[], guard := none },
    { dst := some 18, op := .move (.tmp 19), type := 30, pos := "law.go:121", after := #[{ on := 0, ground := .data }], guard := none },
    { dst := some 20, op := .extract (.tmp 18) 0, type := 29, pos := "law.go:121", after := #[{ on := 1, ground := .data }], guard := none },
    { dst := some 21, op := .extract (.tmp 18) 1, type := 4, pos := "law.go:121", after := #[{ on := 1, ground := .data }, { on := 4, ground := .gcOnly .lateStores }], guard := none },
    { dst := some 7, op := .assign (.tmp 20), type := 29, pos := "law.go:121", after := #[{ on := 2, ground := .data }, { on := 0, ground := .chain }, { on := 0, ground := .phase }, { on := 1, ground := .phase }, { on := 2, ground := .phase }, { on := 3, ground := .textOnly .lateStores }], guard := none },
    { dst := some 8, op := .assign (.tmp 21), type := 4, pos := "law.go:121", after := #[{ on := 3, ground := .data }, { on := 4, ground := .chain }, { on := 0, ground := .phase }, { on := 1, ground := .phase }, { on := 2, ground := .phase }, { on := 3, ground := .phase }, { on := 4, ground := .phase }], guard := none }]
def r4_2 : Array Oper :=
  #[{ dst := some 22, op := .move (.tmp 8), type := 4, pos := "law.go:122", after := #[], guard := none },
    { dst := some 23, op := .unOp .not 4 (.tmp 22), type := 4, pos := "law.go:122", after := #[{ on := 0, ground := .data }], guard := none }]
def r4_3 : Array Oper :=
  #[{ dst := some 6, op := .assign (.const (.bool false)), type := 4, pos := "law.go:123", after := #[], guard := none }]
def r4_4 : Array Oper :=
  #[{ dst := some 9, op := .assign (.const (.int .i64 0)), type := 3, pos := "law.go:125", after := #[], guard := none }]
def r4_5 : Array Oper :=
  #[{ dst := some 24, op := .move (.tmp 9), type := 3, pos := "law.go:125", after := #[], guard := none },
    { dst := some 25, op := .move (.tmp 0), type := 22, pos := "law.go:125", after := #[], guard := none },
    { dst := some 26, op := .call { callee := .builtin .len, args := #[.tmp 25], argTypes := #[22] }, type := 3, pos := "law.go:125", after := #[{ on := 1, ground := .data }], guard := none },
    { dst := some 27, op := .binOp .leq 3 (.tmp 24) (.tmp 26) 3, type := 4, pos := "law.go:125", after := #[{ on := 0, ground := .data }, { on := 2, ground := .data }], guard := none }]
def r4_7 : Array Oper :=
  #[{ dst := some 10, op := .assign (.const (.int .i64 0)), type := 3, pos := "law.go:126", after := #[], guard := none }]
def r4_8 : Array Oper :=
  #[{ dst := some 11, op := .assign (.const (.int .i64 0)), type := 3, pos := "law.go:127", after := #[], guard := none }]
def r4_9 : Array Oper :=
  #[{ dst := some 30, op := .move (.tmp 9), type := 3, pos := "law.go:128", after := #[], guard := none },
    { dst := some 31, op := .move (.tmp 1), type := 28, pos := "law.go:128", after := #[], guard := none },
    { dst := some 32, op := .call { callee := .builtin .len, args := #[.tmp 31], argTypes := #[28] }, type := 3, pos := "law.go:128", after := #[{ on := 1, ground := .data }], guard := none },
    { dst := some 33, op := .binOp .lss 3 (.tmp 30) (.tmp 32) 3, type := 4, pos := "law.go:128", after := #[{ on := 0, ground := .data }, { on := 2, ground := .data }], guard := none }]
def r4_10 : Array Oper :=
  #[{ dst := some 34, op := .move (.tmp 1), type := 28, pos := "law.go:129", after := #[], guard := none },
    { dst := some 35, op := .move (.tmp 9), type := 3, pos := "law.go:129", after := #[], guard := none },
    { dst := some 36, op := .indexAddr 28 (.tmp 34) (.tmp 35), type := 0, pos := "law.go:129", after := #[{ on := 0, ground := .data }, { on := 1, ground := .data }], guard := none },
    { dst := some 37, op := .load 3 (.tmp 36), type := 3, pos := "law.go:129", after := #[{ on := 2, ground := .data }], guard := none },
    { dst := some 10, op := .assign (.tmp 37), type := 3, pos := "law.go:129", after := #[{ on := 3, ground := .data }, { on := 0, ground := .phase }, { on := 1, ground := .phase }, { on := 2, ground := .phase }, { on := 3, ground := .phase }], guard := none }]
def r4_11 : Array Oper :=
  #[{ dst := some 38, op := .move (.tmp 9), type := 3, pos := "law.go:131", after := #[], guard := none },
    { dst := some 39, op := .move (.tmp 2), type := 28, pos := "law.go:131", after := #[], guard := none },
    { dst := some 40, op := .call { callee := .builtin .len, args := #[.tmp 39], argTypes := #[28] }, type := 3, pos := "law.go:131", after := #[{ on := 1, ground := .data }], guard := none },
    { dst := some 41, op := .binOp .lss 3 (.tmp 38) (.tmp 40) 3, type := 4, pos := "law.go:131", after := #[{ on := 0, ground := .data }, { on := 2, ground := .data }], guard := none }]
def r4_12 : Array Oper :=
  #[{ dst := some 42, op := .move (.tmp 2), type := 28, pos := "law.go:132", after := #[], guard := none },
    { dst := some 43, op := .move (.tmp 9), type := 3, pos := "law.go:132", after := #[], guard := none },
    { dst := some 44, op := .indexAddr 28 (.tmp 42) (.tmp 43), type := 0, pos := "law.go:132", after := #[{ on := 0, ground := .data }, { on := 1, ground := .data }], guard := none },
    { dst := some 45, op := .load 3 (.tmp 44), type := 3, pos := "law.go:132", after := #[{ on := 2, ground := .data }], guard := none },
    { dst := some 11, op := .assign (.tmp 45), type := 3, pos := "law.go:132", after := #[{ on := 3, ground := .data }, { on := 0, ground := .phase }, { on := 1, ground := .phase }, { on := 2, ground := .phase }, { on := 3, ground := .phase }], guard := none }]
def r4_13 : Array Oper :=
  #[{ dst := some 46, op := .move (.tmp 7), type := 29, pos := "law.go:134", after := #[], guard := none },
    { dst := some 47, op := .move (.tmp 11), type := 3, pos := "law.go:134", after := #[], guard := none },
    { dst := some 48, op := .call { callee := .value (.func 13), args := #[.tmp 46, .tmp 47], argTypes := #[29, 3] }, type := 4, pos := "law.go:134", after := #[{ on := 0, ground := .data }, { on := 1, ground := .data }], guard := none },
    { dst := some 8, op := .assign (.tmp 48), type := 4, pos := "law.go:134", after := #[{ on := 2, ground := .data }, { on := 2, ground := .chain }, { on := 0, ground := .phase }, { on := 1, ground := .phase }, { on := 2, ground := .phase }], guard := none }]
def r4_14 : Array Oper :=
  #[{ dst := some 50, op := .move (.tmp 7), type := 29, pos := "law.go:135", after := #[], guard := none },
    { dst := some 51, op := .move (.tmp 10), type := 3, pos := "law.go:135", after := #[], guard := none },
    { dst := some 52, op := .move (.tmp 11), type := 3, pos := "law.go:135", after := #[], guard := none },
    { dst := some 53, op := .call { callee := .value (.func 14), args := #[.tmp 50, .const (.int .i64 1), .tmp 51, .tmp 52], argTypes := #[29, 3, 3, 3] }, type := 33, pos := "law.go:135", after := #[{ on := 0, ground := .data }, { on := 1, ground := .data }, { on := 2, ground := .data }], guard := none },
    { dst := some 49, op := .move (.tmp 53), type := 33, pos := "law.go:135", after := #[{ on := 3, ground := .data }], guard := none },
    { dst := some 54, op := .extract (.tmp 49) 0, type := 24, pos := "law.go:135", after := #[{ on := 4, ground := .data }], guard := none },
    { dst := some 55, op := .extract (.tmp 49) 1, type := 4, pos := "law.go:135", after := #[{ on := 4, ground := .data }, { on := 7, ground := .gcOnly .lateStores }], guard := none },
    { dst := some 12, op := .assign (.tmp 54), type := 24, pos := "law.go:135", after := #[{ on := 5, ground := .data }, { on := 3, ground := .chain }, { on := 0, ground := .phase }, { on := 1, ground := .phase }, { on := 2, ground := .phase }, { on := 3, ground := .phase }, { on := 4, ground := .phase }, { on := 5, ground := .phase }, { on := 6, ground := .textOnly .lateStores }], guard := none },
    { dst := some 13, op := .assign (.tmp 55), type := 4, pos := "law.go:135", after := #[{ on := 6, ground := .data }, { on := 7, ground := .chain }, { on := 0, ground := .phase }, { on := 1, ground := .phase }, { on := 2, ground := .phase }, { on := 3, ground := .phase }, { on := 4, ground := .phase }, { on := 5, ground := .phase }, { on := 6, ground := .phase }, { on := 7, ground := .phase }], guard := none }]
def r4_15 : Array Oper :=
  #[{ dst := some 57, op := .move (.tmp 7), type := 29, pos := "law.go:136", after := #[], guard := none },
    { dst := some 58, op := .move (.tmp 10), type := 3, pos := "law.go:136", after := #[], guard := none },
    { dst := some 59, op := .move (.tmp 11), type := 3, pos := "law.go:136", after := #[], guard := none },
    { dst := some 60, op := .call { callee := .value (.func 14), args := #[.tmp 57, .const (.int .i64 2), .tmp 58, .tmp 59], argTypes := #[29, 3, 3, 3] }, type := 33, pos := "law.go:136", after := #[{ on := 0, ground := .data }, { on := 1, ground := .data }, { on := 2, ground := .data }], guard := none },
    { dst := some 56, op := .move (.tmp 60), type := 33, pos := "law.go:136", after := #[{ on := 3, ground := .data }], guard := none },
    { dst := some 61, op := .extract (.tmp 56) 0, type := 24, pos := "law.go:136", after := #[{ on := 4, ground := .data }], guard := none },
    { dst := some 62, op := .extract (.tmp 56) 1, type := 4, pos := "law.go:136", after := #[{ on := 4, ground := .data }, { on := 7, ground := .gcOnly .lateStores }], guard := none },
    { dst := some 14, op := .assign (.tmp 61), type := 24, pos := "law.go:136", after := #[{ on := 5, ground := .data }, { on := 3, ground := .chain }, { on := 0, ground := .phase }, { on := 1, ground := .phase }, { on := 2, ground := .phase }, { on := 3, ground := .phase }, { on := 4, ground := .phase }, { on := 5, ground := .phase }, { on := 6, ground := .textOnly .lateStores }], guard := none },
    { dst := some 15, op := .assign (.tmp 62), type := 4, pos := "law.go:136", after := #[{ on := 6, ground := .data }, { on := 7, ground := .chain }, { on := 0, ground := .phase }, { on := 1, ground := .phase }, { on := 2, ground := .phase }, { on := 3, ground := .phase }, { on := 4, ground := .phase }, { on := 5, ground := .phase }, { on := 6, ground := .phase }, { on := 7, ground := .phase }], guard := none }]
def r4_16 : Array Oper :=
  #[{ dst := some 64, op := .move (.tmp 7), type := 29, pos := "law.go:137", after := #[], guard := none },
    { dst := some 65, op := .move (.tmp 10), type := 3, pos := "law.go:137", after := #[], guard := none },
    { dst := some 66, op := .move (.tmp 11), type := 3, pos := "law.go:137", after := #[], guard := none },
    { dst := some 67, op := .call { callee := .value (.func 14), args := #[.tmp 64, .const (.int .i64 3), .tmp 65, .tmp 66], argTypes := #[29, 3, 3, 3] }, type := 33, pos := "law.go:137", after := #[{ on := 0, ground := .data }, { on := 1, ground := .data }, { on := 2, ground := .data }], guard := none },
    { dst := some 63, op := .move (.tmp 67), type := 33, pos := "law.go:137", after := #[{ on := 3, ground := .data }], guard := none },
    { dst := some 68, op := .extract (.tmp 63) 0, type := 24, pos := "law.go:137", after := #[{ on := 4, ground := .data }], guard := none },
    { dst := some 69, op := .extract (.tmp 63) 1, type := 4, pos := "law.go:137", after := #[{ on := 4, ground := .data }, { on := 7, ground := .gcOnly .lateStores }], guard := none },
    { dst := some 16, op := .assign (.tmp 68), type := 24, pos := "law.go:137", after := #[{ on := 5, ground := .data }, { on := 3, ground := .chain }, { on := 0, ground := .phase }, { on := 1, ground := .phase }, { on := 2, ground := .phase }, { on := 3, ground := .phase }, { on := 4, ground := .phase }, { on := 5, ground := .phase }, { on := 6, ground := .textOnly .lateStores }], guard := none },
    { dst := some 17, op := .assign (.tmp 69), type := 4, pos := "law.go:137", after := #[{ on := 6, ground := .data }, { on := 7, ground := .chain }, { on := 0, ground := .phase }, { on := 1, ground := .phase }, { on := 2, ground := .phase }, { on := 3, ground := .phase }, { on := 4, ground := .phase }, { on := 5, ground := .phase }, { on := 6, ground := .phase }, { on := 7, ground := .phase }], guard := none }]
def r4_17 : Array Oper :=
  #[{ dst := some 70, op := .move (.tmp 8), type := 4, pos := "law.go:138", after := #[], guard := none },
    { dst := some 71, op := .unOp .not 4 (.tmp 70), type := 4, pos := "law.go:138", after := #[{ on := 0, ground := .data }], guard := none },
    { dst := some 72, op := .move (.tmp 71), type := 4, pos := "law.go:138", after := #[{ on := 1, ground := .data }], guard := none },
    { dst := some 73, op := .move (.tmp 13), type := 4, pos := "law.go:138", after := #[{ on := 2, ground := .guard }], guard := some (2, false) },
    { dst := some 74, op := .unOp .not 4 (.tmp 73), type := 4, pos := "law.go:138", after := #[{ on := 3, ground := .data }, { on := 2, ground := .guard }], guard := some (2, false) },
    { dst := some 75, op := .pick (.tmp 72) (.const (.bool true)) (.tmp 74), type := 4, pos := "law.go:138", after := #[{ on := 2, ground := .data }, { on := 4, ground := .data }], guard := none },
    { dst := some 76, op := .move (.tmp 75), type := 4, pos := "law.go:138", after := #[{ on := 5, ground := .data }, { on := 2, ground := .chain }], guard := none },
    { dst := some 77, op := .move (.tmp 15), type := 4, pos := "law.go:138", after := #[{ on := 6, ground := .guard }], guard := some (6, false) },
    { dst := some 78, op := .unOp .not 4 (.tmp 77), type := 4, pos := "law.go:138", after := #[{ on := 7, ground := .data }, { on := 6, ground := .guard }], guard := some (6, false) },
    { dst := some 79, op := .pick (.tmp 76) (.const (.bool true)) (.tmp 78), type := 4, pos := "law.go:138", after := #[{ on := 6, ground := .data }, { on := 8, ground := .data }], guard := none },
    { dst := some 80, op := .move (.tmp 79), type := 4, pos := "law.go:138", after := #[{ on := 9, ground := .data }, { on := 6, ground := .chain }], guard := none },
    { dst := some 81, op := .move (.tmp 17), type := 4, pos := "law.go:138", after := #[{ on := 10, ground := .guard }], guard := some (10, false) },
    { dst := some 82, op := .unOp .not 4 (.tmp 81), type := 4, pos := "law.go:138", after := #[{ on := 11, ground := .data }, { on := 10, ground := .guard }], guard := some (10, false) },
    { dst := some 83, op := .pick (.tmp 80) (.const (.bool true)) (.tmp 82), type := 4, pos := "law.go:138", after := #[{ on := 10, ground := .data }, { on := 12, ground := .data }], guard := none }]
def r4_18 : Array Oper :=
  #[{ dst := some 6, op := .assign (.const (.bool false)), type := 4, pos := "law.go:139", after := #[], guard := none }]
def r4_19 : Array Oper :=
  #[{ dst := some 84, op := .move (.tmp 9), type := 3, pos := "law.go:141", after := #[], guard := none },
    { dst := some 85, op := .move (.tmp 0), type := 22, pos := "law.go:141", after := #[], guard := none },
    { dst := some 86, op := .call { callee := .builtin .len, args := #[.tmp 85], argTypes := #[22] }, type := 3, pos := "law.go:141", after := #[{ on := 1, ground := .data }], guard := none },
    { dst := some 87, op := .binOp .lss 3 (.tmp 84) (.tmp 86) 3, type := 4, pos := "law.go:141", after := #[{ on := 0, ground := .data }, { on := 2, ground := .data }], guard := none }]
def r4_20 : Array Oper :=
  #[{ dst := some 88, op := .move (.tmp 7), type := 29, pos := "law.go:142", after := #[], guard := none },
    { dst := some 89, op := .move (.tmp 0), type := 22, pos := "law.go:142", after := #[], guard := none },
    { dst := some 90, op := .move (.tmp 9), type := 3, pos := "law.go:142", after := #[], guard := none },
    { dst := some 91, op := .indexAddr 22 (.tmp 89) (.tmp 90), type := 0, pos := "law.go:142", after := #[{ on := 1, ground := .data }, { on := 2, ground := .data }], guard := none },
    { dst := some 92, op := .load 9 (.tmp 91), type := 9, pos := "law.go:142", after := #[{ on := 3, ground := .data }], guard := none },
    { dst := some 93, op := .call { callee := .value (.func 15), args := #[.tmp 88, .tmp 92], argTypes := #[29, 9] }, type := 4, pos := "law.go:142", after := #[{ on := 0, ground := .data }, { on := 4, ground := .data }], guard := none },
    { dst := some 8, op := .assign (.tmp 93), type := 4, pos := "law.go:142", after := #[{ on := 5, ground := .data }, { on := 5, ground := .chain }, { on := 0, ground := .phase }, { on := 1, ground := .phase }, { on := 2, ground := .phase }, { on := 3, ground := .phase }, { on := 4, ground := .phase }, { on := 5, ground := .phase }], guard := none }]
def r4_21 : Array Oper :=
  #[{ dst := some 95, op := .move (.tmp 7), type := 29, pos := "law.go:144", after := #[], guard := none },
    { dst := some 96, op := .move (.tmp 11), type := 3, pos := "law.go:144", after := #[], guard := none },
    { dst := some 97, op := .call { callee := .value (.func 16), args := #[.tmp 95, .tmp 96], argTypes := #[29, 3] }, type := 36, pos := "law.go:144", after := #[{ on := 0, ground := .data }, { on := 1, ground := .data }], guard := none },
    { dst := some 94, op := .move (.tmp 97), type := 36, pos := "law.go:144", after := #[{ on := 2, ground := .data }], guard := none },
    { dst := some 98, op := .extract (.tmp 94) 0, type := 23, pos := "law.go:144", after := #[{ on := 3, ground := .data }], guard := none },
    { dst := some 99, op := .extract (.tmp 94) 1, type := 4, pos := "law.go:144", after := #[{ on := 3, ground := .data }], guard := none },
    { dst := some 8, op := .assign (.tmp 99), type := 4, pos := "law.go:144", after := #[{ on := 5, ground := .data }, { on := 2, ground := .chain }, { on := 0, ground := .phase }, { on := 1, ground := .phase }, { on := 2, ground := .phase }, { on := 3, ground := .phase }, { on := 4, ground := .phase }, { on := 5, ground := .phase }], guard := none }]
def r4_22 : Array Oper :=
  #[{ dst := some 100, op := .move (.tmp 8), type := 4, pos := "law.go:146", after := #[], guard := none },
    { dst := some 101, op := .unOp .not 4 (.tmp 100), type := 4, pos := "law.go:146", after := #[{ on := 0, ground := .data }], guard := none }]
def r4_23 : Array Oper :=
  #[{ dst := some 6, op := .assign (.const (.bool false)), type := 4, pos := "law.go:147", after := #[], guard := none }]
def r4_6 : Array Oper :=
  #[{ dst := some 28, op := .move (.tmp 9), type := 3, pos := "law.go:125", after := #[], guard := none },
    { dst := some 29, op := .binOp .add 3 (.tmp 28) (.const (.int .i64 1)) 3, type := 3, pos := "law.go:125", after := #[{ on := 0, ground := .data }], guard := none },
    { dst := some 9, op := .assign (.tmp 29), type := 3, pos := "law.go:125", after := #[{ on := 1, ground := .data }, { on := 0, ground := .phase }, { on := 1, ground := .phase }], guard := none }]
def r4_24 : Array Oper :=
  #[{ dst := some 6, op := .assign (.const (.bool true)), type := 4, pos := "law.go:150", after := #[], guard := none }]
def c4 : Code := ((Code.region 0 r4_0 false).seq ((Code.region 1 r4_1 false).seq (((Code.region 2 r4_2 false).seq (Code.cond (Operand.tmp 23) ((Code.region 3 r4_3 false).seq Code.ret) Code.skip)).seq (((Code.region 4 r4_4 false).seq (Code.block 0 (((Code.region 5 r4_5 false).seq (Code.cond (Operand.tmp 27) Code.skip (Code.exit 0))).seq ((Code.block 1 ((Code.region 7 r4_7 false).seq ((Code.region 8 r4_8 false).seq (((Code.region 9 r4_9 false).seq (Code.cond (Operand.tmp 33) (Code.region 10 r4_10 false) Code.skip)).seq (((Code.region 11 r4_11 false).seq (Code.cond (Operand.tmp 41) (Code.region 12 r4_12 false) Code.skip)).seq ((Code.region 13 r4_13 false).seq ((Code.region 14 r4_14 false).seq ((Code.region 15 r4_15 false).seq ((Code.region 16 r4_16 false).seq (((Code.region 17 r4_17 false).seq (Code.cond (Operand.tmp 83) ((Code.region 18 r4_18 false).seq Code.ret) Code.skip)).seq (((Code.region 19 r4_19 false).seq (Code.cond (Operand.tmp 87) (Code.region 20 r4_20 false) (Code.region 21 r4_21 false))).seq ((Code.region 22 r4_22 false).seq (Code.cond (Operand.tmp 101) ((Code.region 23 r4_23 false).seq Code.ret) Code.skip))))))))))))).seq (Code.region 6 r4_6 false))).loop)).seq ((Code.region 24 r4_24 false).seq Code.ret)))))
theorem body4 : Try.f4.body = some c4 := rfl

def p4_1 : Code := (Code.region 1 r4_1 false)
def p4_2 : Code := (Code.region 2 r4_2 false).seq (Code.cond (Operand.tmp 23) ((Code.region 3 r4_3 false).seq Code.ret) Code.skip)
def p4_4 : Code := (Code.region 4 r4_4 false)
def p4_5 : Code := (Code.region 5 r4_5 false).seq (Code.cond (Operand.tmp 27) Code.skip (Code.exit 0))
def p4_6 : Code := (Code.region 6 r4_6 false)
def p4_7 : Code := (Code.region 7 r4_7 false)
def p4_8 : Code := (Code.region 8 r4_8 false)
def p4_9 : Code := (Code.region 9 r4_9 false).seq (Code.cond (Operand.tmp 33) (Code.region 10 r4_10 false) Code.skip)
def p4_11 : Code := (Code.region 11 r4_11 false).seq (Code.cond (Operand.tmp 41) (Code.region 12 r4_12 false) Code.skip)
def p4_13 : Code := (Code.region 13 r4_13 false)
def p4_14 : Code := (Code.region 14 r4_14 false)
def p4_15 : Code := (Code.region 15 r4_15 false)
def p4_16 : Code := (Code.region 16 r4_16 false)
def p4_17 : Code := (Code.region 17 r4_17 false).seq (Code.cond (Operand.tmp 83) ((Code.region 18 r4_18 false).seq Code.ret) Code.skip)
def p4_19 : Code := (Code.region 19 r4_19 false)
def p4_20 : Code := (Code.region 20 r4_20 false)
def p4_22 : Code := (Code.region 22 r4_22 false).seq (Code.cond (Operand.tmp 101) ((Code.region 23 r4_23 false).seq Code.ret) Code.skip)
def b4b : Code := ((Code.region 19 r4_19 false).seq (Code.cond (Operand.tmp 87) (Code.region 20 r4_20 false) (Code.region 21 r4_21 false))).seq p4_22
def b4 : Code := p4_7.seq (p4_8.seq (p4_9.seq (p4_11.seq (p4_13.seq (p4_14.seq (p4_15.seq (p4_16.seq (p4_17.seq b4b))))))))
def lp4 : Code := p4_5.seq ((Code.block 1 b4).seq p4_6)
theorem c4_eq : c4 = (Code.region 0 r4_0 false).seq (p4_1.seq (p4_2.seq ((p4_4.seq (Code.block 0 lp4.loop)).seq ((Code.region 24 r4_24 false).seq Code.ret)))) := rfl
def rl4 : Rl := rolesOf [0, 1, 2, 25, 31, 34, 39, 42, 85, 89] [36, 44, 91]
def px4 (v0 v1 v2 : Value) (C : Nat) (x : Nat → Value) : Act := ⟨#[v0, v1, v2, x 3, x 4, x 5, .bool false, .pointer (some ⟨C, 0, none⟩), x 8, x 9, x 10, x 11, x 12, x 13, x 14, x 15, x 16, x 17, x 18, x 19, x 20, x 21, x 22, x 23, x 24, x 25, x 26, x 27, x 28, x 29, x 30, x 31, x 32, x 33, x 34, x 35, x 36, x 37, x 38, x 39, x 40, x 41, x 42, x 43, x 44, x 45, x 46, x 47, x 48, x 49, x 50, x 51, x 52, x 53, x 54, x 55, x 56, x 57, x 58, x 59, x 60, x 61, x 62, x 63, x 64, x 65, x 66, x 67, x 68, x 69, x 70, x 71, x 72, x 73, x 74, x 75, x 76, x 77, x 78, x 79, x 80, x 81, x 82, x 83, x 84, x 85, x 86, x 87, x 88, x 89, x 90, x 91, x 92, x 93, x 94, x 95, x 96, x 97, x 98, x 99, x 100, x 101], []⟩

/-- A list of numbers in memory. -/
def IntsAt (w : World) (v : Value) (ms : List Int) : Prop :=
  ∃ ao cap, v = .slice ao ms.length cap ∧ (0 < ms.length → ∃ b o, ao = some ⟨b, o, none⟩ ∧ b < w.heap.size ∧ ∀ j (h : j < ms.length), w.cell? ⟨b, o + j, none⟩ = some (.int .i64 ms[j]))
theorem IntsAt.below {w w' : World} {v : Value} {ms : List Int} (h : IntsAt w v ms) (hb : Below w.heap.size w w') : IntsAt w' v ms := by
  obtain ⟨ao, cap, rfl, hc⟩ := h
  refine ⟨ao, cap, rfl, fun hl => ?_⟩
  obtain ⟨b, o, rfl, hbl, hcell⟩ := hc hl
  exact ⟨b, o, rfl, Nat.lt_of_lt_of_le hbl hb.size, fun j hj => cell_keep (hcell j hj) hb⟩

/-- The three arguments. -/
structure Ar4 (w : World) (v0 v1 v2 : Value) (ps : List ByteArray) (ms ns : List Int) : Prop where
  h0 : StringsAt w v0 ps
  h1 : IntsAt w v1 ms
  h2 : IntsAt w v2 ns
  n0 : ps.length ≤ 140737488355328
  p0 : ∀ p ∈ ps, p.size ≤ maxLen
  n1 : ms.length ≤ maxLen
  n2 : ns.length ≤ maxLen
theorem Ar4.below {w w' : World} {v0 v1 v2 : Value} {ps : List ByteArray} {ms ns : List Int} (h : Ar4 w v0 v1 v2 ps ms ns) (hb : Below w.heap.size w w') : Ar4 w' v0 v1 v2 ps ms ns := ⟨h.h0.below hb, h.h1.below hb, h.h2.below hb, h.n0, h.p0, h.n1, h.n2⟩

/-- A piece of the frame, by the walk: from the slots F, with the events evs, to the slots F', with evs'. -/
def Wp4 (b0 C B : Nat) (v0 v1 v2 : Value) (ps : List ByteArray) (ms ns : List Int) (c : Code) (F F' : (Nat → Value) → Prop) (evs evs' : List ByteArray) : Prop :=
  ∀ (u : World) (x : Nat → Value) (S L : Value), F x → SideAt u b0 C B S L evs → b0 ≤ u.heap.size → Ar4 u v0 v1 v2 ps ms ns →
    ∀ Q : Exit → Act → World → Prop, (∀ a' w' S' L', a' = px4 v0 v1 v2 C (fun i => a'.tmps.getD i undef) → F' (fun i => a'.tmps.getD i undef) → SideAt w' b0 C B S' L' evs' → Below b0 u w' → Q .normal a' w') → c.wp Try.prog Q (px4 v0 v1 v2 C x) u

/-- Where the frame stands. -/
structure In4 (w0 : World) (Fo : FoT) (C B : Nat) (v0 v1 v2 : Value) (F : (Nat → Value) → Prop) (evs : List ByteArray) (D : Nat → Prop) (sv : Nat → Value) (t : Array Value) (u : World) : Prop where
  vs : ∀ v ∈ t, Vs D v
  sf : Sf D u
  so : SvOK rl4 Fo sv
  ex : ExtOK Fo D u
  st : ∃ S L, (⟨ov rl4 sv t, []⟩ : Act) = px4 v0 v1 v2 C (fun i => (ov rl4 sv t).getD i undef) ∧ F (fun i => (ov rl4 sv t).getD i undef) ∧ SideAt u w0.heap.size C B S L evs ∧ Bel w0 u

section
variable {Gl : Array Goroutine → World → Option (Nat × Nat) → Trace → Prop} {n : Nat} {k : List Item} {K : List Frame}
theorem piece4 {w0 : World} {Fo : FoT} {C B : Nat} {v0 v1 v2 : Value} {ps : List ByteArray} {ms ns : List Int} {c : Code} {F F' : (Nat → Value) → Prop} {evs evs' : List ByteArray} {D : Nat → Prop} {sv : Nat → Value} {t : Array Value} {u : World}
    (hc : CodeOK Try.prog c) (hr : CodeR Try.prog rl4 c) (hA : Ar4 w0 v0 v1 v2 ps ms ns) (hwp : Wp4 w0.heap.size C B v0 v1 v2 ps ms ns c F F' evs evs') (h : In4 w0 Fo C B v0 v1 v2 F evs D sv t u)
    (hK : ∀ (D' : Nat → Prop) (sv' : Nat → Value) (t' : Array Value) (u' : World), In4 w0 Fo C B v0 v1 v2 F' evs' D' sv' t' u' → Can Gl n (G ((base 4).at ⟨ov rl4 sv' t', []⟩ k) K) u') :
    Can Gl n (G ((base 4).at ⟨ov rl4 sv t, []⟩ (.code c :: k)) K) u := by
  obtain ⟨S, L, e, hF, hS, hb⟩ := h.st
  refine Can.pieceX (Fo := Fo) (rl := rl4) (sv := sv) (a := ⟨t, []⟩) (Q := fun a w' => ∃ S L, a = px4 v0 v1 v2 C (fun i => a.tmps.getD i undef) ∧ F' (fun i => a.tmps.getD i undef) ∧ SideAt w' w0.heap.size C B S L evs' ∧ Bel w0 w') Try.func4 hc hr h.vs rfl h.sf h.so h.ex (fun a u τ q => by obtain ⟨S, L, q1, q2, q3, q4⟩ := q; exact ⟨S, L, q1, q2, side_tp q3, q4.tp τ⟩) (fun τ => ?_) ?_
  · show c.wp Try.prog _ ⟨ov rl4 sv t, []⟩ _
    rw [e]
    have hb1 : Below w0.heap.size (w0.tp τ) (u.tp τ) := ⟨hb.os, rfl, hb.output, hb.size, hb.keep⟩
    have hA0 : Ar4 (w0.tp τ) v0 v1 v2 ps ms ns := ⟨hA.h0, hA.h1, hA.h2, hA.n0, hA.p0, hA.n1, hA.n2⟩
    exact hwp (u.tp τ) _ S L hF (side_tp hS) hb.size (hA0.below hb1) _ fun a' w' S' L' q1 q2 q3 q4 => ⟨rfl, S', L', q1, q2, q3, bel_tp' (hb1.trans q4)⟩
  · intro D' sv' t' w' d vs sf so ex q
    exact hK D' sv' t' w' ⟨vs, sf, so, ex, q⟩
theorem Can.block4 {b : Frame} {a : Act} {w : World} {id : Nat} {c : Code} (hK : Can Gl n (G (b.at a (.code c :: .inBlock id :: k)) K) w) : Can Gl n (G (b.at a (.code (.block id c) :: k)) K) w := Can.pure rfl (fun _ => stepG_block) hK
theorem Can.inBlock4 {b : Frame} {a : Act} {w : World} {id : Nat} (hK : Can Gl n (G (b.at a k) K) w) : Can Gl n (G (b.at a (.inBlock id :: k)) K) w := Can.pure rfl (fun _ => stepG_inBlock) hK
theorem Can.loop4 {b : Frame} {a : Act} {w : World} {c : Code} (hK : Can Gl n (G (b.at a (.code c :: .inLoop c :: k)) K) w) : Can Gl n (G (b.at a (.code (.loop c) :: k)) K) w := Can.pure rfl (fun _ => stepG_loop) hK
theorem Can.inLoop4 {b : Frame} {a : Act} {w : World} {c : Code} (hK : Can Gl n (G (b.at a (.code c :: .inLoop c :: k)) K) w) : Can Gl n (G (b.at a (.inLoop c :: k)) K) w := Can.pure rfl (fun _ => stepG_inLoop) hK
theorem Can.exit4 {b : Frame} {a : Act} {w : World} {id : Nat} {k' : List Item} (h : exitTo id k = some k') (hK : Can Gl n (G (b.at a k') K) w) : Can Gl n (G (b.at a (.code (.exit id) :: k)) K) w := Can.pure rfl (fun _ => stepG_exit h) hK
end

theorem okp4_1 : CodeOK Try.prog p4_1 := codeB_ok infos (by kernel_rfl)
theorem crp4_1 : CodeR Try.prog rl4 p4_1 := codeRB_ok (by kernel_rfl)
theorem okp4_2 : CodeOK Try.prog p4_2 := codeB_ok infos (by kernel_rfl)
theorem crp4_2 : CodeR Try.prog rl4 p4_2 := codeRB_ok (by kernel_rfl)
theorem okp4_4 : CodeOK Try.prog p4_4 := codeB_ok infos (by kernel_rfl)
theorem crp4_4 : CodeR Try.prog rl4 p4_4 := codeRB_ok (by kernel_rfl)
theorem okp4_5 : CodeOK Try.prog p4_5 := codeB_ok infos (by kernel_rfl)
theorem crp4_5 : CodeR Try.prog rl4 p4_5 := codeRB_ok (by kernel_rfl)
theorem okp4_6 : CodeOK Try.prog p4_6 := codeB_ok infos (by kernel_rfl)
theorem crp4_6 : CodeR Try.prog rl4 p4_6 := codeRB_ok (by kernel_rfl)
theorem okp4_7 : CodeOK Try.prog p4_7 := codeB_ok infos (by kernel_rfl)
theorem crp4_7 : CodeR Try.prog rl4 p4_7 := codeRB_ok (by kernel_rfl)
theorem okp4_8 : CodeOK Try.prog p4_8 := codeB_ok infos (by kernel_rfl)
theorem crp4_8 : CodeR Try.prog rl4 p4_8 := codeRB_ok (by kernel_rfl)
theorem okp4_9 : CodeOK Try.prog p4_9 := codeB_ok infos (by kernel_rfl)
theorem crp4_9 : CodeR Try.prog rl4 p4_9 := codeRB_ok (by kernel_rfl)
theorem okp4_11 : CodeOK Try.prog p4_11 := codeB_ok infos (by kernel_rfl)
theorem crp4_11 : CodeR Try.prog rl4 p4_11 := codeRB_ok (by kernel_rfl)
theorem okp4_13 : CodeOK Try.prog p4_13 := codeB_ok infos (by kernel_rfl)
theorem crp4_13 : CodeR Try.prog rl4 p4_13 := codeRB_ok (by kernel_rfl)
theorem okp4_14 : CodeOK Try.prog p4_14 := codeB_ok infos (by kernel_rfl)
theorem crp4_14 : CodeR Try.prog rl4 p4_14 := codeRB_ok (by kernel_rfl)
theorem okp4_15 : CodeOK Try.prog p4_15 := codeB_ok infos (by kernel_rfl)
theorem crp4_15 : CodeR Try.prog rl4 p4_15 := codeRB_ok (by kernel_rfl)
theorem okp4_16 : CodeOK Try.prog p4_16 := codeB_ok infos (by kernel_rfl)
theorem crp4_16 : CodeR Try.prog rl4 p4_16 := codeRB_ok (by kernel_rfl)
theorem okp4_17 : CodeOK Try.prog p4_17 := codeB_ok infos (by kernel_rfl)
theorem crp4_17 : CodeR Try.prog rl4 p4_17 := codeRB_ok (by kernel_rfl)
theorem okp4_19 : CodeOK Try.prog p4_19 := codeB_ok infos (by kernel_rfl)
theorem crp4_19 : CodeR Try.prog rl4 p4_19 := codeRB_ok (by kernel_rfl)
theorem okp4_20 : CodeOK Try.prog p4_20 := codeB_ok infos (by kernel_rfl)
theorem crp4_20 : CodeR Try.prog rl4 p4_20 := codeRB_ok (by kernel_rfl)
theorem okp4_22 : CodeOK Try.prog p4_22 := codeB_ok infos (by kernel_rfl)
theorem crp4_22 : CodeR Try.prog rl4 p4_22 := codeRB_ok (by kernel_rfl)
end Go.Proofs.Ytlndinigbppafaa

/-
  The law Logs: the pieces of its round, by the walk.
-/
namespace Go.Proofs.Ytlndinigbppafaa
open Go.Sim Go.Conc Go.Fi Go.RowKit

abbrev F0 (k : Nat) (x : Nat → Value) : Prop := x 9 = .int .i64 k
abbrev F7 (k : Nat) (x : Nat → Value) : Prop := x 9 = .int .i64 k ∧ ∃ m : Int, x 10 = .int .i64 m
abbrev F1 (k : Nat) (x : Nat → Value) : Prop := x 9 = .int .i64 k ∧ ∃ m n : Int, x 10 = .int .i64 m ∧ x 11 = .int .i64 n
abbrev F2 (k : Nat) (x : Nat → Value) : Prop := x 9 = .int .i64 k ∧ ∃ m n : Int, x 10 = .int .i64 m ∧ x 11 = .int .i64 n ∧ x 8 = .bool true
abbrev F3 (k : Nat) (x : Nat → Value) : Prop := x 9 = .int .i64 k ∧ ∃ m n : Int, x 10 = .int .i64 m ∧ x 11 = .int .i64 n ∧ x 8 = .bool true ∧ x 13 = .bool true
abbrev F4 (k : Nat) (x : Nat → Value) : Prop := x 9 = .int .i64 k ∧ ∃ m n : Int, x 10 = .int .i64 m ∧ x 11 = .int .i64 n ∧ x 8 = .bool true ∧ x 13 = .bool true ∧ x 15 = .bool true
abbrev F5 (k : Nat) (x : Nat → Value) : Prop := x 9 = .int .i64 k ∧ ∃ m n : Int, x 10 = .int .i64 m ∧ x 11 = .int .i64 n ∧ x 8 = .bool true ∧ x 13 = .bool true ∧ x 15 = .bool true ∧ x 17 = .bool true
abbrev F6 (k : Nat) (t : Bool) (x : Nat → Value) : Prop := x 9 = .int .i64 k ∧ ∃ m n : Int, x 10 = .int .i64 m ∧ x 11 = .int .i64 n ∧ x 87 = .bool t
abbrev F9 (k : Nat) (x : Nat → Value) : Prop := x 9 = .int .i64 k ∧ x 8 = .bool true
abbrev FT (x : Nat → Value) : Prop := x 8 = .bool true
abbrev FA (_ : Nat → Value) : Prop := True

set_option maxRecDepth 100000 in
set_option maxHeartbeats 2000000 in
theorem w4_2 (b0 C B : Nat) (v0 v1 v2 : Value) (ps : List ByteArray) (ms ns : List Int) (evs : List ByteArray) : Wp4 b0 C B v0 v1 v2 ps ms ns p4_2 FT FA evs evs := by
  intro u x S L hF hS hb hA Q hQ
  have HQ : Hid _ := hQ
  clear hQ
  unfold FT at hF
  unfold p4_2 r4_2 r4_3 px4
  rw [hF]
  go_wp2
  exact HQ.out _ _ S L (by kernel_rfl) trivial hS (Below.refl _ _)

set_option maxRecDepth 100000 in
set_option maxHeartbeats 2000000 in
theorem w4_4 (b0 C B : Nat) (v0 v1 v2 : Value) (ps : List ByteArray) (ms ns : List Int) (evs : List ByteArray) : Wp4 b0 C B v0 v1 v2 ps ms ns p4_4 FA (F0 0) evs evs := by
  intro u x S L hF hS hb hA Q hQ
  have HQ : Hid _ := hQ
  clear hQ
  unfold p4_4 r4_4 px4
  go_wp2
  exact HQ.out _ _ S L (by kernel_rfl) rfl hS (Below.refl _ _)

set_option maxRecDepth 100000 in
set_option maxHeartbeats 2000000 in
theorem w4_5 (b0 C B : Nat) (v0 v1 v2 : Value) (ps : List ByteArray) (ms ns : List Int) (evs : List ByteArray) (k : Nat) (hk : k ≤ ps.length) : Wp4 b0 C B v0 v1 v2 ps ms ns p4_5 (F0 k) (F0 k) evs evs := by
  intro u x S L hF hS hb hA Q hQ
  have HQ : Hid _ := hQ
  clear hQ
  obtain ⟨ao, cap, rfl, _⟩ := hA.h0
  have hki : (k : Int) ≤ (ps.length : Int) := by omega
  have hn := hA.n0
  clear hA
  unfold F0 at hF
  unfold p4_5 r4_5 px4
  rw [hF]
  go_wp2
  exact HQ.out _ _ S L (by kernel_rfl) rfl hS (Below.refl _ _)

set_option maxRecDepth 100000 in
set_option maxHeartbeats 2000000 in
theorem w4_6 (b0 C B : Nat) (v0 v1 v2 : Value) (ps : List ByteArray) (ms ns : List Int) (evs : List ByteArray) (k : Nat) (hk : k ≤ ps.length) : Wp4 b0 C B v0 v1 v2 ps ms ns p4_6 (F0 k) (F0 (k + 1)) evs evs := by
  intro u x S L hF hS hb hA Q hQ
  have HQ : Hid _ := hQ
  clear hQ
  have hn := hA.n0
  clear hA
  unfold F0 at hF
  unfold p4_6 r4_6 px4
  rw [hF]
  go_wp2
  refine HQ.out _ _ S L (by kernel_rfl) ?_ hS (Below.refl _ _)
  show Value.int .i64 _ = Value.int .i64 _
  go_num

set_option maxRecDepth 100000 in
set_option maxHeartbeats 2000000 in
theorem w4_7 (b0 C B : Nat) (v0 v1 v2 : Value) (ps : List ByteArray) (ms ns : List Int) (evs : List ByteArray) (k : Nat) : Wp4 b0 C B v0 v1 v2 ps ms ns p4_7 (F0 k) (F7 k) evs evs := by
  intro u x S L hF hS hb hA Q hQ
  have HQ : Hid _ := hQ
  clear hQ
  unfold F0 at hF
  unfold p4_7 r4_7 px4
  rw [hF]
  go_wp2
  exact HQ.out _ _ S L (by kernel_rfl) ⟨rfl, 0, rfl⟩ hS (Below.refl _ _)

set_option maxRecDepth 100000 in
set_option maxHeartbeats 2000000 in
theorem w4_8 (b0 C B : Nat) (v0 v1 v2 : Value) (ps : List ByteArray) (ms ns : List Int) (evs : List ByteArray) (k : Nat) : Wp4 b0 C B v0 v1 v2 ps ms ns p4_8 (F7 k) (F1 k) evs evs := by
  intro u x S L hF hS hb hA Q hQ
  have HQ : Hid _ := hQ
  clear hQ
  obtain ⟨h9, m, h10⟩ := hF
  unfold p4_8 r4_8 px4
  rw [h9, h10]
  go_wp2
  exact HQ.out _ _ S L (by kernel_rfl) ⟨rfl, m, 0, rfl, rfl⟩ hS (Below.refl _ _)

set_option maxRecDepth 100000 in
set_option maxHeartbeats 2000000 in
theorem w4_9 (b0 C B : Nat) (v0 v1 v2 : Value) (ps : List ByteArray) (ms ns : List Int) (evs : List ByteArray) (k : Nat) : Wp4 b0 C B v0 v1 v2 ps ms ns p4_9 (F1 k) (F1 k) evs evs := by
  intro u x S L hF hS hb hA Q hQ
  have HQ : Hid _ := hQ
  clear hQ
  obtain ⟨ao, cap, rfl, hc⟩ := hA.h1
  have hn := hA.n1
  unfold maxLen at hn
  clear hA
  obtain ⟨h9, m, n, h10, h11⟩ := hF
  by_cases hk : k < ms.length
  · have hki : (k : Int) < (ms.length : Int) := by omega
    obtain ⟨b, o, rfl, hbl, hcell⟩ := hc (by omega)
    have hck := hcell k hk
    clear hcell hc
    unfold p4_9 r4_9 r4_10 px4
    rw [h9, h10, h11]
    go_wp2
    exact HQ.out _ _ S L (by kernel_rfl) ⟨rfl, _, n, rfl, rfl⟩ hS (Below.refl _ _)
  · have hki : ¬ (k : Int) < (ms.length : Int) := by omega
    clear hc
    unfold p4_9 r4_9 r4_10 px4
    rw [h9, h10, h11]
    go_wp2
    exact HQ.out _ _ S L (by kernel_rfl) ⟨rfl, m, n, rfl, rfl⟩ hS (Below.refl _ _)

set_option maxRecDepth 100000 in
set_option maxHeartbeats 2000000 in
theorem w4_11 (b0 C B : Nat) (v0 v1 v2 : Value) (ps : List ByteArray) (ms ns : List Int) (evs : List ByteArray) (k : Nat) : Wp4 b0 C B v0 v1 v2 ps ms ns p4_11 (F1 k) (F1 k) evs evs := by
  intro u x S L hF hS hb hA Q hQ
  have HQ : Hid _ := hQ
  clear hQ
  obtain ⟨ao, cap, rfl, hc⟩ := hA.h2
  have hn := hA.n2
  unfold maxLen at hn
  clear hA
  obtain ⟨h9, m, n, h10, h11⟩ := hF
  by_cases hk : k < ns.length
  · have hki : (k : Int) < (ns.length : Int) := by omega
    obtain ⟨b, o, rfl, hbl, hcell⟩ := hc (by omega)
    have hck := hcell k hk
    clear hcell hc
    unfold p4_11 r4_11 r4_12 px4
    rw [h9, h10, h11]
    go_wp2
    exact HQ.out _ _ S L (by kernel_rfl) ⟨rfl, m, _, rfl, rfl⟩ hS (Below.refl _ _)
  · have hki : ¬ (k : Int) < (ns.length : Int) := by omega
    clear hc
    unfold p4_11 r4_11 r4_12 px4
    rw [h9, h10, h11]
    go_wp2
    exact HQ.out _ _ S L (by kernel_rfl) ⟨rfl, m, n, rfl, rfl⟩ hS (Below.refl _ _)

set_option maxRecDepth 100000 in
set_option maxHeartbeats 2000000 in
theorem w4_13 (b0 C B : Nat) (v0 v1 v2 : Value) (ps : List ByteArray) (ms ns : List Int) (evs : List ByteArray) (k : Nat) (hl : evs.length ≤ 500) (hs : ∀ s ∈ evs, s.size ≤ 50) : Wp4 b0 C B v0 v1 v2 ps ms ns p4_13 (F1 k) (F2 k) evs evs := by
  intro u x S L hF hS hb hA Q hQ
  have HQ : Hid _ := hQ
  clear hQ
  obtain ⟨h9, m, n, h10, h11⟩ := hF
  unfold p4_13 r4_13 px4
  rw [h9, h10, h11]
  have HS : Hid _ := hS
  clear hS hA
  go_wp2_with fail
  refine (root_side u b0 C B S L evs n HS.out hl hs).mono ?_
  rintro e w1 ⟨rfl, hb1⟩
  go_wp2
  exact HQ.out _ _ S L (by kernel_rfl) ⟨rfl, m, n, rfl, rfl, rfl⟩ (HS.out.below hb1) (hb1.mono hb)

set_option maxRecDepth 100000 in
set_option maxHeartbeats 2000000 in
theorem w4_14 (b0 C B : Nat) (v0 v1 v2 : Value) (ps : List ByteArray) (ms ns : List Int) (evs : List ByteArray) (k : Nat) (hl : evs.length ≤ 500) (hs : ∀ s ∈ evs, s.size ≤ 50) : Wp4 b0 C B v0 v1 v2 ps ms ns p4_14 (F2 k) (F3 k) evs evs := by
  intro u x S L hF hS hb hA Q hQ
  have HQ : Hid _ := hQ
  clear hQ
  obtain ⟨h9, m, n, h10, h11, h8⟩ := hF
  unfold p4_14 r4_14 px4
  rw [h9, h10, h11, h8]
  have HS : Hid _ := hS
  clear hS hA
  go_wp2_with fail
  refine (say_any u b0 C B S L evs 1 m n (by decide) HS.out hl hs).mono ?_
  rintro e w1 ⟨⟨y, rfl⟩, hb1⟩
  go_wp2
  exact HQ.out _ _ S L (by kernel_rfl) ⟨rfl, m, n, rfl, rfl, rfl, rfl⟩ (HS.out.below hb1) (hb1.mono hb)

set_option maxRecDepth 100000 in
set_option maxHeartbeats 2000000 in
theorem w4_15 (b0 C B : Nat) (v0 v1 v2 : Value) (ps : List ByteArray) (ms ns : List Int) (evs : List ByteArray) (k : Nat) (hl : evs.length ≤ 500) (hs : ∀ s ∈ evs, s.size ≤ 50) : Wp4 b0 C B v0 v1 v2 ps ms ns p4_15 (F3 k) (F4 k) evs evs := by
  intro u x S L hF hS hb hA Q hQ
  have HQ : Hid _ := hQ
  clear hQ
  obtain ⟨h9, m, n, h10, h11, h8, h13⟩ := hF
  unfold p4_15 r4_15 px4
  rw [h9, h10, h11, h8, h13]
  have HS : Hid _ := hS
  clear hS hA
  go_wp2_with fail
  refine (say_any u b0 C B S L evs 2 m n (by decide) HS.out hl hs).mono ?_
  rintro e w1 ⟨⟨y, rfl⟩, hb1⟩
  go_wp2
  exact HQ.out _ _ S L (by kernel_rfl) ⟨rfl, m, n, rfl, rfl, rfl, rfl, rfl⟩ (HS.out.below hb1) (hb1.mono hb)

set_option maxRecDepth 100000 in
set_option maxHeartbeats 2000000 in
theorem w4_16 (b0 C B : Nat) (v0 v1 v2 : Value) (ps : List ByteArray) (ms ns : List Int) (evs : List ByteArray) (k : Nat) (hl : evs.length ≤ 500) (hs : ∀ s ∈ evs, s.size ≤ 50) : Wp4 b0 C B v0 v1 v2 ps ms ns p4_16 (F4 k) (F5 k) evs evs := by
  intro u x S L hF hS hb hA Q hQ
  have HQ : Hid _ := hQ
  clear hQ
  obtain ⟨h9, m, n, h10, h11, h8, h13, h15⟩ := hF
  unfold p4_16 r4_16 px4
  rw [h9, h10, h11, h8, h13, h15]
  have HS : Hid _ := hS
  clear hS hA
  go_wp2_with fail
  refine (say_any u b0 C B S L evs 3 m n (by decide) HS.out hl hs).mono ?_
  rintro e w1 ⟨⟨y, rfl⟩, hb1⟩
  go_wp2
  exact HQ.out _ _ S L (by kernel_rfl) ⟨rfl, m, n, rfl, rfl, rfl, rfl, rfl, rfl⟩ (HS.out.below hb1) (hb1.mono hb)

set_option maxRecDepth 100000 in
set_option maxHeartbeats 2000000 in
theorem w4_17 (b0 C B : Nat) (v0 v1 v2 : Value) (ps : List ByteArray) (ms ns : List Int) (evs : List ByteArray) (k : Nat) : Wp4 b0 C B v0 v1 v2 ps ms ns p4_17 (F5 k) (F1 k) evs evs := by
  intro u x S L hF hS hb hA Q hQ
  have HQ : Hid _ := hQ
  clear hQ
  obtain ⟨h9, m, n, h10, h11, h8, h13, h15, h17⟩ := hF
  clear hA
  unfold p4_17 r4_17 r4_18 px4
  rw [h9, h10, h11, h8, h13, h15, h17]
  go_wp2
  exact HQ.out _ _ S L (by kernel_rfl) ⟨rfl, m, n, rfl, rfl⟩ hS (Below.refl _ _)

set_option maxRecDepth 100000 in
set_option maxHeartbeats 2000000 in
theorem w4_19 (b0 C B : Nat) (v0 v1 v2 : Value) (ps : List ByteArray) (ms ns : List Int) (evs : List ByteArray) (k : Nat) : Wp4 b0 C B v0 v1 v2 ps ms ns p4_19 (F1 k) (F6 k (decide (k < ps.length))) evs evs := by
  intro u x S L hF hS hb hA Q hQ
  have HQ : Hid _ := hQ
  clear hQ
  obtain ⟨ao, cap, rfl, _⟩ := hA.h0
  have hn := hA.n0
  clear hA
  obtain ⟨h9, m, n, h10, h11⟩ := hF
  by_cases hk : k < ps.length
  · have hki : (k : Int) < (ps.length : Int) := by omega
    rw [decide_eq_true hk] at HQ
    unfold p4_19 r4_19 px4
    rw [h9, h10, h11]
    go_wp2
    exact HQ.out _ _ S L (by kernel_rfl) ⟨rfl, m, n, rfl, rfl, rfl⟩ hS (Below.refl _ _)
  · have hki : ¬ (k : Int) < (ps.length : Int) := by omega
    rw [decide_eq_false hk] at HQ
    unfold p4_19 r4_19 px4
    rw [h9, h10, h11]
    go_wp2
    exact HQ.out _ _ S L (by kernel_rfl) ⟨rfl, m, n, rfl, rfl, rfl⟩ hS (Below.refl _ _)

set_option maxRecDepth 100000 in
set_option maxHeartbeats 2000000 in
theorem w4_20 (b0 C B : Nat) (v0 v1 v2 : Value) (ps : List ByteArray) (ms ns : List Int) (evs : List ByteArray) (k : Nat) (hk : k < ps.length) (hl : evs.length ≤ 500) : Wp4 b0 C B v0 v1 v2 ps ms ns p4_20 (F6 k true) (F9 k) evs (layL evs ps[k]) := by
  intro u x S L hF hS hb hA Q hQ
  have HQ : Hid _ := hQ
  clear hQ
  obtain ⟨ao, cap, rfl, hc⟩ := hA.h0
  have hn := hA.n0
  have HP : Hid _ := hA.p0 _ (List.getElem_mem hk)
  clear hA
  obtain ⟨h9, m, n, h10, h11, h87⟩ := hF
  have hki : (k : Int) < (ps.length : Int) := by omega
  obtain ⟨b, o, rfl, hbl, hcell⟩ := hc (by omega)
  have hck := hcell k hk
  clear hcell hc
  unfold p4_20 r4_20 px4
  rw [h9, h10, h11]
  have HS : Hid _ := hS
  clear hS
  go_wp2_with fail
  refine (lay_any u b0 C B S L evs ps[k] HS.out hb hl HP.out).mono ?_
  rintro e w1 ⟨rfl, S', L', hS', hb1⟩
  go_wp2
  exact HQ.out _ _ S' L' (by kernel_rfl) ⟨rfl, rfl⟩ hS' hb1

set_option maxRecDepth 100000 in
set_option maxHeartbeats 2000000 in
theorem w4_22 (b0 C B : Nat) (v0 v1 v2 : Value) (ps : List ByteArray) (ms ns : List Int) (evs : List ByteArray) (k : Nat) : Wp4 b0 C B v0 v1 v2 ps ms ns p4_22 (F9 k) (F0 k) evs evs := by
  intro u x S L hF hS hb hA Q hQ
  have HQ : Hid _ := hQ
  clear hQ
  obtain ⟨h9, h8⟩ := hF
  clear hA
  unfold p4_22 r4_22 r4_23 px4
  rw [h9, h8]
  go_wp2
  exact HQ.out _ _ S L (by kernel_rfl) rfl hS (Below.refl _ _)
end Go.Proofs.Ytlndinigbppafaa

/-
  The law Logs: its own frame, its last round and what comes behind it.
-/
namespace Go.Proofs.Ytlndinigbppafaa
open Go.Sim Go.Conc Go.Fi Go.RowKit

/-- The frame where two of its slots are known. -/
def a4 (v0 v1 v2 : Value) (C : Nat) (k n : Int) (y : Nat → Value) : Act := px4 v0 v1 v2 C (fun i => if i = 9 then .int .i64 k else if i = 11 then .int .i64 n else y i)
theorem a4_of {v0 v1 v2 : Value} {C : Nat} {k n : Int} {x : Nat → Value} (h9 : x 9 = .int .i64 k) (h11 : x 11 = .int .i64 n) : px4 v0 v1 v2 C x = a4 v0 v1 v2 C k n x := by
  unfold a4
  congr 1
  funext i
  by_cases h : i = 9
  · subst h; rw [if_pos rfl]; exact h9
  · rw [if_neg h]
    by_cases h' : i = 11
    · subst h'; rw [if_pos rfl]; exact h11
    · rw [if_neg h']
def a4a (v0 v1 v2 : Value) (C : Nat) (k n : Int) (y : Nat → Value) : Act := ((a4 v0 v1 v2 C k n y).put (some 95) (.pointer (some ⟨C, 0, none⟩))).put (some 96) (.int .i64 n)
def a4b (v0 v1 v2 : Value) (C : Nat) (k n : Int) (y : Nat → Value) (l : Value) : Act := (a4a v0 v1 v2 C k n y).put (some 97) (.tuple #[l, .bool true])
def a4c (v0 v1 v2 : Value) (C : Nat) (k n : Int) (y : Nat → Value) (l : Value) : Act := ((((a4b v0 v1 v2 C k n y l).put (some 94) (.tuple #[l, .bool true])).put (some 98) l).put (some 99) (.bool true)).put (some 8) (.bool true)
def a4d (v0 v1 v2 : Value) (C : Nat) (k n : Int) (y : Nat → Value) (l : Value) : Act := ((a4c v0 v1 v2 C k n y l).put (some 100) (.bool true)).put (some 101) (.bool false)
def a4e (v0 v1 v2 : Value) (C : Nat) (k n : Int) (y : Nat → Value) (l : Value) (k' : Int) : Act := (((a4d v0 v1 v2 C k n y l).put (some 28) (.int .i64 k)).put (some 29) (.int .i64 k')).put (some 9) (.int .i64 k')
def a4f (v0 v1 v2 : Value) (C : Nat) (k n : Int) (y : Nat → Value) (l : Value) (k' : Int) : Act := ((a4e v0 v1 v2 C k n y l k').put (some 24) (.int .i64 k')).put (some 25) v0
def a4g (v0 v1 v2 : Value) (C : Nat) (k n : Int) (y : Nat → Value) (l : Value) (k' N : Int) : Act := (a4f v0 v1 v2 C k n y l k').put (some 26) (.int .i64 N)
def a4h (v0 v1 v2 : Value) (C : Nat) (k n : Int) (y : Nat → Value) (l : Value) (k' N : Int) : Act := (a4g v0 v1 v2 C k n y l k' N).put (some 27) (.bool false)
def a4i (v0 v1 v2 : Value) (C : Nat) (k n : Int) (y : Nat → Value) (l : Value) (k' N : Int) : Act := (a4h v0 v1 v2 C k n y l k' N).put (some 6) (.bool true)

section
variable {Post : Value → World → Prop}
set_option maxRecDepth 100000 in
set_option maxHeartbeats 4000000 in
/-- Behind the proofs. -/
theorem can_behind {v0 v1 v2 : Value} {C N : Nat} {k n : Int} {y : Nat → Value} {l : Value} {w : World} {ps : List ByteArray} {ao : Option Addr} {cap : Nat} (hv : v0 = .slice ao ps.length cap) (hk : k = ps.length) (hn : ps.length ≤ 140737488355328) (hPost : Post (.bool true) w) (hP : ∀ v w w₁, Post v w → Eqv w w₁ → Post v w₁) :
    Can (Done Post) N (G ((base 4).at (a4c v0 v1 v2 C k n y l) [.code p4_22, .inBlock 1, .code p4_6, .inLoop lp4, .inBlock 0, .code ((Code.region 24 r4_24 false).seq Code.ret)]) []) w := by
  have hbk : (base 4).kind ≠ .early := by intro h; cases h
  have hw : IntKind.i64.wrap (k + 1) = k + 1 := by rw [IntKind.wrap_i64]; omega
  refine Can.seq (Can.region (a' := a4d v0 v1 v2 C k n y l) hbk (by kernel_rfl) ?_)
  refine Can.cond (t := false) (by kernel_rfl) (Can.skip (Can.inBlock4 ?_))
  refine Can.region (a' := a4e v0 v1 v2 C k n y l (IntKind.i64.wrap (k + 1))) hbk (by kernel_rfl) (Can.inLoop4 ?_)
  rw [hw]
  refine Can.seq (Can.seq (Can.into ?_))
  refine Can.pures (l := [0, 1]) (rest := [2, 3]) (a' := a4f v0 v1 v2 C k n y l (k + 1)) hbk (by kernel_rfl) ?_
  refine Can.val (o := r4_5[2]) (v := .int .i64 ps.length) hbk rfl rfl (fun w => ?_) ?_
  · subst hv
    have e25 : (a4f (.slice ao ps.length cap) v1 v2 C k n y l (k + 1)).eval (.tmp 25) = .slice ao ps.length cap := by kernel_rfl
    exact ⟨by kernel_rfl, by kernel_rfl⟩
  refine Can.conv16 (a' := a4g v0 v1 v2 C k n y l (k + 1) ps.length) (by kernel_rfl) ?_
  refine Can.val (o := r4_5[3]) (v := .bool false) hbk rfl rfl (fun w => ?_) ?_
  · have e24 : (a4g v0 v1 v2 C k n y l (k + 1) ps.length).eval (.tmp 24) = .int .i64 (k + 1) := by kernel_rfl
    have e26 : (a4g v0 v1 v2 C k n y l (k + 1) ps.length).eval (.tmp 26) = .int .i64 ps.length := by kernel_rfl
    have hle : ¬ (k + 1 ≤ (ps.length : Int)) := by omega
    exact ⟨by simp [execOp, r4_5, e24, e26, eqGuard, binOp, Op.intCmp, hle], by simp [execOp, r4_5, e24, e26, eqGuard, binOp, Op.intCmp, hle]⟩
  refine Can.conv16 (a' := a4h v0 v1 v2 C k n y l (k + 1) ps.length) (by kernel_rfl) (Can.out ?_)
  refine Can.cond (t := false) (by kernel_rfl) ?_
  refine Can.exit4 (k' := [.code ((Code.region 24 r4_24 false).seq Code.ret)]) rfl ?_
  refine Can.seq (Can.region (a' := a4i v0 v1 v2 C k n y l (k + 1) ps.length) hbk (by kernel_rfl) ?_)
  refine Can.ret (Can.done (v := .bool true) rfl fun w₁ hE => ⟨?_, hP _ _ _ hPost hE⟩)
  exact stepG_done rfl rfl rfl Try.func4 (by kernel_rfl) (by kernel_rfl) w₁

set_option maxRecDepth 100000 in
set_option maxHeartbeats 4000000 in
/-- The proofs, in the last round. -/
theorem can_last {w0 : World} {v0 v1 v2 : Value} {C B : Nat} {D : Nat → Prop} {k n : Int} {y : Nat → Value} {w : World} {ps evs : List ByteArray} {S L : Value} {ao : Option Addr} {cap : Nat} (hv : v0 = .slice ao ps.length cap) (hk : k = ps.length) (hn : ps.length ≤ 140737488355328) (hS : SideAt w w0.heap.size C B S L evs) (hl : evs.length ≤ 500) (hs : ∀ s ∈ evs, s.size ≤ 50)
    (hC : Vs D (.pointer (some ⟨C, 0, none⟩))) (hSf : Sf D w) (hb : Bel w0 w) (hPost : ∀ w', Bel w0 w' → Post (.bool true) w') (hP : ∀ v w w₁, Post v w → Eqv w w₁ → Post v w₁) :
    Can (Done Post) 0 (G ((base 4).at (a4 v0 v1 v2 C k n y) [.code (Code.region 21 r4_21 false), .code p4_22, .inBlock 1, .code p4_6, .inLoop lp4, .inBlock 0, .code ((Code.region 24 r4_24 false).seq Code.ret)]) []) w := by
  have hbk : (base 4).kind ≠ .early := by intro h; cases h
  refine Can.into (Can.pures (l := [0, 1]) (rest := [2, 3, 4, 5, 6]) (a' := a4a v0 v1 v2 C k n y) hbk (by kernel_rfl) ?_)
  refine Can.enter (o := r4_21[2]) hbk rfl rfl rfl Try.func16 (by simp [Try.f16]) body16 ?_
  have e : (#[.tmp 95, .tmp 96] : Array Operand).map (a4a v0 v1 v2 C k n y).eval ++ Array.replicate (Try.f16.ntmps - ((#[.tmp 95, .tmp 96] : Array Operand).map (a4a v0 v1 v2 C k n y).eval).size) undef = #[.pointer (some ⟨C, 0, none⟩), .int .i64 n, undef, undef, undef, undef, undef, undef, undef, undef, undef, undef, undef, undef, undef, undef, undef, undef, undef, undef, undef, undef, undef, undef, undef, undef, undef, undef, undef, undef, undef, undef, undef, undef, undef, undef, undef, undef, undef, undef, undef, undef, undef, undef, undef, undef, undef, undef, undef, undef, undef, undef, undef, undef, undef, undef, undef, undef, undef, undef, undef, undef, undef, undef, undef, undef] := by kernel_rfl
  rw [e]
  refine Can.sideProofs (ops := r4_21) (i := 2) (rest := [3, 4, 5, 6]) hS hl hs hC hSf fun N D4 l w4 d4 hl4 sf4 b4 => ?_
  refine Can.conv16 (a' := a4b v0 v1 v2 C k n y l) (by kernel_rfl) ?_
  refine Can.pures (l := [3, 4, 5, 6]) (rest := []) (a' := a4c v0 v1 v2 C k n y l) hbk (by kernel_rfl) (Can.out ?_)
  exact can_behind hv hk hn (hPost w4 (hb.trans b4)) hP
end
end Go.Proofs.Ytlndinigbppafaa

/-
  The law Logs: its own frame, whole.
-/
namespace Go.Proofs.Ytlndinigbppafaa
open Go.Sim Go.Conc Go.Fi Go.RowKit

section
variable {Post : Value → World → Prop}
set_option maxRecDepth 100000 in
theorem can_head {w0 : World} {Fo : FoT} {C B : Nat} {v0 v1 v2 : Value} {ps : List ByteArray} {ms ns : List Int} {k : Nat} {evs : List ByteArray} {D : Nat → Prop} {sv : Nat → Value} {t : Array Value} {u : World} {kk : List Item} (hA : Ar4 w0 v0 v1 v2 ps ms ns) (hk : k ≤ ps.length) (hl : evs.length ≤ 500) (hs : ∀ s ∈ evs, s.size ≤ 50) (h : In4 w0 Fo C B v0 v1 v2 (F0 k) evs D sv t u)
    (hK : ∀ (D' : Nat → Prop) (sv' : Nat → Value) (t' : Array Value) (u' : World), In4 w0 Fo C B v0 v1 v2 (F6 k (decide (k < ps.length))) evs D' sv' t' u' → Can (Done Post) 0 (G ((base 4).at ⟨ov rl4 sv' t', []⟩ (.code (if decide (k < ps.length) = true then Code.region 20 r4_20 false else Code.region 21 r4_21 false) :: .code p4_22 :: .inBlock 1 :: .code p4_6 :: kk)) []) u') :
    Can (Done Post) 0 (G ((base 4).at ⟨ov rl4 sv t, []⟩ (.code lp4 :: kk)) []) u := by
  refine Can.seq (piece4 okp4_5 crp4_5 hA (w4_5 w0.heap.size C B v0 v1 v2 ps ms ns evs k hk) h fun D1 sv1 t1 u1 h1 => ?_)
  refine Can.seq (Can.block4 ?_)
  refine Can.seq (piece4 okp4_7 crp4_7 hA (w4_7 w0.heap.size C B v0 v1 v2 ps ms ns evs k) h1 fun D2 sv2 t2 u2 h2 => ?_)
  refine Can.seq (piece4 okp4_8 crp4_8 hA (w4_8 w0.heap.size C B v0 v1 v2 ps ms ns evs k) h2 fun D3 sv3 t3 u3 h3 => ?_)
  refine Can.seq (piece4 okp4_9 crp4_9 hA (w4_9 w0.heap.size C B v0 v1 v2 ps ms ns evs k) h3 fun D4 sv4 t4 u4 h4 => ?_)
  refine Can.seq (piece4 okp4_11 crp4_11 hA (w4_11 w0.heap.size C B v0 v1 v2 ps ms ns evs k) h4 fun D5 sv5 t5 u5 h5 => ?_)
  refine Can.seq (piece4 okp4_13 crp4_13 hA (w4_13 w0.heap.size C B v0 v1 v2 ps ms ns evs k hl hs) h5 fun D6 sv6 t6 u6 h6 => ?_)
  refine Can.seq (piece4 okp4_14 crp4_14 hA (w4_14 w0.heap.size C B v0 v1 v2 ps ms ns evs k hl hs) h6 fun D7 sv7 t7 u7 h7 => ?_)
  refine Can.seq (piece4 okp4_15 crp4_15 hA (w4_15 w0.heap.size C B v0 v1 v2 ps ms ns evs k hl hs) h7 fun D8 sv8 t8 u8 h8 => ?_)
  refine Can.seq (piece4 okp4_16 crp4_16 hA (w4_16 w0.heap.size C B v0 v1 v2 ps ms ns evs k hl hs) h8 fun D9 sv9 t9 u9 h9 => ?_)
  refine Can.seq (piece4 okp4_17 crp4_17 hA (w4_17 w0.heap.size C B v0 v1 v2 ps ms ns evs k) h9 fun D10 sv10 t10 u10 h10 => ?_)
  refine Can.seq (Can.seq (piece4 okp4_19 crp4_19 hA (w4_19 w0.heap.size C B v0 v1 v2 ps ms ns evs k) h10 fun D' sv' t' u' h' => ?_))
  obtain ⟨S, L, e, ⟨f9, m, n, f10, f11, f87⟩, hS, hb⟩ := id h'.st
  exact Can.cond (t := decide (k < ps.length)) f87 (hK D' sv' t' u' h')

theorem px4_slot {sv : Nat → Value} {t : Array Value} {v0 v1 v2 : Value} {C : Nat} {x : Nat → Value} (h : (⟨ov rl4 sv t, []⟩ : Act) = px4 v0 v1 v2 C x) : .pointer (some ⟨C, 0, none⟩) ∈ t := by
  have h1 : ov rl4 sv t = (px4 v0 v1 v2 C x).tmps := congrArg Act.tmps h
  have h2 : (ov rl4 sv t)[7]? = some (.pointer (some ⟨C, 0, none⟩)) := by rw [h1]; rfl
  rw [ov_get] at h2
  cases h3 : t[7]? with
  | none => rw [h3] at h2; cases h2
  | some y =>
    rw [h3] at h2
    have : y = .pointer (some ⟨C, 0, none⟩) := by simpa [rl4, rolesOf] using h2
    exact this ▸ Array.mem_of_getElem? h3

set_option maxRecDepth 100000 in
theorem can_round {w0 : World} {Fo : FoT} {C B : Nat} {v0 v1 v2 : Value} {ps : List ByteArray} {ms ns : List Int} (hA : Ar4 w0 v0 v1 v2 ps ms ns) (hPost : ∀ w', Bel w0 w' → Post (.bool true) w') (hP : ∀ v w w₁, Post v w → Eqv w w₁ → Post v w₁) :
    ∀ (d k : Nat), k + d = ps.length → ∀ (D : Nat → Prop) (sv : Nat → Value) (t : Array Value) (u : World), In4 w0 Fo C B v0 v1 v2 (F0 k) (layAll (ps.take k)) D sv t u →
      Can (Done Post) 0 (G ((base 4).at ⟨ov rl4 sv t, []⟩ [.code lp4, .inLoop lp4, .inBlock 0, .code ((Code.region 24 r4_24 false).seq Code.ret)]) []) u := by
  intro d
  induction d with
  | zero =>
    intro k hk D sv t u h
    refine can_head hA (by omega) (layAll_ok _).1 (layAll_ok _).2 h fun D' sv' t' u' h' => ?_
    have hd : decide (k < ps.length) = false := decide_eq_false (by omega)
    rw [hd] at h' ⊢
    obtain ⟨S, L, e, ⟨f9, m, n, f10, f11, f87⟩, hS, hb⟩ := id h'.st
    obtain ⟨ao, cap, hv, _⟩ := hA.h0
    refine Can.conv16 (e.trans (a4_of f9 f11)) ?_
    exact can_last hv (by omega) hA.n0 hS (layAll_ok _).1 (layAll_ok _).2 (h'.vs _ (px4_slot e)) h'.sf hb hPost hP
  | succ d ih =>
    intro k hk D sv t u h
    refine can_head hA (by omega) (layAll_ok _).1 (layAll_ok _).2 h fun D' sv' t' u' h' => ?_
    have hlt : k < ps.length := by omega
    have hd : decide (k < ps.length) = true := decide_eq_true hlt
    rw [hd] at h' ⊢
    refine piece4 okp4_20 crp4_20 hA (w4_20 w0.heap.size C B v0 v1 v2 ps ms ns _ k hlt (layAll_ok _).1) h' fun D1 sv1 t1 u1 h1 => ?_
    rw [← layAll_take ps k hlt] at h1
    refine piece4 okp4_22 crp4_22 hA (w4_22 w0.heap.size C B v0 v1 v2 ps ms ns _ k) h1 fun D2 sv2 t2 u2 h2 => ?_
    refine Can.inBlock4 (piece4 okp4_6 crp4_6 hA (w4_6 w0.heap.size C B v0 v1 v2 ps ms ns _ k (by omega)) h2 fun D3 sv3 t3 u3 h3 => ?_)
    exact Can.inLoop4 (ih (k + 1) (by omega) D3 sv3 t3 u3 h3)

def sv4 (v0 v1 v2 : Value) : Nat → Value := fun i => if i = 0 then v0 else if i = 1 then v1 else if i = 2 then v2 else undef
theorem sv4_ok {Fo : FoT} {v0 v1 v2 : Value} (h0 : SlV Fo v0) (h1 : SlV Fo v1) (h2 : SlV Fo v2) : SvOK rl4 Fo (sv4 v0 v1 v2) := by
  intro i
  unfold sv4
  by_cases e0 : i = 0
  · subst e0; exact ⟨fun _ => h0, fun q => by cases q⟩
  rw [if_neg e0]
  by_cases e1 : i = 1
  · subst e1; exact ⟨fun _ => h1, fun q => by cases q⟩
  rw [if_neg e1]
  by_cases e2 : i = 2
  · subst e2; exact ⟨fun _ => h2, fun q => by cases q⟩
  rw [if_neg e2]
  exact ⟨fun _ => .inl rfl, fun _ => .inl rfl⟩
set_option maxRecDepth 100000 in
theorem z4_ov (v0 v1 v2 : Value) : (⟨#[v0, v1, v2, undef, undef, undef, .bool false, undef, undef, undef, undef, undef, undef, undef, undef, undef, undef, undef, undef, undef, undef, undef, undef, undef, undef, undef, undef, undef, undef, undef, undef, undef, undef, undef, undef, undef, undef, undef, undef, undef, undef, undef, undef, undef, undef, undef, undef, undef, undef, undef, undef, undef, undef, undef, undef, undef, undef, undef, undef, undef, undef, undef, undef, undef, undef, undef, undef, undef, undef, undef, undef, undef, undef, undef, undef, undef, undef, undef, undef, undef, undef, undef, undef, undef, undef, undef, undef, undef, undef, undef, undef, undef, undef, undef, undef, undef, undef, undef, undef, undef, undef, undef], []⟩ : Act) = ⟨ov rl4 (sv4 v0 v1 v2) (⟨#[undef, undef, undef, undef, undef, undef, .bool false, undef, undef, undef, undef, undef, undef, undef, undef, undef, undef, undef, undef, undef, undef, undef, undef, undef, undef, undef, undef, undef, undef, undef, undef, undef, undef, undef, undef, undef, undef, undef, undef, undef, undef, undef, undef, undef, undef, undef, undef, undef, undef, undef, undef, undef, undef, undef, undef, undef, undef, undef, undef, undef, undef, undef, undef, undef, undef, undef, undef, undef, undef, undef, undef, undef, undef, undef, undef, undef, undef, undef, undef, undef, undef, undef, undef, undef, undef, undef, undef, undef, undef, undef, undef, undef, undef, undef, undef, undef, undef, undef, undef, undef, undef, undef], []⟩ : Act).tmps, []⟩ := by kernel_rfl
set_option maxRecDepth 100000 in
theorem z4_vs {D : Nat → Prop} : ∀ x ∈ (⟨#[undef, undef, undef, undef, undef, undef, .bool false, undef, undef, undef, undef, undef, undef, undef, undef, undef, undef, undef, undef, undef, undef, undef, undef, undef, undef, undef, undef, undef, undef, undef, undef, undef, undef, undef, undef, undef, undef, undef, undef, undef, undef, undef, undef, undef, undef, undef, undef, undef, undef, undef, undef, undef, undef, undef, undef, undef, undef, undef, undef, undef, undef, undef, undef, undef, undef, undef, undef, undef, undef, undef, undef, undef, undef, undef, undef, undef, undef, undef, undef, undef, undef, undef, undef, undef, undef, undef, undef, undef, undef, undef, undef, undef, undef, undef, undef, undef, undef, undef, undef, undef, undef, undef], []⟩ : Act).tmps, Vs D x := by
  refine vs_arr' ?_
  repeat' first
    | exact vs_nil'
    | exact vs_undef'
    | exact Vs.bool _ _
    | refine vs_cons' ?_ ?_

set_option maxRecDepth 100000 in
set_option maxHeartbeats 1000000 in
theorem wp4_1 (w : World) (v0 v1 v2 : Value) (Q : Exit → Act → World → Prop)
    (hQ : ∀ a' w', a' = px4 v0 v1 v2 (w.heap.size + 1) (fun i => a'.tmps.getD i undef) → FT (fun i => a'.tmps.getD i undef) → SideAt w' w.heap.size (w.heap.size + 1) w.heap.size (.slice none 0 0) (.slice none 0 0) [] → Below w.heap.size w w' → Q .normal a' w') :
    p4_1.wp Try.prog Q (⟨#[v0, v1, v2, undef, undef, undef, .bool false, undef, undef, undef, undef, undef, undef, undef, undef, undef, undef, undef, undef, undef, undef, undef, undef, undef, undef, undef, undef, undef, undef, undef, undef, undef, undef, undef, undef, undef, undef, undef, undef, undef, undef, undef, undef, undef, undef, undef, undef, undef, undef, undef, undef, undef, undef, undef, undef, undef, undef, undef, undef, undef, undef, undef, undef, undef, undef, undef, undef, undef, undef, undef, undef, undef, undef, undef, undef, undef, undef, undef, undef, undef, undef, undef, undef, undef, undef, undef, undef, undef, undef, undef, undef, undef, undef, undef, undef, undef, undef, undef, undef, undef, undef, undef], []⟩ : Act) w := by
  have HQ : Hid _ := hQ
  clear hQ
  unfold p4_1 r4_1
  go_wp2_with fail
  refine (begun_any w).mono ?_
  rintro e w1 ⟨rfl, hS, hb⟩
  have HS : Hid _ := hS
  have HB : Hid _ := hb
  clear hS hb
  go_wp2
  exact HQ.out _ _ (by kernel_rfl) rfl HS.out HB.out

set_option maxRecDepth 100000 in
set_option maxHeartbeats 4000000 in
theorem can_logs {Fo : FoT} {D : Nat → Prop} {ps : List ByteArray} {ms ns : List Int} {v0 v1 v2 : Value} {w : World} (hA : Ar4 w v0 v1 v2 ps ms ns) (h0 : SlV Fo v0) (h1 : SlV Fo v1) (h2 : SlV Fo v2) (hext : ExtOK Fo D w) (hSf : Sf D w)
    (hPost : ∀ w', Bel w w' → Post (.bool true) w') (hP : ∀ v w w₁, Post v w → Eqv w w₁ → Post v w₁) :
    Can (Done Post) 0 (G ((base 4).at (⟨#[v0, v1, v2, undef, undef, undef, undef, undef, undef, undef, undef, undef, undef, undef, undef, undef, undef, undef, undef, undef, undef, undef, undef, undef, undef, undef, undef, undef, undef, undef, undef, undef, undef, undef, undef, undef, undef, undef, undef, undef, undef, undef, undef, undef, undef, undef, undef, undef, undef, undef, undef, undef, undef, undef, undef, undef, undef, undef, undef, undef, undef, undef, undef, undef, undef, undef, undef, undef, undef, undef, undef, undef, undef, undef, undef, undef, undef, undef, undef, undef, undef, undef, undef, undef, undef, undef, undef, undef, undef, undef, undef, undef, undef, undef, undef, undef, undef, undef, undef, undef, undef, undef], []⟩ : Act) [.code c4]) []) w := by
  have hk : (base 4).kind ≠ .early := by intro h; cases h
  rw [c4_eq]
  refine Can.seq (Can.region (a' := (⟨#[v0, v1, v2, undef, undef, undef, .bool false, undef, undef, undef, undef, undef, undef, undef, undef, undef, undef, undef, undef, undef, undef, undef, undef, undef, undef, undef, undef, undef, undef, undef, undef, undef, undef, undef, undef, undef, undef, undef, undef, undef, undef, undef, undef, undef, undef, undef, undef, undef, undef, undef, undef, undef, undef, undef, undef, undef, undef, undef, undef, undef, undef, undef, undef, undef, undef, undef, undef, undef, undef, undef, undef, undef, undef, undef, undef, undef, undef, undef, undef, undef, undef, undef, undef, undef, undef, undef, undef, undef, undef, undef, undef, undef, undef, undef, undef, undef, undef, undef, undef, undef, undef, undef], []⟩ : Act)) hk (by kernel_rfl) ?_)
  refine Can.conv16 (z4_ov v0 v1 v2) (Can.seq ?_)
  refine Can.pieceX (Fo := Fo) (a := (⟨#[undef, undef, undef, undef, undef, undef, .bool false, undef, undef, undef, undef, undef, undef, undef, undef, undef, undef, undef, undef, undef, undef, undef, undef, undef, undef, undef, undef, undef, undef, undef, undef, undef, undef, undef, undef, undef, undef, undef, undef, undef, undef, undef, undef, undef, undef, undef, undef, undef, undef, undef, undef, undef, undef, undef, undef, undef, undef, undef, undef, undef, undef, undef, undef, undef, undef, undef, undef, undef, undef, undef, undef, undef, undef, undef, undef, undef, undef, undef, undef, undef, undef, undef, undef, undef, undef, undef, undef, undef, undef, undef, undef, undef, undef, undef, undef, undef, undef, undef, undef, undef, undef, undef], []⟩ : Act)) (Q := fun a u => a = px4 v0 v1 v2 (w.heap.size + 1) (fun i => a.tmps.getD i undef) ∧ FT (fun i => a.tmps.getD i undef) ∧ SideAt u w.heap.size (w.heap.size + 1) w.heap.size (.slice none 0 0) (.slice none 0 0) [] ∧ Bel w u) Try.func4 okp4_1 crp4_1 z4_vs rfl hSf (sv4_ok h0 h1 h2) hext (fun a u τ q => ⟨q.1, q.2.1, side_tp q.2.2.1, q.2.2.2.tp τ⟩) (fun τ => ?_) ?_
  · rw [← z4_ov]
    exact wp4_1 (w.tp τ) v0 v1 v2 _ fun a' w' ea hF hS hb => ⟨rfl, ea, hF, hS, bel_tp' hb⟩
  intro D1 sv1 t1 w1 d1 vs1 sf1 so1 ex1 q1
  have I1 : In4 w Fo (w.heap.size + 1) w.heap.size v0 v1 v2 FT [] D1 sv1 t1 w1 := ⟨vs1, sf1, so1, ex1, _, _, q1⟩
  refine Can.seq (piece4 okp4_2 crp4_2 hA (w4_2 w.heap.size _ _ v0 v1 v2 ps ms ns []) I1 fun D2 sv2 t2 u2 h2 => ?_)
  refine Can.seq (Can.seq (piece4 okp4_4 crp4_4 hA (w4_4 w.heap.size _ _ v0 v1 v2 ps ms ns []) h2 fun D3 sv3 t3 u3 h3 => ?_))
  exact Can.block4 (Can.loop4 (can_round hA hPost hP ps.length 0 (by omega) D3 sv3 t3 u3 h3))
end
end Go.Proofs.Ytlndinigbppafaa

/-
  Arguments that are handed in: lists of strings and numbers, however long; five of them.
-/
namespace Go.Proofs.Ytlndinigbppafaa
open Go.ChangeShapes Go.WideShapes Go.ChangeAt Go.RowKit

theorem Try.cellsStrA : Try.prog.cellsOf 9 = 1 := by kernel_rfl
theorem Try.ownA : ownKnob Try.prog.godebug = none := by kernel_rfl
theorem Try.laidA : laidOutB Try.prog = true := by kernel_rfl

theorem wf64 {n : Int} (h : (Lit.int .i64 n).wf = true) : -9223372036854775808 ≤ n ∧ n ≤ 9223372036854775807 := by
  simp only [Lit.wf, Bool.and_eq_true, decide_eq_true_eq] at h
  exact h

set_option maxRecDepth 100000 in
/-- An argument that is a list of strings: what it holds. -/
theorem strings_wide {H : Type} {enc : TypeId × Value → H} {W : World} {base : Nat} {v : Value} {d : DataW H} {p : List MemPlace}
    (hok : Value.okWide Try.prog W .any base 22 v) (h : DataW.Trod enc Try.prog W 0 (fun _ => true) true 22 v d p) (hlt : ∀ x ∈ p, x.block < W.heap.size) :
    ∃ ps : List ByteArray, StringsAt W v ps ∧ ps.length ≤ maxLen ∧ ∀ s ∈ ps, s.size ≤ maxLen := by
  obtain ⟨a0, len, cap, rfl⟩ := okWide_slice Try.underlying22 hok
  obtain ⟨fuel, hf⟩ := h
  rcases open_strings Try.underlying22 Try.underlying9 Try.cellsStrA hf with ⟨hcs, hx⟩ | ⟨a, len', cap', ss, hcs, _, hl, hm, hz, hx, hcell, hws⟩
  · simp [Value.cells] at hcs
    obtain ⟨rfl, rfl, rfl⟩ := hcs
    exact ⟨[], ⟨none, 0, rfl, fun h => by simp at h⟩, by simp, fun s hs => by cases hs⟩
  · simp [Value.cells] at hcs
    obtain ⟨rfl, rfl, rfl⟩ := hcs
    simp only [Prod.mk.injEq] at hx
    obtain ⟨rfl, rfl⟩ := hx
    simp only [if_true] at hz
    refine ⟨ss.take len, ⟨some a, cap, by rw [List.length_take]; congr 1; omega, fun h => ?_⟩, ?_, fun s hs => hws s (List.mem_of_mem_take hs)⟩
    · rw [List.length_take] at h
      obtain ⟨b, off, spot⟩ := a
      have hspot : spot = none := by simpa [Addr.add] using World.cell?_spot (hcell 0 (by omega))
      subst hspot
      refine ⟨b, off, rfl, hlt (.cell b off) (MemPlace.mem_row.2 ⟨0, by omega, by simp⟩), fun j hj => ?_⟩
      rw [List.length_take] at hj
      rw [← add_plain, hcell j (by omega)]
      simp [List.getElem?_eq_getElem (show j < ss.length by omega)]
    · rw [List.length_take]; omega

section
variable {H : Type} {enc : TypeId × Value → H} {P : Program} {w : World} {base : Nat} {spare : Nat → Bool} {held : Bool}
theorem trodAll_five {t0 t1 t2 t3 t4 : TypeId} {args : Array Value} {ds : List (DataW H)} {ps : List MemPlace} (h : DataW.TrodAll enc P w base spare held [t0, t1, t2, t3, t4] args.toList ds ps) :
    ∃ v0 v1 v2 v3 v4 d0 d1 d2 d3 d4 p0 p1 p2 p3 p4, args = #[v0, v1, v2, v3, v4] ∧ ds = [d0, d1, d2, d3, d4] ∧ ps = p0 ++ (p1 ++ (p2 ++ (p3 ++ p4))) ∧ DataW.Trod enc P w base spare held t0 v0 d0 p0 ∧ DataW.Trod enc P w base spare held t1 v1 d1 p1 ∧ DataW.Trod enc P w base spare held t2 v2 d2 p2 ∧ DataW.Trod enc P w base spare held t3 v3 d3 p3 ∧ DataW.Trod enc P w base spare held t4 v4 d4 p4 := by
  obtain ⟨v0, vs, d0, ds0, p0, q0, hargs, rfl, rfl, h0, r0⟩ := trodAll_cons h
  obtain ⟨v1, vs1, d1, ds1, p1, q1, rfl, rfl, rfl, h1, r1⟩ := trodAll_cons r0
  obtain ⟨v2, vs2, d2, ds2, p2, q2, rfl, rfl, rfl, h2, r2⟩ := trodAll_cons r1
  obtain ⟨v3, vs3, d3, ds3, p3, q3, rfl, rfl, rfl, h3, r3⟩ := trodAll_cons r2
  obtain ⟨v4, vs4, d4, ds4, p4, q4, rfl, rfl, rfl, h4, r4⟩ := trodAll_cons r3
  obtain ⟨rfl, rfl, rfl⟩ := trodAll_nil r4
  exact ⟨v0, v1, v2, v3, v4, d0, d1, d2, d3, d4, p0, p1, p2, p3, p4, by cases args; simp_all, rfl, by simp, h0, h1, h2, h3, h4⟩
theorem trodAll_mk5 {t0 t1 t2 t3 t4 : TypeId} {v0 v1 v2 v3 v4 : Value} {d0 d1 d2 d3 d4 : DataW H} {p0 p1 p2 p3 p4 : List MemPlace} (h0 : DataW.Trod enc P w base spare held t0 v0 d0 p0) (h1 : DataW.Trod enc P w base spare held t1 v1 d1 p1) (h2 : DataW.Trod enc P w base spare held t2 v2 d2 p2) (h3 : DataW.Trod enc P w base spare held t3 v3 d3 p3) (h4 : DataW.Trod enc P w base spare held t4 v4 d4 p4) :
    DataW.TrodAll enc P w base spare held [t0, t1, t2, t3, t4] [v0, v1, v2, v3, v4] [d0, d1, d2, d3, d4] (p0 ++ (p1 ++ (p2 ++ (p3 ++ p4)))) := ⟨p0, _, h0, trodAll_mk4 h1 h2 h3 h4, rfl⟩
end
end Go.Proofs.Ytlndinigbppafaa
