/-
  The walks of the program's tree: bits.Len, Whole and the methods of Stretch.
-/
import Derived.Test.YtgcoggmldgpfmaaWire
import Derived.BigQuiet
import Derived.Deep.QuietTactic
import Derived.Lib.Strings
import Derived.Lib.Slices
import Derived.Lib.Small
import Derived.Lib.Walk
import Derived.Lib.BitFns
import Derived.Handy
namespace Go.Proofs.Ytgcoggmldgpfmaa
open Go.RowKit

/-- A stretch, as a value. -/
def strV (p d : Nat) : Value := .agg #[.int .i64 p, .int .i64 d]
theorem below_dN {B : Nat} {a w : World} (h : Below B a w) (n : Nat) : Below B a (w.drewN n) := ⟨h.os, h.tape, h.output, h.size, h.block⟩
theorem endNum (p d : Nat) (hp : p ≤ 1000000) (hd : d ≤ 16) : wrap64 ((p : Int) + wrap64 (2 ^ d)) = ((p + pw d : Nat) : Int) := by
  have h16 : pw d ≤ 65536 := pw_le (e := 16) hd
  have e : (2 : Int) ^ d = (pw d : Int) := by unfold pw; simp
  rw [e]; unfold wrap64; omega

set_option maxRecDepth 100000 in
set_option maxHeartbeats 400000 in
theorem strEnd_any (p d : Nat) (P D : Int) (eP : P = p) (eD : D = d) (w : World) (hp : p ≤ 1000000) (hd : d ≤ 16) :
    Calls Try.prog 110 #[.agg #[.int .i64 P, .int .i64 D]] w fun e w' => e = .returned (.int .i64 (p + pw d : Nat)) ∧ Below w.heap.size w w' := by
  subst eP eD
  have HE : Hid _ := endNum p d hp hd
  go_enter Try.func110, Try.ntmps110
  go_wp2
  go_quiet (fail)
  go_wp2
  go_ret
  exact ⟨ret_int HE.out, below_dN ((Below.refl _ _).alloc (Nat.le_refl _) _) _⟩

set_option maxRecDepth 100000 in
set_option maxHeartbeats 400000 in
theorem strLeft_any (p d : Nat) (P D : Int) (eP : P = p) (eD : D = (d : Int) + 1) (w : World) (hd : d + 1 ≤ 16) :
    Calls Try.prog 112 #[.agg #[.int .i64 P, .int .i64 D]] w fun e w' => e = .returned (.agg #[.int .i64 p, .int .i64 d]) ∧ Below w.heap.size w w' := by
  subst eP eD
  go_enter Try.func112, Try.ntmps112
  go_wp2
  exact bodyPost_ret (v := .agg #[.int .i64 p, .int .i64 d]) (by simp [results, Try.results112, go_sem]) rfl ⟨rfl, by repeat (first | exact Below.refl _ _ | refine Below.setCell ?_ (by simp) _ | refine Below.alloc ?_ (by simp) _)⟩

set_option maxRecDepth 100000 in
set_option maxHeartbeats 400000 in
theorem strBelow_any (p d : Nat) (P D m : Int) (eP : P = p) (eD : D = d) (w : World) (hp : p ≤ 1000000) (hd : d ≤ 16) :
    Calls Try.prog 90 #[.agg #[.int .i64 P, .int .i64 D], .int .i64 m] w fun e w' => e = .returned (.bool (decide (((p + pw d : Nat) : Int) ≤ m))) ∧ Below w.heap.size w w' := by
  subst eP eD
  go_enter Try.func90, Try.ntmps90
  go_wp2_with fail
  refine (strEnd_any p d _ _ rfl rfl _ hp hd).mono ?_
  rintro e w1 ⟨rfl, hb⟩
  go_wp2
  go_ret
  exact ⟨by simp, ((Below.refl _ _).alloc (Nat.le_refl _) _).trans (hb.mono (by simp))⟩

set_option maxRecDepth 100000 in
set_option maxHeartbeats 400000 in
theorem strBeyond_any (p : Nat) (P D m : Int) (eP : P = p) (w : World) :
    Calls Try.prog 91 #[.agg #[.int .i64 P, .int .i64 D], .int .i64 m] w fun e w' => e = .returned (.bool (decide (m ≤ (p : Int)))) ∧ Below w.heap.size w w' := by
  subst eP
  go_enter Try.func91, Try.ntmps91
  go_wp2
  go_ret
  exact ⟨rfl, ((Below.refl _ _).alloc (Nat.le_refl _) _)⟩

set_option maxRecDepth 100000 in
set_option maxHeartbeats 400000 in
theorem strHolds_any (p d : Nat) (P D i : Int) (eP : P = p) (eD : D = d) (w : World) (hp : p ≤ 1000000) (hd : d ≤ 16) :
    Calls Try.prog 95 #[.agg #[.int .i64 P, .int .i64 D], .int .i64 i] w fun e w' => e = .returned (.bool (decide ((p : Int) ≤ i) && decide (i < ((p + pw d : Nat) : Int)))) ∧ Below w.heap.size w w' := by
  subst eP eD
  by_cases hpi : (p : Int) ≤ i
  · go_enter Try.func95, Try.ntmps95
    go_wp2_with fail
    refine (strEnd_any p d _ _ rfl rfl _ hp hd).mono ?_
    rintro e w1 ⟨rfl, hb⟩
    go_wp2
    go_ret
    exact ⟨by simp [hpi], ((Below.refl _ _).alloc (Nat.le_refl _) _).trans (hb.mono (by simp))⟩
  · go_enter Try.func95, Try.ntmps95
    go_wp2
    go_ret
    exact ⟨by simp; omega, ((Below.refl _ _).alloc (Nat.le_refl _) _)⟩

/-- A stretch in a box, and a place for a result behind it. -/
structure SR (B : Nat) (P D : Int) (w : World) : Prop where
  c0 : w.cell? ⟨B, 0, none⟩ = some (.int .i64 P)
  c1 : w.cell? ⟨B, 1, none⟩ = some (.int .i64 D)
  r0 : w.cell? ⟨B + 1, 0, none⟩ = some (.int .i64 0)
  r1 : w.cell? ⟨B + 1, 1, none⟩ = some (.int .i64 0)
  z0 : w.frozen? ⟨B + 1, 0, none⟩ = false
  z1 : w.frozen? ⟨B + 1, 1, none⟩ = false
theorem SR.below {B : Nat} {P D : Int} {u u' : World} (h : SR B P D u) (hb : Below u.heap.size u u') : SR B P D u' :=
  ⟨cell_keep h.c0 hb, cell_keep h.c1 hb, cell_keep h.r0 hb, cell_keep h.r1 hb, frozen_keep h.r0 h.z0 hb, frozen_keep h.r1 h.z1 hb⟩
theorem SR.mk' (w : World) (P D : Int) : SR w.heap.size P D ((w.alloc (.cells #[.int .i64 P, .int .i64 D] 137)).alloc (.cells #[.int .i64 0, .int .i64 0] 137)) := by
  refine ⟨?_, ?_, ?_, ?_, ?_, ?_⟩ <;> simp
theorem SR.drew {B : Nat} {P D : Int} {u : World} (h : SR B P D u) : SR B P D u.drew := ⟨h.c0, h.c1, h.r0, h.r1, h.z0, h.z1⟩

set_option maxRecDepth 100000 in
set_option maxHeartbeats 400000 in
theorem strRight_any (p d : Nat) (P D : Int) (eP : P = p) (eD : D = (d : Int) + 1) (w : World) (hp : p ≤ 1000000) (hd : d + 1 ≤ 16) :
    Calls Try.prog 116 #[.agg #[.int .i64 P, .int .i64 D]] w fun e w' => e = .returned (.agg #[.int .i64 (p + pw d : Nat), .int .i64 d]) ∧ Below w.heap.size w w' := by
  subst eP eD
  go_enter Try.func116, Try.ntmps116
  go_wp2
  have hS := (SR.mk' w p ((d : Int) + 1)).drew
  have hW : Below w.heap.size w ((w.alloc (.cells #[.int .i64 p, .int .i64 ((d : Int) + 1)] 137)).alloc (.cells #[.int .i64 0, .int .i64 0] 137)) := ((Below.refl _ _).alloc (Nat.le_refl _) _).alloc (by simp) _
  generalize (w.alloc (.cells #[.int .i64 p, .int .i64 ((d : Int) + 1)] 137)).alloc (.cells #[.int .i64 0, .int .i64 0] 137) = W at hS hW ⊢
  have f0 : W.cell? ⟨w.heap.size, 0, none⟩ = some (.int .i64 p) := hS.c0
  have f1 : W.cell? ⟨w.heap.size, 1, none⟩ = some (.int .i64 ((d : Int) + 1)) := hS.c1
  have hWs := hW.size
  have hwd : IntKind.i64.wrap (d : Int) = d := by rw [IntKind.wrap_i64]; omega
  go_region_with (first
    | (go_at_call 112; refine (strLeft_any p d _ _ rfl rfl _ hd).mono ?_; rintro e w1 ⟨rfl, hb1⟩; have hS1 := hS.below hb1; obtain ⟨q0, q1, q2, q3, q4, q5⟩ := id hS1)
    | (go_at_call 110; refine (strEnd_any p d _ _ rfl rfl _ hp (by omega)).mono ?_; rintro e w2 ⟨rfl, hb2⟩; have hS2 := hS1.below hb2; obtain ⟨q0, q1, q2, q3, q4, q5⟩ := id hS2))
  all_goals go_wp2
  all_goals have hs1 : w.heap.size ≤ w1.heap.size := Nat.le_trans hWs hb1.size
  all_goals refine bodyPost_ret (v := .agg #[.int .i64 ((p : Int) + (pw d : Int)), .int .i64 d]) (by simp [results, Try.results116, go_sem, q2, q3]) rfl ⟨by simp, ?_⟩
  all_goals exact (((hW.drew.trans (hb1.mono hWs)).trans (hb2.mono hs1)).setCell (Nat.le_succ _) _).setCell (Nat.le_succ _) _

set_option maxRecDepth 100000 in
set_option maxHeartbeats 400000 in
theorem strSingle_any (p d : Nat) (P D m : Int) (eP : P = p) (eD : D = (d : Int) + 1) (w : World) (hp : p ≤ 1000000) (hd : d + 1 ≤ 16) :
    Calls Try.prog 113 #[.agg #[.int .i64 P, .int .i64 D], .int .i64 m] w fun e w' => e = .returned (.bool (decide (m ≤ ((p + pw d : Nat) : Int)))) ∧ Below w.heap.size w w' := by
  subst eP eD
  go_enter Try.func113, Try.ntmps113
  go_wp2_with fail
  refine (strRight_any p d _ _ rfl rfl _ hp hd).mono ?_
  rintro e w1 ⟨rfl, hb⟩
  go_wp2_with fail
  refine (strBeyond_any (p + pw d) _ _ _ rfl _).mono ?_
  rintro e w2 ⟨rfl, hb2⟩
  go_wp2
  go_ret
  exact ⟨rfl, (((Below.refl _ _).alloc (Nat.le_refl _) _).trans (hb.mono (by simp))).trans (hb2.mono (Nat.le_trans (by simp) hb.size))⟩
end Go.Proofs.Ytgcoggmldgpfmaa

/-
  The walks of bits.Len and of the program's tree.Whole.
-/
namespace Go.Proofs.Ytgcoggmldgpfmaa
open Go.RowKit

theorem bitLen_log (x : Nat) (h : x < 2 ^ 64) : Lib.bitLen x = if x = 0 then 0 else Nat.log2 x + 1 := by
  induction x using Nat.strongRecOn with
  | ind x ih =>
    by_cases h0 : x = 0
    · subst h0; rfl
    · rw [if_neg h0, Lib.bitLen_half x h0 h, ih (x / 2) (by omega) (by omega), Nat.log2_def x]
      by_cases h2 : x ≥ 2
      · rw [if_pos h2, if_neg (by omega)]; omega
      · rw [if_neg h2, if_pos (by omega)]
theorem dep_bitLen (n : Nat) (h : 1 ≤ n) (h2 : n ≤ 65536) : Lib.bitLen (n - 1) = dep n := by
  rw [bitLen_log _ (by omega)]
  unfold dep
  by_cases h1 : n = 1
  · subst h1; rfl
  · rw [if_neg (by omega), if_neg (by omega)]

set_option maxRecDepth 100000 in
set_option maxHeartbeats 400000 in
theorem len64_any (x : Int) (w : World) (h0 : 0 ≤ x) (h1 : x ≤ 65535) :
    Calls Try.prog 129 #[.int .u64 x] w fun e w' => e = .returned (.int .i64 (Lib.bitLen x.toNat)) ∧ w' = w := by
  by_cases h8 : x ≤ 255
  · go_enter Try.func129, Try.ntmps129
    go_wp2
    go_ret
    refine ⟨congrArg Ending.returned (congrArg (Value.int IntKind.i64) ?_), rfl⟩
    rw [Lib.len8_of x h0 h8]
    have l := Lib.bitLen_le8' x h0 h8
    generalize Lib.bitLen x.toNat = L at *
    first | omega | (unfold wrap64; omega)
  · have g0 : 0 ≤ x / 256 := by omega
    have g1 : x / 256 ≤ 255 := by omega
    go_enter Try.func129, Try.ntmps129
    go_wp2
    go_ret
    refine ⟨congrArg Ending.returned (congrArg (Value.int IntKind.i64) ?_), rfl⟩
    rw [Lib.len8_of (x / 256) g0 g1]
    have l := Lib.bitLen_le8' (x / 256) g0 g1
    have s := Lib.bitLen_shift8 x.toNat (by omega) (by omega)
    have e : x.toNat / 256 = (x / 256).toNat := by omega
    rw [s, e]
    generalize Lib.bitLen (x / 256).toNat = L at *
    first | omega | (unfold wrap64; omega)

set_option maxRecDepth 100000 in
set_option maxHeartbeats 400000 in
theorem len_any (x : Int) (w : World) (h0 : 0 ≤ x) (h1 : x ≤ 65535) :
    Calls Try.prog 117 #[.int .u64 x] w fun e w' => e = .returned (.int .i64 (Lib.bitLen x.toNat)) ∧ w' = w := by
  go_enter Try.func117, Try.ntmps117
  go_wp2_with (go_at_call 129; refine (len64_any x _ h0 h1).mono ?_; rintro e w' ⟨rfl, rfl⟩)
  go_ret
  exact ⟨rfl, rfl⟩

set_option maxRecDepth 100000 in
set_option maxHeartbeats 400000 in
theorem whole_any (n : Nat) (w : World) (h1 : 1 ≤ n) (h2 : n ≤ 65536) :
    Calls Try.prog 93 #[.int .i64 n] w fun e w' => e = .returned (.agg #[.int .i64 0, .int .i64 (dep n)]) ∧ Below w.heap.size w w' := by
  have HD : Hid _ := dep_bitLen n h1 h2
  have e1 : ((n : Int) - 1).toNat = n - 1 := by omega
  go_enter Try.func93, Try.ntmps93
  go_wp2_with fail
  refine (len_any ((n : Int) - 1) _ (by omega) (by omega)).mono ?_
  rintro e w' ⟨rfl, rfl⟩
  rw [e1, HD.out]
  go_wp2
  exact bodyPost_ret (v := .agg #[.int .i64 0, .int .i64 (dep n)]) (by simp [results, Try.results93, go_sem]) rfl ⟨rfl, (Below.refl _ _).alloc (Nat.le_refl _) _⟩
end Go.Proofs.Ytgcoggmldgpfmaa

/-
  The walks of the program's tree: the nodes and their digests.
-/
namespace Go.Proofs.Ytgcoggmldgpfmaa
open Go.RowKit

set_option maxRecDepth 100000 in
set_option maxHeartbeats 400000 in
theorem leafDigest_any (a b x : Value) (g : Int) (w : World) :
    Calls Try.prog 165 #[.agg #[a, b, .int .i64 g, x]] w fun e w' => e = .returned (.int .i64 g) ∧ w' = w.alloc (.cells #[a, b, .int .i64 g, x] 161) := by
  go_enter Try.func165, Try.ntmps165
  go_wp2
  go_ret
  exact ⟨rfl, rfl⟩
set_option maxRecDepth 100000 in
set_option maxHeartbeats 400000 in
theorem aloneDigest_any (a b x : Value) (g : Int) (w : World) :
    Calls Try.prog 169 #[.agg #[a, b, .int .i64 g, x]] w fun e w' => e = .returned (.int .i64 g) ∧ w' = w.alloc (.cells #[a, b, .int .i64 g, x] 165) := by
  go_enter Try.func169, Try.ntmps169
  go_wp2
  go_ret
  exact ⟨rfl, rfl⟩
set_option maxRecDepth 100000 in
set_option maxHeartbeats 400000 in
theorem twoDigest_any (a b x y : Value) (g : Int) (w : World) :
    Calls Try.prog 174 #[.agg #[a, b, .int .i64 g, x, y]] w fun e w' => e = .returned (.int .i64 g) ∧ w' = w.alloc (.cells #[a, b, .int .i64 g, x, y] 168) := by
  go_enter Try.func174, Try.ntmps174
  go_wp2
  go_ret
  exact ⟨rfl, rfl⟩

/-- A node's value, whatever kind it is, with its digest g. -/
inductive NodeV (g : Int) : Value → Prop
  | leaf (a b x : Value) : NodeV g (.iface 161 (.agg #[a, b, .int .i64 g, x]))
  | alone (a b x : Value) : NodeV g (.iface 165 (.agg #[a, b, .int .i64 g, x]))
  | two (a b x y : Value) : NodeV g (.iface 168 (.agg #[a, b, .int .i64 g, x, y]))

set_option maxRecDepth 100000 in
set_option maxHeartbeats 400000 in
theorem newLeaf_any (P D : Int) (s : ByteArray) (w : World) (hs : s.size ≤ 1000000) :
    Calls Try.prog 111 #[.agg #[.int .i64 P, .int .i64 D], .string s] w fun e w' => e = .returned (.agg #[.int .i64 P, .int .i64 D, .int .i64 (sm (0 :: s.data.toList)), .string s]) ∧ Below w.heap.size w w' := by
  have hcv := fun u s => @run_bytes_of_string Try.prog u 9 24 5 s Try.underlying9 Try.underlying24 Try.underlying5
  have e0 : s.data.toList.length = s.size := by rw [Array.length_toList]; rfl
  have HS : Hid (sm (0 :: s.data.toList) = sm [[b8 0], s.data.toList].flatten) := by
    show sm (0 :: s.data.toList) = _
    simp [b8]
  go_enter Try.func111, Try.ntmps111
  go_wp2_with fail
  refine (sumOf_any [[b8 0], s.data.toList] _ _ ((rows2 _ _ _ _ _ _ (by simp) ((byte_at 0 _ _ (by decide) (by decide) (by simp)).keep (keepA _ _)) (made_at _ _ _ _ _ _ (by simp) rfl)).keep (keepD _) (keepD _)) (by simp) (by intro l hl; simp at hl; rcases hl with rfl | rfl <;> simp; omega)).mono ?_
  rintro e w' ⟨rfl, rfl⟩
  rw [← HS.out]
  go_wp2
  exact bodyPost_ret (v := .agg #[.int .i64 P, .int .i64 D, .int .i64 (sm (0 :: s.data.toList)), .string s]) (by simp [results, Try.results111, go_sem]) rfl ⟨rfl, by repeat (first | exact Below.refl _ _ | refine Below.drew ?_ | refine Below.alloc ?_ (by first | omega | (simp; omega) | simp) _)⟩

/-- The digest of a child, through the interface. -/
theorem digest_call {g : Int} {V : Value} (h : NodeV g V) : (∃ a b x, V = .iface 161 (.agg #[a, b, .int .i64 g, x])) ∨ (∃ a b x, V = .iface 165 (.agg #[a, b, .int .i64 g, x])) ∨ (∃ a b x y, V = .iface 168 (.agg #[a, b, .int .i64 g, x, y])) := by
  cases h with
  | leaf a b x => exact .inl ⟨a, b, x, rfl⟩
  | alone a b x => exact .inr (.inl ⟨a, b, x, rfl⟩)
  | two a b x y => exact .inr (.inr ⟨a, b, x, y, rfl⟩)

set_option maxRecDepth 100000 in
set_option maxHeartbeats 400000 in
theorem newAlone_any (P D g : Int) (V : Value) (w : World) (hV : NodeV g V) (hg : 0 ≤ g ∧ g ≤ 65535) :
    Calls Try.prog 114 #[.agg #[.int .i64 P, .int .i64 D], V] w fun e w' => e = .returned (.agg #[.int .i64 P, .int .i64 D, .int .i64 (sm (2 :: two8 g)), V]) ∧ Below w.heap.size w w' := by
  have HS : Hid (sm (2 :: two8 g) = sm [[b8 2], two8 g].flatten) := by
    show sm (2 :: two8 g) = _
    simp [b8]
  obtain ⟨hg0, hg1⟩ := hg
  rcases digest_call hV with ⟨a, b, x, rfl⟩ | ⟨a, b, x, rfl⟩ | ⟨a, b, x, y, rfl⟩
  · go_enter Try.func114, Try.ntmps114
    go_wp2_with (first | (go_at_call 165; refine (leafDigest_any _ _ _ _ _).mono ?_; rintro e w' ⟨rfl, rfl⟩) | (go_at_call 109; refine (wireTwo_any _ _ (by assumption) (by assumption)).mono ?_; rintro e w' ⟨rfl, rfl⟩))
    refine (sumOf_any [[b8 2], two8 g] _ _ (rows2 _ _ _ _ _ _ (by simp) (((byte_at 2 _ _ (by decide) (by decide) (by simp)).keep (keepA _ _)).keep (keepA _ _)) (two8_at _ _ _ hg0 hg1 (by simp))) (by simp) (by intro l hl; simp at hl; rcases hl with rfl | rfl <;> simp [two8])).mono ?_
    rintro e w' ⟨rfl, rfl⟩
    rw [← HS.out]
    go_wp2
    refine bodyPost_ret (v := .agg #[.int .i64 P, .int .i64 D, .int .i64 (sm (2 :: two8 g)), .iface 161 (.agg #[a, b, .int .i64 g, x])]) (by simp [results, Try.results114, go_sem]) rfl ⟨rfl, ?_⟩
    go_grown
  · go_enter Try.func114, Try.ntmps114
    go_wp2_with (first | (go_at_call 169; refine (aloneDigest_any _ _ _ _ _).mono ?_; rintro e w' ⟨rfl, rfl⟩) | (go_at_call 109; refine (wireTwo_any _ _ (by assumption) (by assumption)).mono ?_; rintro e w' ⟨rfl, rfl⟩))
    refine (sumOf_any [[b8 2], two8 g] _ _ (rows2 _ _ _ _ _ _ (by simp) (((byte_at 2 _ _ (by decide) (by decide) (by simp)).keep (keepA _ _)).keep (keepA _ _)) (two8_at _ _ _ hg0 hg1 (by simp))) (by simp) (by intro l hl; simp at hl; rcases hl with rfl | rfl <;> simp [two8])).mono ?_
    rintro e w' ⟨rfl, rfl⟩
    rw [← HS.out]
    go_wp2
    refine bodyPost_ret (v := .agg #[.int .i64 P, .int .i64 D, .int .i64 (sm (2 :: two8 g)), .iface 165 (.agg #[a, b, .int .i64 g, x])]) (by simp [results, Try.results114, go_sem]) rfl ⟨rfl, ?_⟩
    go_grown
  · go_enter Try.func114, Try.ntmps114
    go_wp2_with (first | (go_at_call 174; refine (twoDigest_any _ _ _ _ _ _).mono ?_; rintro e w' ⟨rfl, rfl⟩) | (go_at_call 109; refine (wireTwo_any _ _ (by assumption) (by assumption)).mono ?_; rintro e w' ⟨rfl, rfl⟩))
    refine (sumOf_any [[b8 2], two8 g] _ _ (rows2 _ _ _ _ _ _ (by simp) (((byte_at 2 _ _ (by decide) (by decide) (by simp)).keep (keepA _ _)).keep (keepA _ _)) (two8_at _ _ _ hg0 hg1 (by simp))) (by simp) (by intro l hl; simp at hl; rcases hl with rfl | rfl <;> simp [two8])).mono ?_
    rintro e w' ⟨rfl, rfl⟩
    rw [← HS.out]
    go_wp2
    refine bodyPost_ret (v := .agg #[.int .i64 P, .int .i64 D, .int .i64 (sm (2 :: two8 g)), .iface 168 (.agg #[a, b, .int .i64 g, x, y])]) (by simp [results, Try.results114, go_sem]) rfl ⟨rfl, ?_⟩
    go_grown
end Go.Proofs.Ytgcoggmldgpfmaa
