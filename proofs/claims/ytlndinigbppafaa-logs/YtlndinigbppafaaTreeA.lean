/-
  The walks of the program's tree: bits.Len, Whole and the methods of Stretch.
-/
import Derived.Test.YtlndinigbppafaaJ40
import Derived.BigQuiet
import Derived.Deep.QuietTactic
import Derived.Lib.Strings
import Derived.Lib.Slices
import Derived.Lib.Small
import Derived.Lib.Walk
import Derived.Lib.BitFns
import Derived.Handy
namespace Go.Proofs.Ytlndinigbppafaa
open Go.RowKit

/-- A stretch, as a value. -/
def strV (p d : Nat) : Value := .agg #[.int .i64 p, .int .i64 d]
theorem below_dN {B : Nat} {a w : World} (h : Below B a w) (n : Nat) : Below B a (w.drewN n) := ⟨h.os, h.tape, h.output, h.size, h.block⟩
theorem endNum (p d : Nat) (hp : p ≤ 1000000) (hd : d ≤ 16) : wrap64 ((p : Int) + wrap64 (2 ^ d)) = ((p + pw d : Nat) : Int) := by
  have h16 : pw d ≤ 65536 := pw_le (e := 16) hd
  have e : (2 : Int) ^ d = (pw d : Int) := by unfold pw; simp
  rw [e]; unfold wrap64; omega

set_option maxRecDepth 100000 in
set_option maxHeartbeats 400000 in
theorem strEnd_any (p d : Nat) (P D : Int) (eP : P = p) (eD : D = d) (w : World) (hp : p ≤ 1000000) (hd : d ≤ 16) :
    Calls Try.prog 88 #[.agg #[.int .i64 P, .int .i64 D]] w fun e w' => e = .returned (.int .i64 (p + pw d : Nat)) ∧ Below w.heap.size w w' := by
  subst eP eD
  have HE : Hid _ := endNum p d hp hd
  go_enter Try.func88, Try.ntmps88
  go_wp2
  go_quiet (fail)
  go_wp2
  go_ret
  exact ⟨ret_int HE.out, below_dN ((Below.refl _ _).alloc (Nat.le_refl _) _) _⟩

set_option maxRecDepth 100000 in
set_option maxHeartbeats 400000 in
theorem strLeft_any (p d : Nat) (P D : Int) (eP : P = p) (eD : D = (d : Int) + 1) (w : World) (hd : d + 1 ≤ 16) :
    Calls Try.prog 90 #[.agg #[.int .i64 P, .int .i64 D]] w fun e w' => e = .returned (.agg #[.int .i64 p, .int .i64 d]) ∧ Below w.heap.size w w' := by
  subst eP eD
  go_enter Try.func90, Try.ntmps90
  go_wp2
  exact bodyPost_ret (v := .agg #[.int .i64 p, .int .i64 d]) (by simp [results, Try.results90, go_sem]) rfl ⟨rfl, by repeat (first | exact Below.refl _ _ | refine Below.setCell ?_ (by simp) _ | refine Below.alloc ?_ (by simp) _)⟩

set_option maxRecDepth 100000 in
set_option maxHeartbeats 400000 in
theorem strBelow_any (p d : Nat) (P D m : Int) (eP : P = p) (eD : D = d) (w : World) (hp : p ≤ 1000000) (hd : d ≤ 16) :
    Calls Try.prog 74 #[.agg #[.int .i64 P, .int .i64 D], .int .i64 m] w fun e w' => e = .returned (.bool (decide (((p + pw d : Nat) : Int) ≤ m))) ∧ Below w.heap.size w w' := by
  subst eP eD
  go_enter Try.func74, Try.ntmps74
  go_wp2_with fail
  refine (strEnd_any p d _ _ rfl rfl _ hp hd).mono ?_
  rintro e w1 ⟨rfl, hb⟩
  go_wp2
  go_ret
  exact ⟨by simp, ((Below.refl _ _).alloc (Nat.le_refl _) _).trans (hb.mono (by simp))⟩

set_option maxRecDepth 100000 in
set_option maxHeartbeats 400000 in
theorem strBeyond_any (p : Nat) (P D m : Int) (eP : P = p) (w : World) :
    Calls Try.prog 75 #[.agg #[.int .i64 P, .int .i64 D], .int .i64 m] w fun e w' => e = .returned (.bool (decide (m ≤ (p : Int)))) ∧ Below w.heap.size w w' := by
  subst eP
  go_enter Try.func75, Try.ntmps75
  go_wp2
  go_ret
  exact ⟨rfl, ((Below.refl _ _).alloc (Nat.le_refl _) _)⟩

set_option maxRecDepth 100000 in
set_option maxHeartbeats 400000 in
theorem strHolds_any (p d : Nat) (P D i : Int) (eP : P = p) (eD : D = d) (w : World) (hp : p ≤ 1000000) (hd : d ≤ 16) :
    Calls Try.prog 79 #[.agg #[.int .i64 P, .int .i64 D], .int .i64 i] w fun e w' => e = .returned (.bool (decide ((p : Int) ≤ i) && decide (i < ((p + pw d : Nat) : Int)))) ∧ Below w.heap.size w w' := by
  subst eP eD
  by_cases hpi : (p : Int) ≤ i
  · go_enter Try.func79, Try.ntmps79
    go_wp2_with fail
    refine (strEnd_any p d _ _ rfl rfl _ hp hd).mono ?_
    rintro e w1 ⟨rfl, hb⟩
    go_wp2
    go_ret
    exact ⟨by simp [hpi], ((Below.refl _ _).alloc (Nat.le_refl _) _).trans (hb.mono (by simp))⟩
  · go_enter Try.func79, Try.ntmps79
    go_wp2
    go_ret
    exact ⟨by simp; omega, ((Below.refl _ _).alloc (Nat.le_refl _) _)⟩

/-- A stretch in a box, and a place for a result behind it. -/
structure SR (B : Nat) (P D : Int) (w : World) : Prop where
  c0 : w.cell? ⟨B, 0, none⟩ = some (.int .i64 P)
  c1 : w.cell? ⟨B, 1, none⟩ = some (.int .i64 D)
  r0 : w.cell? ⟨B + 1, 0, none⟩ = some (.int .i64 0)
  r1 : w.cell? ⟨B + 1, 1, none⟩ = some (.int .i64 0)
  z0 : w.frozen? ⟨B + 1, 0, none⟩ = false
  z1 : w.frozen? ⟨B + 1, 1, none⟩ = false
theorem SR.below {B : Nat} {P D : Int} {u u' : World} (h : SR B P D u) (hb : Below u.heap.size u u') : SR B P D u' :=
  ⟨cell_keep h.c0 hb, cell_keep h.c1 hb, cell_keep h.r0 hb, cell_keep h.r1 hb, frozen_keep h.r0 h.z0 hb, frozen_keep h.r1 h.z1 hb⟩
theorem SR.mk' (w : World) (P D : Int) : SR w.heap.size P D ((w.alloc (.cells #[.int .i64 P, .int .i64 D] 118)).alloc (.cells #[.int .i64 0, .int .i64 0] 118)) := by
  refine ⟨?_, ?_, ?_, ?_, ?_, ?_⟩ <;> simp
theorem SR.drew {B : Nat} {P D : Int} {u : World} (h : SR B P D u) : SR B P D u.drew := ⟨h.c0, h.c1, h.r0, h.r1, h.z0, h.z1⟩

set_option maxRecDepth 100000 in
set_option maxHeartbeats 400000 in
theorem strRight_any (p d : Nat) (P D : Int) (eP : P = p) (eD : D = (d : Int) + 1) (w : World) (hp : p ≤ 1000000) (hd : d + 1 ≤ 16) :
    Calls Try.prog 94 #[.agg #[.int .i64 P, .int .i64 D]] w fun e w' => e = .returned (.agg #[.int .i64 (p + pw d : Nat), .int .i64 d]) ∧ Below w.heap.size w w' := by
  subst eP eD
  go_enter Try.func94, Try.ntmps94
  go_wp2
  have hS := (SR.mk' w p ((d : Int) + 1)).drew
  have hW : Below w.heap.size w ((w.alloc (.cells #[.int .i64 p, .int .i64 ((d : Int) + 1)] 118)).alloc (.cells #[.int .i64 0, .int .i64 0] 118)) := ((Below.refl _ _).alloc (Nat.le_refl _) _).alloc (by simp) _
  generalize (w.alloc (.cells #[.int .i64 p, .int .i64 ((d : Int) + 1)] 118)).alloc (.cells #[.int .i64 0, .int .i64 0] 118) = W at hS hW ⊢
  have f0 : W.cell? ⟨w.heap.size, 0, none⟩ = some (.int .i64 p) := hS.c0
  have f1 : W.cell? ⟨w.heap.size, 1, none⟩ = some (.int .i64 ((d : Int) + 1)) := hS.c1
  have hWs := hW.size
  have hwd : IntKind.i64.wrap (d : Int) = d := by rw [IntKind.wrap_i64]; omega
  go_region_with (first
    | (go_at_call 90; refine (strLeft_any p d _ _ rfl rfl _ hd).mono ?_; rintro e w1 ⟨rfl, hb1⟩; have hS1 := hS.below hb1; obtain ⟨q0, q1, q2, q3, q4, q5⟩ := id hS1)
    | (go_at_call 88; refine (strEnd_any p d _ _ rfl rfl _ hp (by omega)).mono ?_; rintro e w2 ⟨rfl, hb2⟩; have hS2 := hS1.below hb2; obtain ⟨q0, q1, q2, q3, q4, q5⟩ := id hS2))
  all_goals go_wp2
  all_goals have hs1 : w.heap.size ≤ w1.heap.size := Nat.le_trans hWs hb1.size
  all_goals refine bodyPost_ret (v := .agg #[.int .i64 ((p : Int) + (pw d : Int)), .int .i64 d]) (by simp [results, Try.results94, go_sem, q2, q3]) rfl ⟨by simp, ?_⟩
  all_goals exact (((hW.drew.trans (hb1.mono hWs)).trans (hb2.mono hs1)).setCell (Nat.le_succ _) _).setCell (Nat.le_succ _) _

set_option maxRecDepth 100000 in
set_option maxHeartbeats 400000 in
theorem strSingle_any (p d : Nat) (P D m : Int) (eP : P = p) (eD : D = (d : Int) + 1) (w : World) (hp : p ≤ 1000000) (hd : d + 1 ≤ 16) :
    Calls Try.prog 91 #[.agg #[.int .i64 P, .int .i64 D], .int .i64 m] w fun e w' => e = .returned (.bool (decide (m ≤ ((p + pw d : Nat) : Int)))) ∧ Below w.heap.size w w' := by
  subst eP eD
  go_enter Try.func91, Try.ntmps91
  go_wp2_with fail
  refine (strRight_any p d _ _ rfl rfl _ hp hd).mono ?_
  rintro e w1 ⟨rfl, hb⟩
  go_wp2_with fail
  refine (strBeyond_any (p + pw d) _ _ _ rfl _).mono ?_
  rintro e w2 ⟨rfl, hb2⟩
  go_wp2
  go_ret
  exact ⟨rfl, (((Below.refl _ _).alloc (Nat.le_refl _) _).trans (hb.mono (by simp))).trans (hb2.mono (Nat.le_trans (by simp) hb.size))⟩
end Go.Proofs.Ytlndinigbppafaa

/-
  The walks of bits.Len and of the program's tree.Whole.
-/
namespace Go.Proofs.Ytlndinigbppafaa
open Go.RowKit

theorem bitLen_log (x : Nat) (h : x < 2 ^ 64) : Lib.bitLen x = if x = 0 then 0 else Nat.log2 x + 1 := by
  induction x using Nat.strongRecOn with
  | ind x ih =>
    by_cases h0 : x = 0
    · subst h0; rfl
    · rw [if_neg h0, Lib.bitLen_half x h0 h, ih (x / 2) (by omega) (by omega), Nat.log2_def x]
      by_cases h2 : x ≥ 2
      · rw [if_pos h2, if_neg (by omega)]; omega
      · rw [if_neg h2, if_pos (by omega)]
theorem dep_bitLen (n : Nat) (h : 1 ≤ n) (h2 : n ≤ 65536) : Lib.bitLen (n - 1) = dep n := by
  rw [bitLen_log _ (by omega)]
  unfold dep
  by_cases h1 : n = 1
  · subst h1; rfl
  · rw [if_neg (by omega), if_neg (by omega)]

set_option maxRecDepth 100000 in
set_option maxHeartbeats 400000 in
theorem len64_any (x : Int) (w : World) (h0 : 0 ≤ x) (h1 : x ≤ 65535) :
    Calls Try.prog 106 #[.int .u64 x] w fun e w' => e = .returned (.int .i64 (Lib.bitLen x.toNat)) ∧ w' = w := by
  by_cases h8 : x ≤ 255
  · go_enter Try.func106, Try.ntmps106
    go_wp2
    go_ret
    refine ⟨congrArg Ending.returned (congrArg (Value.int IntKind.i64) ?_), rfl⟩
    rw [Lib.len8_of x h0 h8]
    have l := Lib.bitLen_le8' x h0 h8
    generalize Lib.bitLen x.toNat = L at *
    first | omega | (unfold wrap64; omega)
  · have g0 : 0 ≤ x / 256 := by omega
    have g1 : x / 256 ≤ 255 := by omega
    go_enter Try.func106, Try.ntmps106
    go_wp2
    go_ret
    refine ⟨congrArg Ending.returned (congrArg (Value.int IntKind.i64) ?_), rfl⟩
    rw [Lib.len8_of (x / 256) g0 g1]
    have l := Lib.bitLen_le8' (x / 256) g0 g1
    have s := Lib.bitLen_shift8 x.toNat (by omega) (by omega)
    have e : x.toNat / 256 = (x / 256).toNat := by omega
    rw [s, e]
    generalize Lib.bitLen (x / 256).toNat = L at *
    first | omega | (unfold wrap64; omega)

set_option maxRecDepth 100000 in
set_option maxHeartbeats 400000 in
theorem len_any (x : Int) (w : World) (h0 : 0 ≤ x) (h1 : x ≤ 65535) :
    Calls Try.prog 95 #[.int .u64 x] w fun e w' => e = .returned (.int .i64 (Lib.bitLen x.toNat)) ∧ w' = w := by
  go_enter Try.func95, Try.ntmps95
  go_wp2_with (go_at_call 106; refine (len64_any x _ h0 h1).mono ?_; rintro e w' ⟨rfl, rfl⟩)
  go_ret
  exact ⟨rfl, rfl⟩

set_option maxRecDepth 100000 in
set_option maxHeartbeats 400000 in
theorem whole_any (n : Nat) (w : World) (h1 : 1 ≤ n) (h2 : n ≤ 65536) :
    Calls Try.prog 77 #[.int .i64 n] w fun e w' => e = .returned (.agg #[.int .i64 0, .int .i64 (dep n)]) ∧ Below w.heap.size w w' := by
  have HD : Hid _ := dep_bitLen n h1 h2
  have e1 : ((n : Int) - 1).toNat = n - 1 := by omega
  go_enter Try.func77, Try.ntmps77
  go_wp2_with fail
  refine (len_any ((n : Int) - 1) _ (by omega) (by omega)).mono ?_
  rintro e w' ⟨rfl, rfl⟩
  rw [e1, HD.out]
  go_wp2
  exact bodyPost_ret (v := .agg #[.int .i64 0, .int .i64 (dep n)]) (by simp [results, Try.results77, go_sem]) rfl ⟨rfl, (Below.refl _ _).alloc (Nat.le_refl _) _⟩
end Go.Proofs.Ytlndinigbppafaa

/-
  The walks of the program's tree: the nodes and their digests.
-/
namespace Go.Proofs.Ytlndinigbppafaa
open Go.RowKit

set_option maxRecDepth 100000 in
set_option maxHeartbeats 400000 in
theorem leafDigest_any (a b x : Value) (g : Int) (w : World) :
    Calls Try.prog 132 #[.agg #[a, b, .int .i64 g, x]] w fun e w' => e = .returned (.int .i64 g) ∧ w' = w.alloc (.cells #[a, b, .int .i64 g, x] 136) := by
  go_enter Try.func132, Try.ntmps132
  go_wp2
  go_ret
  exact ⟨rfl, rfl⟩
set_option maxRecDepth 100000 in
set_option maxHeartbeats 400000 in
theorem aloneDigest_any (a b x : Value) (g : Int) (w : World) :
    Calls Try.prog 137 #[.agg #[a, b, .int .i64 g, x]] w fun e w' => e = .returned (.int .i64 g) ∧ w' = w.alloc (.cells #[a, b, .int .i64 g, x] 140) := by
  go_enter Try.func137, Try.ntmps137
  go_wp2
  go_ret
  exact ⟨rfl, rfl⟩
set_option maxRecDepth 100000 in
set_option maxHeartbeats 400000 in
theorem twoDigest_any (a b x y : Value) (g : Int) (w : World) :
    Calls Try.prog 143 #[.agg #[a, b, .int .i64 g, x, y]] w fun e w' => e = .returned (.int .i64 g) ∧ w' = w.alloc (.cells #[a, b, .int .i64 g, x, y] 143) := by
  go_enter Try.func143, Try.ntmps143
  go_wp2
  go_ret
  exact ⟨rfl, rfl⟩

/-- A node's value, whatever kind it is, with its digest g. -/
inductive NodeV (g : Int) : Value → Prop
  | leaf (a b x : Value) : NodeV g (.iface 136 (.agg #[a, b, .int .i64 g, x]))
  | alone (a b x : Value) : NodeV g (.iface 140 (.agg #[a, b, .int .i64 g, x]))
  | two (a b x y : Value) : NodeV g (.iface 143 (.agg #[a, b, .int .i64 g, x, y]))

/-- The digest of a child, through the interface. -/
theorem digest_call {g : Int} {V : Value} (h : NodeV g V) : (∃ a b x, V = .iface 136 (.agg #[a, b, .int .i64 g, x])) ∨ (∃ a b x, V = .iface 140 (.agg #[a, b, .int .i64 g, x])) ∨ (∃ a b x y, V = .iface 143 (.agg #[a, b, .int .i64 g, x, y])) := by
  cases h with
  | leaf a b x => exact .inl ⟨a, b, x, rfl⟩
  | alone a b x => exact .inr (.inl ⟨a, b, x, rfl⟩)
  | two a b x y => exact .inr (.inr ⟨a, b, x, y, rfl⟩)

/-- The value V has the digest g, through the interface. -/
def Digs (V : Value) (g : Int) : Prop :=
  ∃ t a F, V = .iface t a ∧ (∀ w : World, (method 292 t a "Digest").run Try.prog w = .ok (F, a) w) ∧ (∀ w : World, (callFunc F #[a]).run Try.prog w = .ok (.enter F #[a]) w) ∧ (∀ w : World, (nilAhead 292 t a "Digest").run Try.prog w = .ok (some false) w) ∧
    Hid (∀ w : World, Calls Try.prog F #[a] w fun e w' => e = .returned (.int .i64 g) ∧ Below w.heap.size w w')
theorem NodeV.digs {g : Int} {V : Value} (h : NodeV g V) : Digs V g := by
  have hb : ∀ {e : Ending} {r : Ending} {w w' : World} {o : Obj}, e = r ∧ w' = w.alloc o → e = r ∧ Below w.heap.size w w' := fun h => ⟨h.1, by rw [h.2]; exact (Below.refl _ _).alloc (Nat.le_refl _) _⟩
  cases h with
  | leaf a b x => exact ⟨_, _, 132, rfl, fun w => by kernel_rfl, fun w => by kernel_rfl, fun w => by kernel_rfl, fun w => (leafDigest_any a b x g w).mono fun e w' => hb⟩
  | alone a b x => exact ⟨_, _, 137, rfl, fun w => by kernel_rfl, fun w => by kernel_rfl, fun w => by kernel_rfl, fun w => (aloneDigest_any a b x g w).mono fun e w' => hb⟩
  | two a b x y => exact ⟨_, _, 143, rfl, fun w => by kernel_rfl, fun w => by kernel_rfl, fun w => by kernel_rfl, fun w => (twoDigest_any a b x y g w).mono fun e w' => hb⟩

set_option maxRecDepth 100000 in
set_option maxHeartbeats 400000 in
theorem leafParts_any (s : ByteArray) (w : World) :
    Calls Try.prog 102 #[.string s] w fun e w' => ∃ v', e = .returned v' ∧ RowsAt w' v' [[b8 0], s.data.toList] ∧ Below w.heap.size w w' := by
  have hcv := fun u s => @run_bytes_of_string Try.prog u 9 24 5 s Try.underlying9 Try.underlying24 Try.underlying5
  go_enter Try.func102, Try.ntmps102
  go_wp2
  go_ret
  refine ⟨_, rfl, (rows2 _ _ _ _ _ _ (by simp) ((byte_at 0 _ _ (by decide) (by decide) (by simp)).keep (keepA _ _)) (made_at _ _ _ _ _ _ (by simp) rfl)).keep (keepD _) (keepD _), ?_⟩
  repeat (first | exact Below.refl _ _ | refine Below.drew ?_ | refine Below.alloc ?_ (by first | omega | (simp; omega) | simp) _)

/-- A box of four cells. -/
theorem box4 {w : World} {b : Nat} {a0 a1 a2 a3 : Value} {t : TypeId} (h : w.heap[b]? = some (.cells #[a0, a1, a2, a3] t (0, 0))) :
    (w.cell? ⟨b, 0, none⟩ = some a0 ∧ w.cell? ⟨b, 1, none⟩ = some a1 ∧ w.cell? ⟨b, 2, none⟩ = some a2 ∧ w.cell? ⟨b, 3, none⟩ = some a3) ∧
    (w.frozen? ⟨b, 0, none⟩ = false ∧ w.frozen? ⟨b, 1, none⟩ = false ∧ w.frozen? ⟨b, 2, none⟩ = false ∧ w.frozen? ⟨b, 3, none⟩ = false) := by
  refine ⟨⟨?_, ?_, ?_, ?_⟩, ?_, ?_, ?_, ?_⟩
  all_goals first | (rw [cell_of_row _ _ _ _ _ _ h]; rfl) | (unfold World.frozen?; rw [h]; rfl)
theorem box5 {w : World} {b : Nat} {a0 a1 a2 a3 a4 : Value} {t : TypeId} (h : w.heap[b]? = some (.cells #[a0, a1, a2, a3, a4] t (0, 0))) :
    (w.cell? ⟨b, 0, none⟩ = some a0 ∧ w.cell? ⟨b, 1, none⟩ = some a1 ∧ w.cell? ⟨b, 2, none⟩ = some a2 ∧ w.cell? ⟨b, 3, none⟩ = some a3 ∧ w.cell? ⟨b, 4, none⟩ = some a4) ∧
    (w.frozen? ⟨b, 0, none⟩ = false ∧ w.frozen? ⟨b, 1, none⟩ = false ∧ w.frozen? ⟨b, 2, none⟩ = false ∧ w.frozen? ⟨b, 3, none⟩ = false ∧ w.frozen? ⟨b, 4, none⟩ = false) := by
  refine ⟨⟨?_, ?_, ?_, ?_, ?_⟩, ?_, ?_, ?_, ?_, ?_⟩
  all_goals first | (rw [cell_of_row _ _ _ _ _ _ h]; rfl) | (unfold World.frozen?; rw [h]; rfl)
theorem box2 {w : World} {b : Nat} {a0 a1 : Value} {t : TypeId} (h : w.heap[b]? = some (.cells #[a0, a1] t (0, 0))) :
    w.cell? ⟨b, 0, none⟩ = some a0 ∧ w.cell? ⟨b, 1, none⟩ = some a1 := by
  refine ⟨?_, ?_⟩
  all_goals (rw [cell_of_row _ _ _ _ _ _ h]; rfl)
theorem heap_keep {w w' : World} {b : Nat} {o : Obj} (h : w.heap[b]? = some o) (hb : Below w.heap.size w w') : w'.heap[b]? = some o := by rw [hb.block b (lt_of_heap h)]; exact h

set_option maxRecDepth 100000 in
set_option maxHeartbeats 400000 in
theorem newLeaf_any (P D : Int) (s : ByteArray) (w : World) (hs : s.size ≤ 1000000) :
    Calls Try.prog 89 #[.agg #[.int .i64 P, .int .i64 D], .string s] w fun e w' => e = .returned (.agg #[.int .i64 P, .int .i64 D, .int .i64 (sm (0 :: s.data.toList)), .string s]) ∧ Below w.heap.size w w' := by
  have e0 : s.data.toList.length = s.size := by rw [Array.length_toList]; rfl
  have HS : Hid (sm (0 :: s.data.toList) = sm [[b8 0], s.data.toList].flatten) := by
    show sm (0 :: s.data.toList) = _
    simp [b8]
  go_enter Try.func89, Try.ntmps89
  go_wp2_with fail
  have g0 := heap_old (w.alloc (.cells #[.int .i64 P, .int .i64 D] 118)) (.cells #[.int .i64 0, .int .i64 0, .int .i64 0, .string ⟨#[]⟩] 136) w.heap.size _ (heap_new w _ _ rfl)
  have g1 := heap_new (w.alloc (.cells #[.int .i64 P, .int .i64 D] 118)) (.cells #[.int .i64 0, .int .i64 0, .int .i64 0, .string ⟨#[]⟩] 136) (w.heap.size + 1) (by simp)
  have hW : Below w.heap.size w ((w.alloc (.cells #[.int .i64 P, .int .i64 D] 118)).alloc (.cells #[.int .i64 0, .int .i64 0, .int .i64 0, .string ⟨#[]⟩] 136)) := ((Below.refl _ _).alloc (Nat.le_refl _) _).alloc (by simp) _
  generalize (w.alloc (.cells #[.int .i64 P, .int .i64 D] 118)).alloc (.cells #[.int .i64 0, .int .i64 0, .int .i64 0, .string ⟨#[]⟩] 136) = W at g0 g1 hW ⊢
  refine (leafParts_any s _).mono ?_
  rintro e w1 ⟨v1, rfl, hR, hb1⟩
  have k0 := heap_keep g0 hb1
  have k1 := heap_keep g1 hb1
  have hw1 := hW.trans (hb1.mono hW.size)
  clear g0 g1 hW hb1
  go_wp2_with fail
  refine (sumOf_any [[b8 0], s.data.toList] _ _ hR (by simp) (by intro l hl; simp at hl; rcases hl with rfl | rfl <;> simp; omega)).mono ?_
  rintro e w2 ⟨rfl, rfl⟩
  rw [← HS.out]
  clear hR
  obtain ⟨c0, c1⟩ := box2 k0
  obtain ⟨⟨r0, r1, r2, r3⟩, z0, z1, z2, z3⟩ := box4 k1
  go_wp2
  refine bodyPost_ret (v := .agg #[.int .i64 P, .int .i64 D, .int .i64 (sm (0 :: s.data.toList)), .string s]) (by simp [results, Try.results89, go_sem, r0, r1, r2, r3]) rfl ⟨rfl, ?_⟩
  have hs2 := hw1.size
  repeat (first | exact hw1 | refine Below.setCell ?_ (by simp) _)

set_option maxRecDepth 100000 in
set_option maxHeartbeats 400000 in
theorem aloneParts_any (V : Value) (g : Int) (w : World) (hV : Digs V g) (hg : 0 ≤ g ∧ g ≤ 65535) :
    Calls Try.prog 103 #[V] w fun e w' => ∃ v', e = .returned v' ∧ RowsAt w' v' [[b8 2], two8 g] ∧ Below w.heap.size w w' := by
  obtain ⟨t, a, F, rfl, hm, hE, hA, hC⟩ := hV
  obtain ⟨hg0, hg1⟩ := hg
  go_enter Try.func103, Try.ntmps103
  go_wp2_with fail
  have hB := byte_at 2 w _ (by decide) (by decide) rfl
  have hW : Below w.heap.size w (w.alloc (.cells #[.int .u8 2] 5)) := (Below.refl _ _).alloc (Nat.le_refl _) _
  refine (hC.out _).mono ?_
  rintro e w1 ⟨rfl, hb1⟩
  have hB1 := hB.keep (KeepsT.of_below hb1 (Nat.le_refl _))
  have hw1 := hW.trans (hb1.mono hW.size)
  clear hB hW hb1 hC hm hE hA
  go_wp2_with (go_at_call 87; refine (wireTwo_any _ _ hg0 hg1).mono ?_; rintro e w' ⟨rfl, rfl⟩)
  go_ret
  refine ⟨_, rfl, rows2 _ _ _ _ _ _ (by simp) (hB1.keep (keepA _ _)) (two8_at _ _ _ hg0 hg1 (by simp)), ?_⟩
  have hs1 := hw1.size
  exact (hw1.alloc hs1 _).alloc (by simp; omega) _

set_option maxRecDepth 100000 in
set_option maxHeartbeats 400000 in
theorem twoParts_any (V U : Value) (g h : Int) (w : World) (hV : Digs V g) (hU : Digs U h) (hg : 0 ≤ g ∧ g ≤ 65535) (hh : 0 ≤ h ∧ h ≤ 65535) :
    Calls Try.prog 104 #[V, U] w fun e w' => ∃ v', e = .returned v' ∧ RowsAt w' v' [[b8 1], two8 g, two8 h] ∧ Below w.heap.size w w' := by
  obtain ⟨t, a, F, rfl, hm, hE, hA, hC⟩ := hV
  obtain ⟨t', a', F', rfl, hm', hE', hA', hC'⟩ := hU
  obtain ⟨hg0, hg1⟩ := hg
  obtain ⟨hh0, hh1⟩ := hh
  go_enter Try.func104, Try.ntmps104
  go_wp2_with fail
  have hB := byte_at 1 w _ (by decide) (by decide) rfl
  have hW : Below w.heap.size w (w.alloc (.cells #[.int .u8 1] 5)) := (Below.refl _ _).alloc (Nat.le_refl _) _
  refine (hC.out _).mono ?_
  rintro e w1 ⟨rfl, hb1⟩
  have hB1 := hB.keep (KeepsT.of_below hb1 (Nat.le_refl _))
  have hw1 := hW.trans (hb1.mono hW.size)
  clear hB hW hb1 hC hm hE hA
  go_wp2_with fail
  refine (wireTwo_any _ _ hg0 hg1).mono ?_
  rintro e w2 ⟨rfl, he2⟩
  have hT2 : BytesAt w2 (.slice (some ⟨w1.heap.size, 0, none⟩) 2 2) (two8 g) := by rw [he2]; exact two8_at _ _ _ hg0 hg1 rfl
  have hB2 : BytesAt w2 (.slice (some ⟨w.heap.size, 0, none⟩) 1 1) [b8 1] := by rw [he2]; exact hB1.keep (keepA _ _)
  have hw2 : Below w.heap.size w w2 := by rw [he2]; exact hw1.alloc hw1.size _
  clear he2 hB1 hw1
  go_wp2_with fail
  refine (hC'.out _).mono ?_
  rintro e w3 ⟨rfl, hb3⟩
  have hB3 := hB2.keep (KeepsT.of_below hb3 (Nat.le_refl _))
  have hT3 := hT2.keep (KeepsT.of_below hb3 (Nat.le_refl _))
  have hw3 := hw2.trans (hb3.mono hw2.size)
  clear hB2 hT2 hw2 hb3 hC' hm' hE' hA'
  go_wp2_with (go_at_call 87; refine (wireTwo_any _ _ hh0 hh1).mono ?_; rintro e w' ⟨rfl, rfl⟩)
  go_ret
  refine ⟨_, rfl, rows3 _ _ _ _ _ _ _ _ (by simp) (hB3.keep (keepA _ _)) (hT3.keep (keepA _ _)) (two8_at _ _ _ hh0 hh1 (by simp)), ?_⟩
  have hs1 := hw3.size
  exact (hw3.alloc hs1 _).alloc (by simp; omega) _

set_option maxRecDepth 100000 in
set_option maxHeartbeats 400000 in
theorem newAlone_dig (P D g : Int) (V : Value) (w : World) (hV : Digs V g) (hg : 0 ≤ g ∧ g ≤ 65535) :
    Calls Try.prog 92 #[.agg #[.int .i64 P, .int .i64 D], V] w fun e w' => e = .returned (.agg #[.int .i64 P, .int .i64 D, .int .i64 (sm (2 :: two8 g)), V]) ∧ Below w.heap.size w w' := by
  have HS : Hid (sm (2 :: two8 g) = sm [[b8 2], two8 g].flatten) := by
    show sm (2 :: two8 g) = _
    simp [b8]
  obtain ⟨ti, ai, -, rfl, -⟩ := id hV
  go_enter Try.func92, Try.ntmps92
  go_wp2_with fail
  have g0 := heap_old (w.alloc (.cells #[.int .i64 P, .int .i64 D] 118)) (.cells #[.int .i64 0, .int .i64 0, .int .i64 0, .nilIface] 140) w.heap.size _ (heap_new w _ _ rfl)
  have g1 := heap_new (w.alloc (.cells #[.int .i64 P, .int .i64 D] 118)) (.cells #[.int .i64 0, .int .i64 0, .int .i64 0, .nilIface] 140) (w.heap.size + 1) (by simp)
  have hW : Below w.heap.size w ((w.alloc (.cells #[.int .i64 P, .int .i64 D] 118)).alloc (.cells #[.int .i64 0, .int .i64 0, .int .i64 0, .nilIface] 140)) := ((Below.refl _ _).alloc (Nat.le_refl _) _).alloc (by simp) _
  generalize (w.alloc (.cells #[.int .i64 P, .int .i64 D] 118)).alloc (.cells #[.int .i64 0, .int .i64 0, .int .i64 0, .nilIface] 140) = W at g0 g1 hW ⊢
  refine (aloneParts_any _ g _ hV hg).mono ?_
  rintro e w1 ⟨v1, rfl, hR, hb1⟩
  have k0 := heap_keep g0 hb1
  have k1 := heap_keep g1 hb1
  have hw1 := hW.trans (hb1.mono hW.size)
  clear g0 g1 hW hb1
  go_wp2_with fail
  refine (sumOf_any [[b8 2], two8 g] _ _ hR (by simp) (by intro l hl; simp at hl; rcases hl with rfl | rfl <;> simp [two8])).mono ?_
  rintro e w2 ⟨rfl, rfl⟩
  rw [← HS.out]
  clear hR
  obtain ⟨c0, c1⟩ := box2 k0
  obtain ⟨⟨r0, r1, r2, r3⟩, z0, z1, z2, z3⟩ := box4 k1
  go_wp2
  refine bodyPost_ret (v := .agg #[.int .i64 P, .int .i64 D, .int .i64 (sm (2 :: two8 g)), .iface ti ai]) (by simp [results, Try.results92, go_sem, r0, r1, r2, r3]) rfl ⟨rfl, ?_⟩
  have hs2 := hw1.size
  repeat (first | exact hw1 | refine Below.setCell ?_ (by simp) _)
theorem newAlone_any (P D g : Int) (V : Value) (w : World) (hV : NodeV g V) (hg : 0 ≤ g ∧ g ≤ 65535) :
    Calls Try.prog 92 #[.agg #[.int .i64 P, .int .i64 D], V] w fun e w' => e = .returned (.agg #[.int .i64 P, .int .i64 D, .int .i64 (sm (2 :: two8 g)), V]) ∧ Below w.heap.size w w' := newAlone_dig P D g V w hV.digs hg
end Go.Proofs.Ytlndinigbppafaa
