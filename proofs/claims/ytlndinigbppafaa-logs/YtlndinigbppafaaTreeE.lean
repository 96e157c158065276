/-
  The walk of the program's tree: build and Build: the tree of a version.
-/
import Derived.Test.YtlndinigbppafaaTreeD
import Derived.Lib.AppendZeros
namespace Go.Proofs.Ytlndinigbppafaa
open Go.RowKit

/-- Event p. -/
def evAt (evs : List ByteArray) (p : Nat) : ByteArray := evs[p]?.getD ByteArray.empty
/-- The digest of the node at p of depth d in the version of all these events. -/
def dig (evs : List ByteArray) : Nat → Nat → Int
  | 0, p => sm (0 :: (evAt evs p).data.toList)
  | d + 1, p => if p + pw d < evs.length then sm (1 :: (two8 (dig evs d p) ++ two8 (dig evs d (p + pw d)))) else sm (2 :: two8 (dig evs d p))
theorem dig_bd (evs : List ByteArray) (d p : Nat) : 0 ≤ dig evs d p ∧ dig evs d p ≤ 65535 := by
  have h : ∀ l, 0 ≤ sm l ∧ sm l ≤ 65535 := fun l => by have := sm_bd l; omega
  cases d with
  | zero => exact h _
  | succ d => unfold dig; split <;> exact h _
/-- The node's value. -/
def treeV (evs : List ByteArray) : Nat → Nat → Value
  | 0, p => .iface 136 (.agg #[.int .i64 p, .int .i64 0, .int .i64 (dig evs 0 p), .string (evAt evs p)])
  | d + 1, p => if p + pw d < evs.length then .iface 143 (.agg #[.int .i64 p, .int .i64 ((d : Int) + 1), .int .i64 (dig evs (d + 1) p), treeV evs d p, treeV evs d (p + pw d)])
    else .iface 140 (.agg #[.int .i64 p, .int .i64 ((d : Int) + 1), .int .i64 (dig evs (d + 1) p), treeV evs d p])
theorem treeV_node (evs : List ByteArray) (d p : Nat) : NodeV (dig evs d p) (treeV evs d p) := by
  cases d with
  | zero => exact .leaf _ _ _
  | succ d =>
    unfold treeV
    split
    · exact .two _ _ _ _
    · exact .alone _ _ _

theorem treeV_two (evs : List ByteArray) (d p : Nat) (h : p + pw d < evs.length) : treeV evs (d + 1) p = .iface 143 (.agg #[.int .i64 p, .int .i64 ((d : Int) + 1), .int .i64 (sm (1 :: (two8 (dig evs d p) ++ two8 (dig evs d (p + pw d))))), treeV evs d p, treeV evs d (p + pw d)]) := by
  rw [treeV, if_pos h, dig, if_pos h]
theorem treeV_alone (evs : List ByteArray) (d p : Nat) (h : ¬ p + pw d < evs.length) : treeV evs (d + 1) p = .iface 140 (.agg #[.int .i64 p, .int .i64 ((d : Int) + 1), .int .i64 (sm (2 :: two8 (dig evs d p))), treeV evs d p]) := by
  rw [treeV, if_neg h, dig, if_neg h]

theorem StringsAt.below {w w' : World} {v : Value} {ps : List ByteArray} (h : StringsAt w v ps) (hb : Below w.heap.size w w') : StringsAt w' v ps := by
  obtain ⟨ao, cap, rfl, h⟩ := h
  refine ⟨ao, cap, rfl, fun hl => ?_⟩
  obtain ⟨b, o, rfl, hlt, hc⟩ := h hl
  exact ⟨b, o, rfl, Nat.lt_of_lt_of_le hlt hb.size, fun j hj => (hb.cell (p := ⟨b, o + j, none⟩) hlt).trans (hc j hj)⟩
theorem StringsAt.drew {w : World} {v : Value} {ps : List ByteArray} (h : StringsAt w v ps) : StringsAt w.drew v ps := h.below ((Below.refl _ _).drew)

theorem keepB {u u' : World} {a b : Addr} {x y v : Value} {evs : List ByteArray} (h : u.cell? a = some x ∧ u.cell? b = some y ∧ StringsAt u v evs) (hb : Below u.heap.size u u') : u'.cell? a = some x ∧ u'.cell? b = some y ∧ StringsAt u' v evs :=
  ⟨cell_keep h.1 hb, cell_keep h.2.1 hb, h.2.2.below hb⟩
theorem cells3 {u u' : World} {a b c : Addr} {x y z : Value} (h : u.cell? a = some x ∧ u.cell? b = some y ∧ u.cell? c = some z) (hb : Below u.heap.size u u') : u'.cell? a = some x ∧ u'.cell? b = some y ∧ u'.cell? c = some z :=
  ⟨cell_keep h.1 hb, cell_keep h.2.1 hb, cell_keep h.2.2 hb⟩

set_option maxRecDepth 100000 in
set_option maxHeartbeats 1000000 in
theorem build_leaf (evs : List ByteArray) (v : Value) (p : Nat) (P : Int) (w : World) (eP : P = p) (hp : p < evs.length) (hn : evs.length ≤ 1000000) (hv : StringsAt w v evs) (hs : ∀ s ∈ evs, s.size ≤ 1000000) :
    Calls Try.prog 76 #[.agg #[.int .i64 P, .int .i64 0], v] w fun e w' => e = .returned (treeV evs 0 p) ∧ Below w.heap.size w w' := by
  subst eP
  obtain ⟨ao, cap, rfl, h⟩ := hv
  obtain ⟨b, o, rfl, hlt, hc⟩ := h (by omega)
  have hcp := hc p hp
  have hsp := hs _ (List.getElem_mem hp)
  have HE : Hid (evAt evs p = evs[p]) := by show evAt evs p = evs[p]; unfold evAt; rw [List.getElem?_eq_getElem hp]; rfl
  generalize evs[p] = s at *
  clear h hc
  go_enter Try.func76, Try.ntmps76
  go_wp2
  have f0 : (w.alloc (.cells #[.int .i64 p, .int .i64 0] 118)).cell? ⟨w.heap.size, 0, none⟩ = some (.int .i64 p) := by simp
  have f1 : (w.alloc (.cells #[.int .i64 p, .int .i64 0] 118)).cell? ⟨w.heap.size, 1, none⟩ = some (.int .i64 0) := by simp
  have fE : (w.alloc (.cells #[.int .i64 p, .int .i64 0] 118)).cell? ⟨b, o + p, none⟩ = some (.string s) := cell_keep hcp ((Below.refl _ _).alloc (Nat.le_refl _) _)
  have hW : Below w.heap.size w (w.alloc (.cells #[.int .i64 p, .int .i64 0] 118)) := (Below.refl _ _).alloc (Nat.le_refl _) _
  have hpl : (p : Int) < (evs.length : Int) := by omega
  generalize w.alloc (.cells #[.int .i64 p, .int .i64 0] 118) = W at f0 f1 fE hW ⊢
  go_region_held3 (fun w' => w'.cell? ⟨w.heap.size, 0, none⟩ = some (.int .i64 p) ∧ w'.cell? ⟨w.heap.size, 1, none⟩ = some (.int .i64 0) ∧ w'.cell? ⟨b, o + p, none⟩ = some (.string s)) (first | assumption | exact ⟨f0, f1, fE⟩)
    (first | (go_at_call 89; refine (newLeaf_any _ _ _ _ hsp).mono ?_; rintro e w1 ⟨rfl, hb1⟩; have hk := cells3 (by assumption) hb1))
  go_wp2
  go_ret
  exact ⟨by unfold treeV dig; rw [HE.out]; rfl, hW.drew.trans (hb1.mono hW.size)⟩

set_option maxRecDepth 100000 in
set_option maxHeartbeats 1000000 in
theorem build_step (evs : List ByteArray) (d p : Nat) (P D : Int) (v : Value) (w : World) (eP : P = p) (eD : D = (d : Int) + 1) (hd : d + 1 ≤ 16) (hp : p < evs.length) (hn : evs.length ≤ 900000) (hv : StringsAt w v evs)
    (ih : Hid (∀ (p : Nat) (P D : Int) (v : Value) (w : World), P = p → D = d → p < evs.length → StringsAt w v evs → Calls Try.prog 76 #[.agg #[.int .i64 P, .int .i64 D], v] w fun e w' => e = .returned (treeV evs d p) ∧ Below w.heap.size w w')) :
    Calls Try.prog 76 #[.agg #[.int .i64 P, .int .i64 D], v] w fun e w' => e = .returned (treeV evs (d + 1) p) ∧ Below w.heap.size w w' := by
  have h16 : pw d ≤ 65536 := pw_le (e := 16) (by omega)
  have hdz : (((d : Int) + 1) == 0) = false := beq_eq_false_iff_ne.2 (by omega)
  subst eP eD
  have hv1 := hv
  obtain ⟨ao, cap, rfl, _⟩ := hv1
  go_enter Try.func76, Try.ntmps76
  go_wp2_with fail
  have f0 : (w.alloc (.cells #[.int .i64 p, .int .i64 ((d : Int) + 1)] 118)).cell? ⟨w.heap.size, 0, none⟩ = some (.int .i64 p) := by simp
  have f1 : (w.alloc (.cells #[.int .i64 p, .int .i64 ((d : Int) + 1)] 118)).cell? ⟨w.heap.size, 1, none⟩ = some (.int .i64 ((d : Int) + 1)) := by simp
  have hW : Below w.heap.size w (w.alloc (.cells #[.int .i64 p, .int .i64 ((d : Int) + 1)] 118)) := (Below.refl _ _).alloc (Nat.le_refl _) _
  generalize w.alloc (.cells #[.int .i64 p, .int .i64 ((d : Int) + 1)] 118) = W at f0 f1 hW ⊢
  have hvW := hv.below hW
  have hWs := hW.size
  clear hv
  -- the left half
  refine (strLeft_any p d _ _ rfl rfl _ hd).mono ?_
  rintro e w1 ⟨rfl, hb1⟩
  have hv1 := hvW.below hb1
  have g0 := cell_keep f0 hb1
  have g1 := cell_keep f1 hb1
  have hW1 := hW.trans (hb1.mono hWs)
  clear f0 f1 hvW hb1 hW hWs
  go_wp2_with fail
  -- the tree of the left half
  refine (ih.out p _ _ _ _ rfl rfl hp hv1).mono ?_
  rintro e w2 ⟨rfl, hb2⟩
  have hv2 := hv1.below hb2
  have k0 := cell_keep g0 hb2
  have k1 := cell_keep g1 hb2
  have hW2 := hW1.trans (hb2.mono hW1.size)
  clear g0 g1 hv1 hb2 hW1
  go_wp2_with fail
  -- is there a right half?
  refine (strSingle_any p d _ _ _ rfl rfl _ (by omega) hd).mono ?_
  rintro e w4 ⟨rfl, hb4⟩
  have hv4 := hv2.below hb4
  have n0 := cell_keep k0 hb4
  have n1 := cell_keep k1 hb4
  have hW4 := hW2.trans (hb4.mono hW2.size)
  clear k0 k1 hv2 hb4 hW2
  by_cases hR : p + pw d < evs.length
  · have hRb : decide ((evs.length : Int) ≤ ((p + pw d : Nat) : Int)) = false := decide_eq_false (by omega)
    have HT : Hid _ := treeV_two evs d p hR
    rw [hRb]
    clear hRb
    go_wp2
    have hvd := hv4.drew
    have hpR : ((p + pw d : Nat) : Int) = (p : Int) + (pw d : Int) := by omega
    have HPR := Hid.out (show Hid _ from hpR)
    clear hpR
    go_region_held3 (fun w' => w'.cell? ⟨w.heap.size, 0, none⟩ = some (.int .i64 p) ∧ w'.cell? ⟨w.heap.size, 1, none⟩ = some (.int .i64 ((d : Int) + 1)) ∧ StringsAt w' (.slice ao evs.length cap) evs) (first | assumption | exact ⟨n0, n1, hvd⟩)
      (first
        | (go_at_call 94; refine (strRight_any p d _ _ rfl rfl _ (by omega) hd).mono ?_; rintro e w5 ⟨rfl, hb5⟩; have hk5 := keepB (by assumption) hb5)
        | (go_at_call 76; refine (ih.out (p + pw d) _ _ _ _ (by first | rfl | omega) rfl hR (And.right (And.right hk5))).mono ?_; rintro e w6 ⟨rfl, hb6⟩; have hk6 := keepB hk5 hb6)
        | (go_at_call 93; refine (newTwo_any _ _ (dig evs d p) (dig evs d (p + pw d)) _ _ _ (treeV_node evs d p) (treeV_node evs d (p + pw d)) (dig_bd evs d p) (dig_bd evs d (p + pw d))).mono ?_; rintro e w7 ⟨rfl, hb7⟩; have hk7 := keepB hk6 hb7))
    go_wp2
    go_ret
    exact ⟨by rw [HT.out]; rfl, (((hW4.drew.trans (hb5.mono hW4.size)).trans (hb6.mono (Nat.le_trans hW4.size hb5.size))).trans (hb7.mono (Nat.le_trans (Nat.le_trans hW4.size hb5.size) hb6.size)))⟩
  · have hRb : decide ((evs.length : Int) ≤ ((p + pw d : Nat) : Int)) = true := decide_eq_true (by omega)
    have HT : Hid _ := treeV_alone evs d p hR
    rw [hRb]
    clear hRb
    go_wp2_with fail
    refine (newAlone_any _ _ (dig evs d p) _ _ (treeV_node evs d p) (dig_bd evs d p)).mono ?_
    rintro e w5 ⟨rfl, hb5⟩
    go_wp2
    go_ret
    exact ⟨by rw [HT.out]; rfl, hW4.trans (hb5.mono hW4.size)⟩

theorem build_any (evs : List ByteArray) (hn : evs.length ≤ 900000) (hs : ∀ s ∈ evs, s.size ≤ 1000000) (d : Nat) (hd : d ≤ 16) :
    ∀ (p : Nat) (P D : Int) (v : Value) (w : World), P = p → D = d → p < evs.length → StringsAt w v evs → Calls Try.prog 76 #[.agg #[.int .i64 P, .int .i64 D], v] w fun e w' => e = .returned (treeV evs d p) ∧ Below w.heap.size w w' := by
  induction d with
  | zero =>
    intro p P D v w eP eD hp hv
    have : D = 0 := by omega
    subst this
    exact build_leaf evs v p P w eP hp (by omega) hv hs
  | succ d ih =>
    intro p P D v w eP eD hp hv
    exact build_step evs d p P D v w eP (by omega) hd hp hn hv (ih (by omega))

set_option maxRecDepth 100000 in
set_option maxHeartbeats 1000000 in
theorem Build_any (evs : List ByteArray) (v : Value) (w : World) (h1 : 1 ≤ evs.length) (hn : evs.length ≤ 65536) (hs : ∀ s ∈ evs, s.size ≤ 1000000) (hv : StringsAt w v evs) :
    Calls Try.prog 62 #[v] w fun e w' => e = .returned (treeV evs (dep evs.length) 0) ∧ Below w.heap.size w w' := by
  have hd := dep_le evs.length 16 hn
  have hv1 := hv
  obtain ⟨ao, cap, rfl, _⟩ := hv1
  go_enter Try.func62, Try.ntmps62
  go_wp2_with fail
  refine (whole_any evs.length _ h1 hn).mono ?_
  rintro e w1 ⟨rfl, hb1⟩
  have hvb := hv.below hb1
  clear hv
  go_wp2_with fail
  refine (build_any evs (by omega) hs (dep evs.length) hd 0 _ _ _ _ rfl rfl (by omega) hvb).mono ?_
  rintro e w2 ⟨rfl, hb2⟩
  go_wp2
  go_ret
  exact ⟨rfl, hb1.trans (hb2.mono hb1.size)⟩
end Go.Proofs.Ytlndinigbppafaa

/-
  The walks of the rules of proofs, and of slices.Grow and slices.Concat at nodes.
-/
namespace Go.Proofs.Ytlndinigbppafaa
open Go.RowKit

/-- A member proof's rule. -/
def ruleM (i : Int) (p d : Nat) : Bool := !decide ((p : Int) ≤ i) || !decide (i < (p : Int) + (pw d : Int))
/-- A growth proof's rule. -/
def ruleG (m : Int) (p d : Nat) : Bool := decide (((p + pw d : Nat) : Int) ≤ m) || decide (m ≤ (p : Int))
/-- The function value R is the rule f. -/
def RuleAt (w : World) (R : Value) (f : Nat → Nat → Bool) : Prop :=
  ∃ (b : Nat) (i : Int), w.cell? ⟨b, 0, none⟩ = some (.int .i64 i) ∧
    ((R = .func (.func 78) #[] #[.pointer (some ⟨b, 0, none⟩)] ∧ f = ruleM i) ∨ (R = .func (.func 73) #[] #[.pointer (some ⟨b, 0, none⟩)] ∧ f = ruleG i))
theorem RuleAt.below {w w' : World} {R : Value} {f : Nat → Nat → Bool} (h : RuleAt w R f) (hb : Below w.heap.size w w') : RuleAt w' R f := by
  obtain ⟨b, i, hc, h⟩ := h
  exact ⟨b, i, cell_keep hc hb, h⟩

set_option maxRecDepth 100000 in
set_option maxHeartbeats 400000 in
theorem memberRule_any (i : Int) (w : World) :
    Calls Try.prog 63 #[.int .i64 i] w fun e w' => ∃ R, e = .returned R ∧ RuleAt w' R (ruleM i) ∧ Below w.heap.size w w' := by
  go_enter Try.func63, Try.ntmps63
  go_wp2
  go_ret
  exact ⟨_, rfl, ⟨w.heap.size, i, by simp, .inl ⟨rfl, rfl⟩⟩, (Below.refl _ _).alloc (Nat.le_refl _) _⟩
set_option maxRecDepth 100000 in
set_option maxHeartbeats 400000 in
theorem growthRule_any (i : Int) (w : World) :
    Calls Try.prog 61 #[.int .i64 i] w fun e w' => ∃ R, e = .returned R ∧ RuleAt w' R (ruleG i) ∧ Below w.heap.size w w' := by
  go_enter Try.func61, Try.ntmps61
  go_wp2
  go_ret
  exact ⟨_, rfl, ⟨w.heap.size, i, by simp, .inr ⟨rfl, rfl⟩⟩, (Below.refl _ _).alloc (Nat.le_refl _) _⟩

set_option maxRecDepth 100000 in
set_option maxHeartbeats 400000 in
theorem memberLit_any (p d : Nat) (P D i : Int) (b : Nat) (w : World) (eP : P = p) (eD : D = d) (hp : p ≤ 1000000) (hd : d ≤ 16) (hc : w.cell? ⟨b, 0, none⟩ = some (.int .i64 i)) :
    Calls Try.prog 78 #[.agg #[.int .i64 P, .int .i64 D], .pointer (some ⟨b, 0, none⟩)] w fun e w' => e = .returned (.bool (ruleM i p d)) ∧ Below w.heap.size w w' := by
  subst eP eD
  have hb0 := World.block_lt_of_cell? w _ hc
  simp at hb0
  go_enter Try.func78, Try.ntmps78
  go_wp2_with fail
  refine (strHolds_any p d _ _ _ rfl rfl _ hp hd).mono ?_
  rintro e w1 ⟨rfl, hb⟩
  go_wp2
  go_ret
  exact ⟨rfl, ((Below.refl _ _).alloc (Nat.le_refl _) _).trans (hb.mono (by simp))⟩

set_option maxRecDepth 100000 in
set_option maxHeartbeats 400000 in
theorem growthLit_any (p d : Nat) (P D m : Int) (b : Nat) (w : World) (eP : P = p) (eD : D = d) (hp : p ≤ 1000000) (hd : d ≤ 16) (hc : w.cell? ⟨b, 0, none⟩ = some (.int .i64 m)) :
    Calls Try.prog 73 #[.agg #[.int .i64 P, .int .i64 D], .pointer (some ⟨b, 0, none⟩)] w fun e w' => e = .returned (.bool (ruleG m p d)) ∧ Below w.heap.size w w' := by
  subst eP eD
  have hb0 := World.block_lt_of_cell? w _ hc
  simp at hb0
  by_cases hm : ((p + pw d : Nat) : Int) ≤ m
  · have HR : Hid (ruleG m p d = true) := by show ruleG m p d = true; unfold ruleG; rw [decide_eq_true hm]; rfl
    have hmb : decide (((p + pw d : Nat) : Int) ≤ m) = true := decide_eq_true hm
    go_enter Try.func73, Try.ntmps73
    go_wp2_with (first
      | (go_at_call 74; refine (strBelow_any p d _ _ _ rfl rfl _ hp hd).mono ?_; rintro e w1 ⟨rfl, hb⟩; rw [hmb]))
    go_ret
    exact ⟨by rw [HR.out]; rfl, ((Below.refl _ _).alloc (Nat.le_refl _) _).trans (hb.mono (by simp))⟩
  · have HR : Hid (ruleG m p d = decide (m ≤ (p : Int))) := by show ruleG m p d = _; unfold ruleG; rw [decide_eq_false hm]; rfl
    have hmb : decide (((p + pw d : Nat) : Int) ≤ m) = false := decide_eq_false hm
    go_enter Try.func73, Try.ntmps73
    go_wp2_with (first
      | (go_at_call 74; refine (strBelow_any p d _ _ _ rfl rfl _ hp hd).mono ?_; rintro e w1 ⟨rfl, hb⟩; rw [hmb]; have q0 := cell_keep (a := ⟨b, 0, none⟩) (show (w.alloc (.cells #[.int .i64 p, .int .i64 d] 118)).cell? ⟨b, 0, none⟩ = some (.int .i64 m) from cell_keep hc ((Below.refl _ _).alloc (Nat.le_refl _) _)) hb; have q1 := cell_keep (a := ⟨w.heap.size, 0, none⟩) (show (w.alloc (.cells #[.int .i64 p, .int .i64 d] 118)).cell? ⟨w.heap.size, 0, none⟩ = some (.int .i64 p) by simp) hb; have q2 := cell_keep (a := ⟨w.heap.size, 1, none⟩) (show (w.alloc (.cells #[.int .i64 p, .int .i64 d] 118)).cell? ⟨w.heap.size, 1, none⟩ = some (.int .i64 d) by simp) hb)
      | (go_at_call 75; refine (strBeyond_any p _ _ _ rfl _).mono ?_; rintro e w2 ⟨rfl, hb2⟩))
    go_ret
    exact ⟨by rw [HR.out]; rfl, (((Below.refl _ _).alloc (Nat.le_refl _) _).trans (hb.mono (by simp))).trans (hb2.mono (Nat.le_trans (by simp) hb.size))⟩

set_option maxRecDepth 100000 in
set_option maxHeartbeats 400000 in
theorem leftOut_any (p d : Nat) (P D : Int) (R : Value) (f : Nat → Nat → Bool) (w : World) (eP : P = p) (eD : D = d) (hp : p ≤ 1000000) (hd : d ≤ 16) (hR : RuleAt w R f) :
    Calls Try.prog 113 #[.agg #[.int .i64 P, .int .i64 D], R] w fun e w' => e = .returned (.bool (f p d)) ∧ Below w.heap.size w w' := by
  obtain ⟨b, i, hc, ⟨rfl, rfl⟩ | ⟨rfl, rfl⟩⟩ := hR
  · subst eP eD
    go_enter Try.func113, Try.ntmps113
    go_wp2_with fail
    refine (memberLit_any p d _ _ i b _ rfl rfl hp hd (cell_keep hc ((Below.refl _ _).alloc (Nat.le_refl _) _))).mono ?_
    rintro e w1 ⟨rfl, hb⟩
    go_wp2
    go_ret
    exact ⟨rfl, ((Below.refl _ _).alloc (Nat.le_refl _) _).trans (hb.mono (by simp))⟩
  · subst eP eD
    go_enter Try.func113, Try.ntmps113
    go_wp2_with fail
    refine (growthLit_any p d _ _ i b _ rfl rfl hp hd (cell_keep hc ((Below.refl _ _).alloc (Nat.le_refl _) _))).mono ?_
    rintro e w1 ⟨rfl, hb⟩
    go_wp2
    go_ret
    exact ⟨rfl, ((Below.refl _ _).alloc (Nat.le_refl _) _).trans (hb.mono (by simp))⟩

/-- A node alone in a new row. -/
theorem node_at (w : World) (k g : Int) (s : ByteArray) (b : Nat) (hb : b = w.heap.size) : NodesAt (w.alloc (.cells #[.int .i64 k, .int .i64 g, .string s] 100)) (.slice (some ⟨b, 0, none⟩) 1 1) [⟨k, g, s⟩] := by
  refine ⟨_, _, rfl, fun h => (by cases h), fun _ => ⟨_, _, _, _, rfl, heap_new w _ b hb, fun j hj => ?_⟩⟩
  match j, hj with
  | 0, _ => exact ⟨rfl, rfl, rfl⟩

set_option maxRecDepth 100000 in
set_option maxHeartbeats 400000 in
theorem stub_any (g : Int) (w : World) :
    Calls Try.prog 135 #[.int .i64 g] w fun e w' => ∃ v', e = .returned v' ∧ NodesAt w' v' [⟨0, g, ByteArray.empty⟩] ∧ Below w.heap.size w w' := by
  go_enter Try.func135, Try.ntmps135
  go_wp2
  go_ret
  exact ⟨_, rfl, node_at w 0 g _ _ rfl, (Below.refl _ _).alloc (Nat.le_refl _) _⟩

set_option maxRecDepth 100000 in
set_option maxHeartbeats 400000 in
theorem grow_any (n : Nat) (w : World) (h1 : 1 ≤ n) (hn : n ≤ 1000000) :
    Calls Try.prog 141 #[.slice none 0 0, .int .i64 n] w fun e w' => ∃ v', e = .returned v' ∧ w'.ownsRow w.heap.size 100 3 v' 0 [] ∧ Below w.heap.size w w' := by
  obtain ⟨i0, hi, hz0, hz1, hz2⟩ := info_parts Try.infoNode
  have hr := fun ty => Lib.run_append_nil_zeros (P := Try.prog) w 40 3 ty 100 i0 _ .i64 .i64 Try.underlying40 Try.underlying3 hi hz0 n h1 (by rw [hz1]; decide) (by omega) (by rw [hz2]; omega)
  have HC := grownCap_ge w n 0 100
  have hmax := grownCap_le_maxLen w n 0 100 (by unfold maxLen; omega)
  have hn0 : (0 : Int) < (n : Int) := by omega
  generalize grownCap w n 0 100 = C at *
  go_enter Try.func141, Try.ntmps141
  go_wp2_with (at_builtin; refine Lib.wpList_append_run _ rfl (.tmp 20) (.tmp 21) 40 3 rfl _ _ rfl rfl _ _ (hr _) ?_)
  go_ret
  refine ⟨_, rfl, (World.ownsRow_made w _ C (Nat.le_refl _) hmax ?_).drew, ((Below.refl _ _).alloc (Nat.le_refl _) _).drew⟩
  simp [Builtin.zeroCells]
  omega
end Go.Proofs.Ytlndinigbppafaa

/-
  The walk of slices.Concat at nodes.
-/
namespace Go.Proofs.Ytlndinigbppafaa
open Go.RowKit

/-- The slice v holds slices of nodes. -/
def NodeRows (w : World) (v : Value) (nss : List (List PN)) : Prop :=
  ∃ ao cap, v = .slice ao nss.length cap ∧ (0 < nss.length → ∃ b o, ao = some ⟨b, o, none⟩ ∧ b < w.heap.size ∧ ∀ j (h : j < nss.length), ∃ u, w.cell? ⟨b, o + j, none⟩ = some u ∧ NodesAt w u nss[j])

set_option maxRecDepth 100000 in
set_option maxHeartbeats 1000000 in
theorem concat_any (nss : List (List PN)) (v : Value) (w : World) (hv : NodeRows w v nss) (hl : nss.length ≤ 1000) (h1 : 1 ≤ nss.flatten.length) (hn : nss.flatten.length ≤ 1000000) :
    Calls Try.prog 140 #[v] w fun e w' => ∃ v', e = .returned v' ∧ NodesAt w' v' nss.flatten ∧ Below w.heap.size w w' := by
  obtain ⟨ao, cap, rfl, hc⟩ := hv
  obtain ⟨i0, hi, hz0, hz1, hz2⟩ := info_parts Try.infoNode
  have HFT : Hid (∀ k, k ≤ nss.length → (nss.take k).flatten.length ≤ nss.flatten.length) := fun k _ => by
    have e : nss.flatten = (nss.take k).flatten ++ (nss.drop k).flatten := by rw [← List.flatten_append, List.take_append_drop]
    rw [e, List.length_append]; omega
  go_enter Try.func140, Try.ntmps140
  go_wp2
  go_loop [3, 11] (fun s i => ∃ k L : Nat, k ≤ nss.length ∧ i = .int .i64 k ∧ s = .int .i64 L ∧ L = (nss.take k).flatten.length) (fun _ i => nss.length - (intOf i).toNat)
  case atStart => exact ⟨0, 0, Nat.zero_le _, rfl, rfl, rfl⟩
  case round =>
    obtain ⟨k, L, hk, rfl, rfl, hL⟩ := hrel
    have HL : Hid (L = (nss.take k).flatten.length) := hL
    clear hL
    by_cases hlt : k < nss.length
    · obtain ⟨b, o, rfl, hbB, hcell⟩ := hc (by omega)
      obtain ⟨u, hu, hN⟩ := hcell k hlt
      obtain ⟨ao', cap', rfl, hrest⟩ := hN
      clear hrest
      have h2 := HFT.out (k + 1) (by omega)
      have HF : Hid ((nss.take (k + 1)).flatten.length = (nss.take k).flatten.length + nss[k].length) := by show _ = _; rw [flatten_snoc nss k hlt, List.length_append]
      rw [HF.out, ← HL.out] at h2
      clear hcell hc
      generalize nss[k].length = m at *
      go_wp2
      go_round
      case rel => exact ⟨k + 1, L + m, by omega, by go_num, by go_num, by rw [HF.out, ← HL.out]⟩
      case measure => simp [intOf]; omega
    · have hkl : k = nss.length := by omega
      subst hkl
      have hLL : L = nss.flatten.length := by rw [HL.out, List.take_length]
      have HLL : Hid (L = nss.flatten.length) := hLL
      have hL1 : 1 ≤ L := by omega
      have hL2 : L ≤ 1000000 := by omega
      clear hLL HL
      go_wp2_with fail
      refine (grow_any L w hL1 hL2).mono ?_
      rintro e w1 ⟨v1, rfl, hown1, hbel1⟩
      go_wp2
      go_loopw [6, 27] (fun v i wr => ∃ k : Nat, k ≤ nss.length ∧ i = .int .i64 k ∧ wr.ownsRow w.heap.size 100 3 v (nss.take k).flatten.length (cellsN (nss.take k).flatten) ∧ Below w.heap.size w wr) (fun _ i _ => nss.length - (intOf i).toNat)
      case atStart => exact ⟨0, Nat.zero_le _, rfl, hown1, hbel1⟩
      case round =>
        obtain ⟨k, hk, rfl, hown, hbel⟩ := hrel
        have hsz := hbel.size
        by_cases hlt : k < nss.length
        · obtain ⟨b, o, rfl, hbB, hcell⟩ := hc (by omega)
          obtain ⟨u, hu, hN⟩ := hcell k hlt
          have hu' := (hbel.cell (p := ⟨b, o + k, none⟩) hbB).trans hu
          have hN2 := hN.keep (KeepsT.of_below hbel (Nat.le_refl _))
          obtain ⟨ao', cap', rfl, hz, hrest⟩ := id hN2
          clear hrest
          have HF : Hid ((nss.take (k + 1)).flatten = (nss.take k).flatten ++ nss[k]) := flatten_snoc nss k hlt
          have h2 := HFT.out (k + 1) (by omega)
          rw [HF.out, List.length_append] at h2
          have hnil : ao' = none → nss[k] = [] := by
            intro h0
            obtain ⟨_, _, e, _, hh⟩ := hN2
            simp only [Value.slice.injEq] at e
            obtain ⟨rfl, _, _⟩ := e
            rcases Nat.eq_zero_or_pos nss[k].length with h | h
            · exact List.eq_nil_of_length_eq_zero h
            · obtain ⟨_, _, _, _, h3, _⟩ := hh h; rw [h0] at h3; cases h3
          clear hcell hc hu hN
          generalize hLk : nss[k] = l at *
          generalize hM : (nss.take k).flatten = M at *
          clear hLk hM
          cases ao' with
          | none =>
            obtain rfl := hnil rfl
            obtain rfl := hz rfl
            rw [List.append_nil] at HF
            clear hN2 hz hnil
            go_wp2_with (at_builtin; refine wpList_append_own_none rfl (.tmp 31) (.tmp 32) 40 rfl w.heap.size 100 i0 3 Try.underlying40 hi _ _ _ rfl hown rfl ?_)
            go_roundw
            case rel => exact ⟨k + 1, by omega, by go_num, by rw [HF.out]; exact hown, hbel⟩
            case measure => simp [intOf]; omega
          | some ad =>
            have HNW : Hid _ := hN2.news ad rfl
            clear hN2 hz hnil
            go_wp2_with (at_builtin; refine wpList_append_own _ rfl (.tmp 31) (.tmp 32) 40 rfl w.heap.size 100 i0 (.agg #[.int .i64 0, .int .i64 0, .string ByteArray.empty]) 3 32 Try.underlying40 hi hz0 hz1 hz2 rfl (by decide) _ _ _ rfl hown ad l.length cap' (cellsN l) rfl (by rw [cellsN_length]) HNW.out (cellsN_one l) (by unfold maxLen; omega) (by omega) hsz ?_)
            intro v' w2 hown' hgrow _
            have R := hbel.grown hgrow hsz (fun g hg => (hown.lt g hg).1)
            clear hown hbel hgrow hu' HNW
            go_wp2
            go_roundw
            case rel => exact ⟨k + 1, by omega, by go_num, by rw [HF.out, List.length_append, cellsN_append]; exact hown', R⟩
            case measure => simp [intOf]; omega
        · have hkl : k = nss.length := by omega
          subst hkl
          rw [List.take_length] at hown
          go_wp2
          go_ret
          exact ⟨_, rfl, NodesAt.of_owns hown, hbel⟩
end Go.Proofs.Ytlndinigbppafaa
