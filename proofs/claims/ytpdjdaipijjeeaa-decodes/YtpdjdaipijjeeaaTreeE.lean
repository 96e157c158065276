/-
  The walk of the program's tree: build and Build: the tree of a version.
-/
import Derived.Test.YtpdjdaipijjeeaaTreeD
namespace Go.Proofs.Ytpdjdaipijjeeaa
open Go.RowKit

/-- Event p. -/
def evAt (evs : List ByteArray) (p : Nat) : ByteArray := evs[p]?.getD ByteArray.empty
/-- The digest of the node at p of depth d in the version of all these events. -/
def dig (evs : List ByteArray) : Nat → Nat → Int
  | 0, p => sm (0 :: (evAt evs p).data.toList)
  | d + 1, p => if p + pw d < evs.length then sm (1 :: (two8 (dig evs d p) ++ two8 (dig evs d (p + pw d)))) else sm (2 :: two8 (dig evs d p))
theorem dig_bd (evs : List ByteArray) (d p : Nat) : 0 ≤ dig evs d p ∧ dig evs d p ≤ 65535 := by
  have h : ∀ l, 0 ≤ sm l ∧ sm l ≤ 65535 := fun l => by have := sm_bd l; omega
  cases d with
  | zero => exact h _
  | succ d => unfold dig; split <;> exact h _
/-- The node's value. -/
def treeV (evs : List ByteArray) : Nat → Nat → Value
  | 0, p => .iface 136 (.agg #[.int .i64 p, .int .i64 0, .int .i64 (dig evs 0 p), .string (evAt evs p)])
  | d + 1, p => if p + pw d < evs.length then .iface 143 (.agg #[.int .i64 p, .int .i64 ((d : Int) + 1), .int .i64 (dig evs (d + 1) p), treeV evs d p, treeV evs d (p + pw d)])
    else .iface 140 (.agg #[.int .i64 p, .int .i64 ((d : Int) + 1), .int .i64 (dig evs (d + 1) p), treeV evs d p])
theorem treeV_node (evs : List ByteArray) (d p : Nat) : NodeV (dig evs d p) (treeV evs d p) := by
  cases d with
  | zero => exact .leaf _ _ _
  | succ d =>
    unfold treeV
    split
    · exact .two _ _ _ _
    · exact .alone _ _ _

theorem treeV_two (evs : List ByteArray) (d p : Nat) (h : p + pw d < evs.length) : treeV evs (d + 1) p = .iface 143 (.agg #[.int .i64 p, .int .i64 ((d : Int) + 1), .int .i64 (sm (1 :: (two8 (dig evs d p) ++ two8 (dig evs d (p + pw d))))), treeV evs d p, treeV evs d (p + pw d)]) := by
  rw [treeV, if_pos h, dig, if_pos h]
theorem treeV_alone (evs : List ByteArray) (d p : Nat) (h : ¬ p + pw d < evs.length) : treeV evs (d + 1) p = .iface 140 (.agg #[.int .i64 p, .int .i64 ((d : Int) + 1), .int .i64 (sm (2 :: two8 (dig evs d p))), treeV evs d p]) := by
  rw [treeV, if_neg h, dig, if_neg h]

theorem StringsAt.below {w w' : World} {v : Value} {ps : List ByteArray} (h : StringsAt w v ps) (hb : Below w.heap.size w w') : StringsAt w' v ps := by
  obtain ⟨ao, cap, rfl, h⟩ := h
  refine ⟨ao, cap, rfl, fun hl => ?_⟩
  obtain ⟨b, o, rfl, hlt, hc⟩ := h hl
  exact ⟨b, o, rfl, Nat.lt_of_lt_of_le hlt hb.size, fun j hj => (hb.cell (p := ⟨b, o + j, none⟩) hlt).trans (hc j hj)⟩
theorem StringsAt.drew {w : World} {v : Value} {ps : List ByteArray} (h : StringsAt w v ps) : StringsAt w.drew v ps := h.below ((Below.refl _ _).drew)

theorem keepB {u u' : World} {a b : Addr} {x y v : Value} {evs : List ByteArray} (h : u.cell? a = some x ∧ u.cell? b = some y ∧ StringsAt u v evs) (hb : Below u.heap.size u u') : u'.cell? a = some x ∧ u'.cell? b = some y ∧ StringsAt u' v evs :=
  ⟨cell_keep h.1 hb, cell_keep h.2.1 hb, h.2.2.below hb⟩
theorem cells3 {u u' : World} {a b c : Addr} {x y z : Value} (h : u.cell? a = some x ∧ u.cell? b = some y ∧ u.cell? c = some z) (hb : Below u.heap.size u u') : u'.cell? a = some x ∧ u'.cell? b = some y ∧ u'.cell? c = some z :=
  ⟨cell_keep h.1 hb, cell_keep h.2.1 hb, cell_keep h.2.2 hb⟩

set_option maxRecDepth 100000 in
set_option maxHeartbeats 1000000 in
theorem build_leaf (evs : List ByteArray) (v : Value) (p : Nat) (P : Int) (w : World) (eP : P = p) (hp : p < evs.length) (hn : evs.length ≤ 1000000) (hv : StringsAt w v evs) (hs : ∀ s ∈ evs, s.size ≤ 1000000) :
    Calls Try.prog 76 #[.agg #[.int .i64 P, .int .i64 0], v] w fun e w' => e = .returned (treeV evs 0 p) ∧ Below w.heap.size w w' := by
  subst eP
  obtain ⟨ao, cap, rfl, h⟩ := hv
  obtain ⟨b, o, rfl, hlt, hc⟩ := h (by omega)
  have hcp := hc p hp
  have hsp := hs _ (List.getElem_mem hp)
  have HE : Hid (evAt evs p = evs[p]) := by show evAt evs p = evs[p]; unfold evAt; rw [List.getElem?_eq_getElem hp]; rfl
  generalize evs[p] = s at *
  clear h hc
  go_enter Try.func76, Try.ntmps76
  go_wp2
  have f0 : (w.alloc (.cells #[.int .i64 p, .int .i64 0] 118)).cell? ⟨w.heap.size, 0, none⟩ = some (.int .i64 p) := by simp
  have f1 : (w.alloc (.cells #[.int .i64 p, .int .i64 0] 118)).cell? ⟨w.heap.size, 1, none⟩ = some (.int .i64 0) := by simp
  have fE : (w.alloc (.cells #[.int .i64 p, .int .i64 0] 118)).cell? ⟨b, o + p, none⟩ = some (.string s) := cell_keep hcp ((Below.refl _ _).alloc (Nat.le_refl _) _)
  have hW : Below w.heap.size w (w.alloc (.cells #[.int .i64 p, .int .i64 0] 118)) := (Below.refl _ _).alloc (Nat.le_refl _) _
  have hpl : (p : Int) < (evs.length : Int) := by omega
  generalize w.alloc (.cells #[.int .i64 p, .int .i64 0] 118) = W at f0 f1 fE hW ⊢
  go_region_held3 (fun w' => w'.cell? ⟨w.heap.size, 0, none⟩ = some (.int .i64 p) ∧ w'.cell? ⟨w.heap.size, 1, none⟩ = some (.int .i64 0) ∧ w'.cell? ⟨b, o + p, none⟩ = some (.string s)) (first | assumption | exact ⟨f0, f1, fE⟩)
    (first | (go_at_call 89; refine (newLeaf_any _ _ _ _ hsp).mono ?_; rintro e w1 ⟨rfl, hb1⟩; have hk := cells3 (by assumption) hb1))
  go_wp2
  go_ret
  exact ⟨by unfold treeV dig; rw [HE.out]; rfl, hW.drew.trans (hb1.mono hW.size)⟩

set_option maxRecDepth 100000 in
set_option maxHeartbeats 1000000 in
theorem build_step (evs : List ByteArray) (d p : Nat) (P D : Int) (v : Value) (w : World) (eP : P = p) (eD : D = (d : Int) + 1) (hd : d + 1 ≤ 16) (hp : p < evs.length) (hn : evs.length ≤ 900000) (hv : StringsAt w v evs)
    (ih : Hid (∀ (p : Nat) (P D : Int) (v : Value) (w : World), P = p → D = d → p < evs.length → StringsAt w v evs → Calls Try.prog 76 #[.agg #[.int .i64 P, .int .i64 D], v] w fun e w' => e = .returned (treeV evs d p) ∧ Below w.heap.size w w')) :
    Calls Try.prog 76 #[.agg #[.int .i64 P, .int .i64 D], v] w fun e w' => e = .returned (treeV evs (d + 1) p) ∧ Below w.heap.size w w' := by
  have h16 : pw d ≤ 65536 := pw_le (e := 16) (by omega)
  have hdz : (((d : Int) + 1) == 0) = false := beq_eq_false_iff_ne.2 (by omega)
  subst eP eD
  have hv1 := hv
  obtain ⟨ao, cap, rfl, _⟩ := hv1
  go_enter Try.func76, Try.ntmps76
  go_wp2_with fail
  have f0 : (w.alloc (.cells #[.int .i64 p, .int .i64 ((d : Int) + 1)] 118)).cell? ⟨w.heap.size, 0, none⟩ = some (.int .i64 p) := by simp
  have f1 : (w.alloc (.cells #[.int .i64 p, .int .i64 ((d : Int) + 1)] 118)).cell? ⟨w.heap.size, 1, none⟩ = some (.int .i64 ((d : Int) + 1)) := by simp
  have hW : Below w.heap.size w (w.alloc (.cells #[.int .i64 p, .int .i64 ((d : Int) + 1)] 118)) := (Below.refl _ _).alloc (Nat.le_refl _) _
  generalize w.alloc (.cells #[.int .i64 p, .int .i64 ((d : Int) + 1)] 118) = W at f0 f1 hW ⊢
  have hvW := hv.below hW
  have hWs := hW.size
  clear hv
  -- the left half
  refine (strLeft_any p d _ _ rfl rfl _ hd).mono ?_
  rintro e w1 ⟨rfl, hb1⟩
  have hv1 := hvW.below hb1
  have g0 := cell_keep f0 hb1
  have g1 := cell_keep f1 hb1
  have hW1 := hW.trans (hb1.mono hWs)
  clear f0 f1 hvW hb1 hW hWs
  go_wp2_with fail
  -- the tree of the left half
  refine (ih.out p _ _ _ _ rfl rfl hp hv1).mono ?_
  rintro e w2 ⟨rfl, hb2⟩
  have hv2 := hv1.below hb2
  have k0 := cell_keep g0 hb2
  have k1 := cell_keep g1 hb2
  have hW2 := hW1.trans (hb2.mono hW1.size)
  clear g0 g1 hv1 hb2 hW1
  go_wp2_with fail
  -- is there a right half?
  refine (strSingle_any p d _ _ _ rfl rfl _ (by omega) hd).mono ?_
  rintro e w4 ⟨rfl, hb4⟩
  have hv4 := hv2.below hb4
  have n0 := cell_keep k0 hb4
  have n1 := cell_keep k1 hb4
  have hW4 := hW2.trans (hb4.mono hW2.size)
  clear k0 k1 hv2 hb4 hW2
  by_cases hR : p + pw d < evs.length
  · have hRb : decide ((evs.length : Int) ≤ ((p + pw d : Nat) : Int)) = false := decide_eq_false (by omega)
    have HT : Hid _ := treeV_two evs d p hR
    rw [hRb]
    clear hRb
    go_wp2
    have hvd := hv4.drew
    have hpR : ((p + pw d : Nat) : Int) = (p : Int) + (pw d : Int) := by omega
    have HPR := Hid.out (show Hid _ from hpR)
    clear hpR
    go_region_held3 (fun w' => w'.cell? ⟨w.heap.size, 0, none⟩ = some (.int .i64 p) ∧ w'.cell? ⟨w.heap.size, 1, none⟩ = some (.int .i64 ((d : Int) + 1)) ∧ StringsAt w' (.slice ao evs.length cap) evs) (first | assumption | exact ⟨n0, n1, hvd⟩)
      (first
        | (go_at_call 94; refine (strRight_any p d _ _ rfl rfl _ (by omega) hd).mono ?_; rintro e w5 ⟨rfl, hb5⟩; have hk5 := keepB (by assumption) hb5)
        | (go_at_call 76; refine (ih.out (p + pw d) _ _ _ _ (by first | rfl | omega) rfl hR (And.right (And.right hk5))).mono ?_; rintro e w6 ⟨rfl, hb6⟩; have hk6 := keepB hk5 hb6)
        | (go_at_call 93; refine (newTwo_any _ _ (dig evs d p) (dig evs d (p + pw d)) _ _ _ (treeV_node evs d p) (treeV_node evs d (p + pw d)) (dig_bd evs d p) (dig_bd evs d (p + pw d))).mono ?_; rintro e w7 ⟨rfl, hb7⟩; have hk7 := keepB hk6 hb7))
    go_wp2
    go_ret
    exact ⟨by rw [HT.out]; rfl, (((hW4.drew.trans (hb5.mono hW4.size)).trans (hb6.mono (Nat.le_trans hW4.size hb5.size))).trans (hb7.mono (Nat.le_trans (Nat.le_trans hW4.size hb5.size) hb6.size)))⟩
  · have hRb : decide ((evs.length : Int) ≤ ((p + pw d : Nat) : Int)) = true := decide_eq_true (by omega)
    have HT : Hid _ := treeV_alone evs d p hR
    rw [hRb]
    clear hRb
    go_wp2_with fail
    refine (newAlone_any _ _ (dig evs d p) _ _ (treeV_node evs d p) (dig_bd evs d p)).mono ?_
    rintro e w5 ⟨rfl, hb5⟩
    go_wp2
    go_ret
    exact ⟨by rw [HT.out]; rfl, hW4.trans (hb5.mono hW4.size)⟩

theorem build_any (evs : List ByteArray) (hn : evs.length ≤ 900000) (hs : ∀ s ∈ evs, s.size ≤ 1000000) (d : Nat) (hd : d ≤ 16) :
    ∀ (p : Nat) (P D : Int) (v : Value) (w : World), P = p → D = d → p < evs.length → StringsAt w v evs → Calls Try.prog 76 #[.agg #[.int .i64 P, .int .i64 D], v] w fun e w' => e = .returned (treeV evs d p) ∧ Below w.heap.size w w' := by
  induction d with
  | zero =>
    intro p P D v w eP eD hp hv
    have : D = 0 := by omega
    subst this
    exact build_leaf evs v p P w eP hp (by omega) hv hs
  | succ d ih =>
    intro p P D v w eP eD hp hv
    exact build_step evs d p P D v w eP (by omega) hd hp hn hv (ih (by omega))

set_option maxRecDepth 100000 in
set_option maxHeartbeats 1000000 in
theorem Build_any (evs : List ByteArray) (v : Value) (w : World) (h1 : 1 ≤ evs.length) (hn : evs.length ≤ 65536) (hs : ∀ s ∈ evs, s.size ≤ 1000000) (hv : StringsAt w v evs) :
    Calls Try.prog 62 #[v] w fun e w' => e = .returned (treeV evs (dep evs.length) 0) ∧ Below w.heap.size w w' := by
  have hd := dep_le evs.length 16 hn
  have hv1 := hv
  obtain ⟨ao, cap, rfl, _⟩ := hv1
  go_enter Try.func62, Try.ntmps62
  go_wp2_with fail
  refine (whole_any evs.length _ h1 hn).mono ?_
  rintro e w1 ⟨rfl, hb1⟩
  have hvb := hv.below hb1
  clear hv
  go_wp2_with fail
  refine (build_any evs (by omega) hs (dep evs.length) hd 0 _ _ _ _ rfl rfl (by omega) hvb).mono ?_
  rintro e w2 ⟨rfl, hb2⟩
  go_wp2
  go_ret
  exact ⟨rfl, hb1.trans (hb2.mono hb1.size)⟩
end Go.Proofs.Ytpdjdaipijjeeaa
