/-
  The walks of Prune: what a proof tells of a node and of those below it.
-/
import Derived.Test.YtlndinigbppafaaTreeE
namespace Go.Proofs.Ytlndinigbppafaa
open Go.RowKit

/-- The nodes of the proof with the rule f, from the node at p of depth d on. -/
def pruneN (evs : List ByteArray) (f : Nat → Nat → Bool) : Nat → Nat → List PN
  | 0, p => if f p 0 = true then [⟨0, dig evs 0 p, ByteArray.empty⟩] else [⟨1, 0, evAt evs p⟩]
  | d + 1, p => if f p (d + 1) = true then [⟨0, dig evs (d + 1) p, ByteArray.empty⟩] else
      if p + pw d < evs.length then ⟨2, 0, ByteArray.empty⟩ :: (pruneN evs f d p ++ pruneN evs f d (p + pw d)) else ⟨3, 0, ByteArray.empty⟩ :: pruneN evs f d p
theorem pruneN_len (evs : List ByteArray) (f : Nat → Nat → Bool) (d p : Nat) : 1 ≤ (pruneN evs f d p).length ∧ (pruneN evs f d p).length + 1 ≤ 2 * pw d := by
  induction d generalizing p with
  | zero => unfold pruneN; split <;> simp [pw]
  | succ d ih =>
    have h1 := ih p
    have h2 := ih (p + pw d)
    have h3 := pw_succ d
    unfold pruneN
    split
    · simp; have := pw_pos d; omega
    · split
      · simp; omega
      · simp; omega

theorem nrows2 (w : World) (b : Nat) (u0 u1 : Value) (n0 n1 : List PN) (hb : b = w.heap.size) (h0 : NodesAt w u0 n0) (h1 : NodesAt w u1 n1) : NodeRows (w.alloc (.cells #[u0, u1] 40)) (.slice (some ⟨b, 0, none⟩) 2 2) [n0, n1] := by
  subst hb
  refine ⟨_, _, rfl, fun _ => ⟨_, _, rfl, by simp, fun j hj => ?_⟩⟩
  rw [Nat.zero_add, World.cell?_alloc_mark]
  match j, hj with
  | 0, _ => exact ⟨u0, rfl, h0.keep (keepA _ _)⟩
  | 1, _ => exact ⟨u1, rfl, h1.keep (keepA _ _)⟩
theorem nrows3 (w : World) (b : Nat) (u0 u1 u2 : Value) (n0 n1 n2 : List PN) (hb : b = w.heap.size) (h0 : NodesAt w u0 n0) (h1 : NodesAt w u1 n1) (h2 : NodesAt w u2 n2) : NodeRows (w.alloc (.cells #[u0, u1, u2] 40)) (.slice (some ⟨b, 0, none⟩) 3 3) [n0, n1, n2] := by
  subst hb
  refine ⟨_, _, rfl, fun _ => ⟨_, _, rfl, by simp, fun j hj => ?_⟩⟩
  rw [Nat.zero_add, World.cell?_alloc_mark]
  match j, hj with
  | 0, _ => exact ⟨u0, rfl, h0.keep (keepA _ _)⟩
  | 1, _ => exact ⟨u1, rfl, h1.keep (keepA _ _)⟩
  | 2, _ => exact ⟨u2, rfl, h2.keep (keepA _ _)⟩
theorem NodeRows.drew {w : World} {v : Value} {nss : List (List PN)} (h : NodeRows w v nss) : NodeRows w.drew v nss := by
  obtain ⟨ao, cap, rfl, h⟩ := h
  refine ⟨ao, cap, rfl, fun hl => ?_⟩
  obtain ⟨b, o, rfl, hlt, hc⟩ := h hl
  refine ⟨b, o, rfl, hlt, fun j hj => ?_⟩
  obtain ⟨u, hu, hN⟩ := hc j hj
  exact ⟨u, hu, hN.keep (keepD _)⟩

/-- The value V prunes to these nodes, through the interface. -/
def Prunes (V : Value) (nf : (Nat → Nat → Bool) → List PN) : Prop :=
  ∃ t a F, V = .iface t a ∧ (∀ w : World, (method 292 t a "Prune").run Try.prog w = .ok (F, a) w) ∧ (∀ (r : Value) (w : World), (callFunc F #[a, r]).run Try.prog w = .ok (.enter F #[a, r]) w) ∧ (∀ w : World, (nilAhead 292 t a "Prune").run Try.prog w = .ok (some false) w) ∧
    Hid (∀ (f : Nat → Nat → Bool) (R : Value) (w : World), RuleAt w R f → Calls Try.prog F #[a, R] w fun e w' => ∃ v', e = .returned v' ∧ NodesAt w' v' (nf f) ∧ Below w.heap.size w w')

set_option maxRecDepth 100000 in
set_option maxHeartbeats 400000 in
theorem leafPrune_any (p : Nat) (P D g : Int) (s : ByteArray) (f : Nat → Nat → Bool) (R : Value) (w : World) (eP : P = p) (eD : D = 0) (hp : p ≤ 1000000) (hR : RuleAt w R f) :
    Calls Try.prog 134 #[.agg #[.int .i64 P, .int .i64 D, .int .i64 g, .string s], R] w fun e w' => ∃ v', e = .returned v' ∧ NodesAt w' v' (if f p 0 = true then [⟨0, g, ByteArray.empty⟩] else [⟨1, 0, s⟩]) ∧ Below w.heap.size w w' := by
  subst eP eD
  have hRW : RuleAt (w.alloc (.cells #[.int .i64 p, .int .i64 0, .int .i64 g, .string s] 136)) R f := hR.below ((Below.refl _ _).alloc (Nat.le_refl _) _)
  go_enter Try.func134, Try.ntmps134
  go_wp2_with fail
  refine (leftOut_any p 0 _ _ R f _ rfl rfl hp (by omega) hRW).mono ?_
  rintro e w1 ⟨rfl, hb1⟩
  have c2 := cell_keep (a := ⟨w.heap.size, 2, none⟩) (show (w.alloc (.cells #[.int .i64 p, .int .i64 0, .int .i64 g, .string s] 136)).cell? ⟨w.heap.size, 2, none⟩ = some (.int .i64 g) by simp) hb1
  have c3 := cell_keep (a := ⟨w.heap.size, 3, none⟩) (show (w.alloc (.cells #[.int .i64 p, .int .i64 0, .int .i64 g, .string s] 136)).cell? ⟨w.heap.size, 3, none⟩ = some (.string s) by simp) hb1
  have hbw : Below w.heap.size w w1 := ((Below.refl _ _).alloc (Nat.le_refl _) _).trans (hb1.mono (by simp))
  have hz : w.heap.size < w1.heap.size := World.block_lt_of_cell? w1 _ c2
  cases hf : f p 0 with
  | true =>
    go_wp2_with (go_at_call 135; refine (stub_any _ _).mono ?_; rintro e w2 ⟨v2, rfl, hN2, hb2⟩)
    go_ret
    exact ⟨_, rfl, hN2, hbw.trans (hb2.mono hbw.size)⟩
  | false =>
    go_wp2
    all_goals go_ret
    all_goals exact ⟨_, rfl, node_at _ _ _ _ _ rfl, hbw.alloc hbw.size _⟩

set_option maxRecDepth 100000 in
set_option maxHeartbeats 400000 in
theorem alonePrune_any (p d : Nat) (P D g : Int) (V : Value) (nf : (Nat → Nat → Bool) → List PN) (f : Nat → Nat → Bool) (R : Value) (w : World) (eP : P = p) (eD : D = (d : Int) + 1) (hp : p ≤ 1000000) (hd : d + 1 ≤ 16) (hV : Prunes V nf) (hR : RuleAt w R f) (hl : 1 ≤ (nf f).length ∧ (nf f).length ≤ 500000) :
    Calls Try.prog 139 #[.agg #[.int .i64 P, .int .i64 D, .int .i64 g, V], R] w fun e w' => ∃ v', e = .returned v' ∧ NodesAt w' v' (if f p (d + 1) = true then [⟨0, g, ByteArray.empty⟩] else ⟨3, 0, ByteArray.empty⟩ :: nf f) ∧ Below w.heap.size w w' := by
  obtain ⟨t, a, F, rfl, hm, hE, _, hC⟩ := hV
  subst eP eD
  have hRW : RuleAt (w.alloc (.cells #[.int .i64 p, .int .i64 ((d : Int) + 1), .int .i64 g, .iface t a] 140)) R f := hR.below ((Below.refl _ _).alloc (Nat.le_refl _) _)
  go_enter Try.func139, Try.ntmps139
  go_wp2_with fail
  refine (leftOut_any p (d + 1) _ _ R f _ rfl (by omega) hp hd hRW).mono ?_
  rintro e w1 ⟨rfl, hb1⟩
  have c2 := cell_keep (a := ⟨w.heap.size, 2, none⟩) (show (w.alloc (.cells #[.int .i64 p, .int .i64 ((d : Int) + 1), .int .i64 g, .iface t a] 140)).cell? ⟨w.heap.size, 2, none⟩ = some (.int .i64 g) by simp) hb1
  have c3 := cell_keep (a := ⟨w.heap.size, 3, none⟩) (show (w.alloc (.cells #[.int .i64 p, .int .i64 ((d : Int) + 1), .int .i64 g, .iface t a] 140)).cell? ⟨w.heap.size, 3, none⟩ = some (.iface t a) by simp) hb1
  have hbw : Below w.heap.size w w1 := ((Below.refl _ _).alloc (Nat.le_refl _) _).trans (hb1.mono (by simp))
  have hR1 := hRW.below hb1
  have hz : w.heap.size < w1.heap.size := World.block_lt_of_cell? w1 _ c2
  cases hf : f p (d + 1) with
  | true =>
    go_wp2_with (go_at_call 135; refine (stub_any _ _).mono ?_; rintro e w2 ⟨v2, rfl, hN2, hb2⟩)
    go_ret
    exact ⟨_, rfl, hN2, hbw.trans (hb2.mono hbw.size)⟩
  | false =>
    go_wp2_with fail
    have hK := node_at w1 3 0 ⟨#[]⟩ w1.heap.size rfl
    have hbK : Below w1.heap.size w1 (w1.alloc (.cells #[.int .i64 3, .int .i64 0, .string ⟨#[]⟩] 100)) := (Below.refl _ _).alloc (Nat.le_refl _) _
    refine (hC.out f R _ (hR1.below hbK)).mono ?_
    rintro e w2 ⟨v2, rfl, hN2, hb2⟩
    have hK2 := hK.keep (KeepsT.of_below hb2 (Nat.le_refl _))
    have hb12 : Below w1.heap.size w1 w2 := hbK.trans (hb2.mono (by simp))
    have hbw2 := hbw.trans (hb12.mono hbw.size)
    obtain ⟨a2, p2, rfl, hrest⟩ := id hN2
    clear hrest hK hbK hb2 hR1 hRW hm hE hC c2 c3 hb1
    go_wp2_with fail
    refine (concat_any [[⟨3, 0, ⟨#[]⟩⟩], nf f] _ _ (nrows2 _ _ _ _ _ _ (by simp) hK2 hN2) (by simp) (by simp) (by simp; omega)).mono ?_
    rintro e w3 ⟨v3, rfl, hN3, hb3⟩
    go_wp2
    all_goals go_ret
    all_goals exact ⟨_, rfl, (by simpa using hN3 : NodesAt w3 v3 (⟨3, 0, ⟨#[]⟩⟩ :: nf f)), (hbw2.alloc hbw2.size _).trans (hb3.mono (by have := hbw2.size; simp; omega))⟩

theorem keepR {u u' : World} {a b : Addr} {x y R : Value} {f : Nat → Nat → Bool} (h : u.cell? a = some x ∧ u.cell? b = some y ∧ RuleAt u R f) (hb : Below u.heap.size u u') : u'.cell? a = some x ∧ u'.cell? b = some y ∧ RuleAt u' R f :=
  ⟨cell_keep h.1 hb, cell_keep h.2.1 hb, h.2.2.below hb⟩

set_option maxRecDepth 100000 in
set_option maxHeartbeats 1000000 in
theorem twoPrune_any (p d : Nat) (P D g : Int) (V U : Value) (nf mf : (Nat → Nat → Bool) → List PN) (f : Nat → Nat → Bool) (R : Value) (w : World) (eP : P = p) (eD : D = (d : Int) + 1) (hp : p ≤ 1000000) (hd : d + 1 ≤ 16) (hV : Prunes V nf) (hU : Prunes U mf) (hR : RuleAt w R f)
    (hl : 1 ≤ (nf f).length ∧ (nf f).length ≤ 400000) (hl2 : (mf f).length ≤ 400000) :
    Calls Try.prog 145 #[.agg #[.int .i64 P, .int .i64 D, .int .i64 g, V, U], R] w fun e w' => ∃ v', e = .returned v' ∧ NodesAt w' v' (if f p (d + 1) = true then [⟨0, g, ByteArray.empty⟩] else ⟨2, 0, ByteArray.empty⟩ :: (nf f ++ mf f)) ∧ Below w.heap.size w w' := by
  obtain ⟨t, a, F, rfl, hm, hE, _, hC⟩ := hV
  obtain ⟨t', a', F', rfl, hm', hE', _, hC'⟩ := hU
  subst eP eD
  have hRW : RuleAt (w.alloc (.cells #[.int .i64 p, .int .i64 ((d : Int) + 1), .int .i64 g, .iface t a, .iface t' a'] 143)) R f := hR.below ((Below.refl _ _).alloc (Nat.le_refl _) _)
  go_enter Try.func145, Try.ntmps145
  go_wp2_with fail
  refine (leftOut_any p (d + 1) _ _ R f _ rfl (by omega) hp hd hRW).mono ?_
  rintro e w1 ⟨rfl, hb1⟩
  have c2 := cell_keep (a := ⟨w.heap.size, 2, none⟩) (show (w.alloc (.cells #[.int .i64 p, .int .i64 ((d : Int) + 1), .int .i64 g, .iface t a, .iface t' a'] 143)).cell? ⟨w.heap.size, 2, none⟩ = some (.int .i64 g) by simp) hb1
  have c3 := cell_keep (a := ⟨w.heap.size, 3, none⟩) (show (w.alloc (.cells #[.int .i64 p, .int .i64 ((d : Int) + 1), .int .i64 g, .iface t a, .iface t' a'] 143)).cell? ⟨w.heap.size, 3, none⟩ = some (.iface t a) by simp) hb1
  have c4 := cell_keep (a := ⟨w.heap.size, 4, none⟩) (show (w.alloc (.cells #[.int .i64 p, .int .i64 ((d : Int) + 1), .int .i64 g, .iface t a, .iface t' a'] 143)).cell? ⟨w.heap.size, 4, none⟩ = some (.iface t' a') by simp) hb1
  have hbw : Below w.heap.size w w1 := ((Below.refl _ _).alloc (Nat.le_refl _) _).trans (hb1.mono (by simp))
  have hR1 := hRW.below hb1
  have hz : w.heap.size < w1.heap.size := World.block_lt_of_cell? w1 _ c2
  cases hf : f p (d + 1) with
  | true =>
    go_wp2_with (go_at_call 135; refine (stub_any _ _).mono ?_; rintro e w2 ⟨v2, rfl, hN2, hb2⟩)
    go_ret
    exact ⟨_, rfl, hN2, hbw.trans (hb2.mono hbw.size)⟩
  | false =>
    go_wp2
    have h0 := And.intro c3 (And.intro c4 hR1)
    go_region_held3 (fun w' => w'.cell? ⟨w.heap.size, 3, none⟩ = some (.iface t a) ∧ w'.cell? ⟨w.heap.size, 4, none⟩ = some (.iface t' a') ∧ RuleAt w' R f) (first | assumption | exact ⟨c3, c4, hR1⟩ | (refine keepR hk3 ?_; (repeat (first | exact Below.refl _ _ | refine Below.drew ?_ | refine Below.alloc ?_ (by first | omega | (simp; omega) | simp) _)); done) | (refine keepR hk2 ?_; (repeat (first | exact Below.refl _ _ | refine Below.drew ?_ | refine Below.alloc ?_ (by first | omega | (simp; omega) | simp) _)); done) | (refine keepR h0 ?_; (repeat (first | exact Below.refl _ _ | refine Below.drew ?_ | refine Below.alloc ?_ (by first | omega | (simp; omega) | simp) _)); done))
      (first
        | (go_at_call 140; obtain ⟨hX, hM2⟩ : NodesAt w3 (.slice (some ⟨w1.heap.size, 0, none⟩) 1 1) [⟨2, 0, ⟨#[]⟩⟩] ∧ NodesAt w3 (.slice x2 (nf f).length y2) (nf f) := ⟨((((node_at w1 2 0 ⟨#[]⟩ _ rfl).keep (keepD _)).keep (KeepsT.of_below hb2 (Nat.le_refl _))).keep (KeepsT.of_below hb3 (Nat.le_refl _))), hN2.keep (KeepsT.of_below hb3 (Nat.le_refl _))⟩; refine (concat_any [[⟨2, 0, ⟨#[]⟩⟩], nf f, mf f] _ _ (nrows3 _ _ _ _ _ _ _ _ rfl hX hM2 hN3) (by simp) (by simp) (by simp; omega)).mono ?_; rintro e w4 ⟨v4, rfl, hN4, hb4⟩; have hk4 := keepR (keepR hk3 ((Below.refl _ _).alloc (Nat.le_refl _) _)) hb4; have hq4 : Below w1.heap.size w1 w4 := below_step (by repeat (first | exact hq3 | exact hq2 | exact Below.refl _ _ | refine Below.drew ?_ | refine Below.alloc ?_ (by first | omega | (simp; omega) | simp) _)) hb4)
        | (go_at_call 140; obtain ⟨hX, hM2⟩ : NodesAt w3 (.slice (some ⟨w2.heap.size, 0, none⟩) 1 1) [⟨2, 0, ⟨#[]⟩⟩] ∧ NodesAt w3 (.slice x2 (nf f).length y2) (nf f) := ⟨(node_at w2 2 0 ⟨#[]⟩ _ rfl).keep (KeepsT.of_below hb3 (Nat.le_refl _)), (hN2.keep (keepA _ _)).keep (KeepsT.of_below hb3 (Nat.le_refl _))⟩; refine (concat_any [[⟨2, 0, ⟨#[]⟩⟩], nf f, mf f] _ _ (nrows3 _ _ _ _ _ _ _ _ rfl hX hM2 hN3) (by simp) (by simp) (by simp; omega)).mono ?_; rintro e w4 ⟨v4, rfl, hN4, hb4⟩; have hk4 := keepR (keepR hk3 ((Below.refl _ _).alloc (Nat.le_refl _) _)) hb4; have hq4 : Below w1.heap.size w1 w4 := below_step (by repeat (first | exact hq3 | exact hq2 | exact Below.refl _ _ | refine Below.drew ?_ | refine Below.alloc ?_ (by first | omega | (simp; omega) | simp) _)) hb4)
        | (go_at_call 140; have hM2 : NodesAt w3 (.slice x2 (nf f).length y2) (nf f) := hN2.keep (KeepsT.of_below hb3 (Nat.le_refl _)); refine (concat_any [[⟨2, 0, ⟨#[]⟩⟩], nf f, mf f] _ _ (nrows3 _ _ _ _ _ _ _ _ (by simp) (node_at w3 2 0 ⟨#[]⟩ _ rfl) (hM2.keep (keepA _ _)) (hN3.keep (keepA _ _))) (by simp) (by simp) (by simp; omega)).mono ?_; rintro e w4 ⟨v4, rfl, hN4, hb4⟩; have hk4 := keepR (keepR hk3 (((Below.refl _ _).alloc (Nat.le_refl _) _).alloc (by simp) _)) hb4; have hq4 : Below w1.heap.size w1 w4 := below_step (by repeat (first | exact hq3 | exact hq2 | exact Below.refl _ _ | refine Below.drew ?_ | refine Below.alloc ?_ (by first | omega | (simp; omega) | simp) _)) hb4)
        | (have hk2' := hk2; refine Calls.mono (hC'.out f R _ (And.right (And.right (by assumption)))) ?_; rintro e w3 ⟨v3, rfl, hN3, hb3⟩; obtain ⟨x3, y3, rfl, hrest⟩ := id hN3; clear hrest; have hk3 := keepR (by assumption) hb3; have hq3 : Below w1.heap.size w1 w3 := below_step (by repeat (first | exact hq3 | exact hq2 | exact Below.refl _ _ | refine Below.drew ?_ | refine Below.alloc ?_ (by first | omega | (simp; omega) | simp) _)) hb3; have hs3 := hq3.size)
        | (refine Calls.mono (hC.out f R _ (And.right (And.right (by assumption)))) ?_; rintro e w2 ⟨v2, rfl, hN2, hb2⟩; obtain ⟨x2, y2, rfl, hrest⟩ := id hN2; clear hrest; have hk2 := keepR (by assumption) hb2; have hq2 : Below w1.heap.size w1 w2 := below_step (by repeat (first | exact hq3 | exact hq2 | exact Below.refl _ _ | refine Below.drew ?_ | refine Below.alloc ?_ (by first | omega | (simp; omega) | simp) _)) hb2; have hs2 := hq2.size))
    all_goals go_wp2
    all_goals go_ret
    all_goals exact ⟨_, rfl, (by simpa using hN4 : NodesAt w4 v4 (⟨2, 0, ⟨#[]⟩⟩ :: (nf f ++ mf f))), hbw.trans (hq4.mono hbw.size)⟩
end Go.Proofs.Ytlndinigbppafaa

/-
  Prune of every tree of events.
-/
namespace Go.Proofs.Ytlndinigbppafaa
open Go.RowKit

theorem leaf_m (a : Value) (w : World) : (method 292 136 a "Prune").run Try.prog w = .ok (134, a) w := by kernel_rfl
theorem alone_m (a : Value) (w : World) : (method 292 140 a "Prune").run Try.prog w = .ok (139, a) w := by kernel_rfl
theorem two_m (a : Value) (w : World) : (method 292 143 a "Prune").run Try.prog w = .ok (145, a) w := by kernel_rfl
theorem leaf_c (a r : Value) (w : World) : (callFunc 134 #[a, r]).run Try.prog w = .ok (.enter 134 #[a, r]) w := by kernel_rfl
theorem alone_c (a r : Value) (w : World) : (callFunc 139 #[a, r]).run Try.prog w = .ok (.enter 139 #[a, r]) w := by kernel_rfl
theorem two_c (a r : Value) (w : World) : (callFunc 145 #[a, r]).run Try.prog w = .ok (.enter 145 #[a, r]) w := by kernel_rfl

theorem leaf_n (a b c d : Value) (w : World) : (nilAhead 292 136 (.agg #[a, b, c, d]) "Prune").run Try.prog w = .ok (some false) w := by kernel_rfl
theorem alone_n (a b c d : Value) (w : World) : (nilAhead 292 140 (.agg #[a, b, c, d]) "Prune").run Try.prog w = .ok (some false) w := by kernel_rfl
theorem two_n (a b c d e : Value) (w : World) : (nilAhead 292 143 (.agg #[a, b, c, d, e]) "Prune").run Try.prog w = .ok (some false) w := by kernel_rfl

theorem prunes_tree (evs : List ByteArray) (d : Nat) (hd : d ≤ 16) : ∀ p, p + pw d ≤ 1000000 → Prunes (treeV evs d p) (fun f => pruneN evs f d p) := by
  induction d with
  | zero =>
    intro p hp
    refine ⟨_, _, _, rfl, fun w => leaf_m _ w, fun r w => leaf_c _ r w, fun w => leaf_n _ _ _ _ w, fun f R w hR => ?_⟩
    exact leafPrune_any p _ _ _ _ f R w rfl rfl (by omega) hR
  | succ d ih =>
    intro p hp
    have h2 := pw_succ d
    have h16 : pw d ≤ 32768 := pw_le (e := 15) (by omega)
    have hV := ih (by omega) p (by omega)
    have hU := ih (by omega) (p + pw d) (by omega)
    have hl : ∀ f q, 1 ≤ (pruneN evs f d q).length ∧ (pruneN evs f d q).length ≤ 65536 := fun f q => by
      have := pruneN_len evs f d q; omega
    by_cases hR : p + pw d < evs.length
    · rw [treeV, if_pos hR]
      refine ⟨_, _, _, rfl, fun w => two_m _ w, fun r w => two_c _ r w, fun w => two_n _ _ _ _ _ w, fun f R w hRu => ?_⟩
      have e : pruneN evs f (d + 1) p = if f p (d + 1) = true then [⟨0, dig evs (d + 1) p, ByteArray.empty⟩] else ⟨2, 0, ByteArray.empty⟩ :: (pruneN evs f d p ++ pruneN evs f d (p + pw d)) := by rw [pruneN]; simp only [if_pos hR]
      show Calls _ _ _ _ fun _ _ => ∃ _, _ ∧ NodesAt _ _ (pruneN evs f (d + 1) p) ∧ _
      rw [e]
      exact twoPrune_any p d _ _ _ _ _ (fun f => pruneN evs f d p) (fun f => pruneN evs f d (p + pw d)) f R w rfl rfl (by omega) hd hV hU hRu ⟨(hl f p).1, by have := hl f p; omega⟩ (by have := hl f (p + pw d); omega)
    · rw [treeV, if_neg hR]
      refine ⟨_, _, _, rfl, fun w => alone_m _ w, fun r w => alone_c _ r w, fun w => alone_n _ _ _ _ w, fun f R w hRu => ?_⟩
      have e : pruneN evs f (d + 1) p = if f p (d + 1) = true then [⟨0, dig evs (d + 1) p, ByteArray.empty⟩] else ⟨3, 0, ByteArray.empty⟩ :: pruneN evs f d p := by rw [pruneN]; simp only [if_neg hR]
      show Calls _ _ _ _ fun _ _ => ∃ _, _ ∧ NodesAt _ _ (pruneN evs f (d + 1) p) ∧ _
      rw [e]
      exact alonePrune_any p d _ _ _ _ (fun f => pruneN evs f d p) f R w rfl rfl (by omega) hd hV hRu ⟨(hl f p).1, by have := hl f p; omega⟩
end Go.Proofs.Ytlndinigbppafaa
