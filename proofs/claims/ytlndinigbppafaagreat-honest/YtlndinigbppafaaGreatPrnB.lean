/-
  The walks of the program's pruned trees: Cut.
-/
import Derived.Test.YtlndinigbppafaaGreatPrn
namespace Go.Proofs.YtlndinigbppafaaGreat
open Go.RowKit

/-- Cut to m, through the interface, V gives the tree t'. -/
def Cuts (V : Value) (m : Nat) (t' : PT) : Prop :=
  ∃ ty a F, V = .iface ty a ∧ (∀ w : World, (method 402 ty a "Cut").run Tryz.prog w = .ok (F, a) w) ∧ (∀ (r : Value) (w : World), (callFunc F #[a, r]).run Tryz.prog w = .ok (.enter F #[a, r]) w) ∧ (∀ w : World, (nilAhead 402 ty a "Cut").run Tryz.prog w = .ok (some false) w) ∧
    Hid (∀ w : World, Calls Tryz.prog F #[a, .int .i64 m] w fun e w' => ∃ V', e = .returned V' ∧ NodeT V' t' ∧ Below w.heap.size w w')

theorem cells2 {u u' : World} {a b : Addr} {x y : Value} (h : u.cell? a = some x ∧ u.cell? b = some y) (hb : Below u.heap.size u u') : u'.cell? a = some x ∧ u'.cell? b = some y :=
  ⟨cell_keep h.1 hb, cell_keep h.2 hb⟩
theorem cells3c {u u' : World} {a b c : Addr} {x y z : Value} (h : u.cell? a = some x ∧ u.cell? b = some y ∧ u.cell? c = some z) (hb : Below u.heap.size u u') : u'.cell? a = some x ∧ u'.cell? b = some y ∧ u'.cell? c = some z :=
  ⟨cell_keep h.1 hb, cell_keep h.2.1 hb, cell_keep h.2.2 hb⟩

set_option maxRecDepth 100000 in
set_option maxHeartbeats 400000 in
theorem strAbove_any (p d : Nat) (P D : Int) (m : Nat) (eP : P = p) (eD : D = d) (w : World) (h1 : 1 ≤ m) (hm : m ≤ 65536) :
    Calls Tryz.prog 243 #[.agg #[.int .i64 P, .int .i64 D], .int .i64 m] w fun e w' => e = .returned (.bool (decide (dep m < d))) ∧ Below w.heap.size w w' := by
  subst eP eD
  go_enter Tryz.func243, Tryz.ntmps243
  go_wp2
  have g0 := heap_new w (.cells #[.int .i64 p, .int .i64 d] 188) _ rfl
  have hA : Below w.heap.size w (w.alloc (.cells #[.int .i64 p, .int .i64 d] 188)) := (Below.refl _ _).alloc (Nat.le_refl _) _
  generalize w.alloc (.cells #[.int .i64 p, .int .i64 d] 188) = W at g0 hA ⊢
  have f := box2 g0
  have hfld : ∀ (x y : Value) (u : World), (Instr.field 188 (.agg #[x, y]) 1).run Tryz.prog u = .ok y u := fun x y u => by kernel_rfl
  go_region_held3 (fun u => u.cell? ⟨w.heap.size, 0, none⟩ = some (.int .i64 p) ∧ u.cell? ⟨w.heap.size, 1, none⟩ = some (.int .i64 d)) (first | (with_reducible assumption) | exact f | fail)
    (first | (go_at_call 117; refine (whole_any m _ h1 (by omega)).mono ?_; rintro e w1 ⟨rfl, hb1⟩; have hk := cells2 f (Below.trans (Below.refl _ _).drew hb1)) | fail)
  all_goals go_wp2
  all_goals go_ret
  all_goals exact ⟨by simp, hA.drew.trans (hb1.mono hA.size)⟩

set_option maxRecDepth 100000 in
set_option maxHeartbeats 400000 in
theorem stubCut_any (a b : Value) (g : Int) (m : Value) (w : World) :
    Calls Tryz.prog 244 #[.agg #[a, b, .int .i64 g], m] w fun e w' => ∃ V', e = .returned V' ∧ NodeT V' (.stub g) ∧ Below w.heap.size w w' := by
  go_enter Tryz.func244, Tryz.ntmps244
  go_wp2
  go_ret
  exact ⟨_, rfl, .stub a b g, (Below.refl _ _).alloc (Nat.le_refl _) _⟩
set_option maxRecDepth 100000 in
set_option maxHeartbeats 400000 in
theorem leafCut_any (a b : Value) (e : ByteArray) (m : Value) (w : World) :
    Calls Tryz.prog 226 #[.agg #[a, b, .int .i64 (sm (0 :: e.data.toList)), .string e], m] w fun e' w' => ∃ V', e' = .returned V' ∧ NodeT V' (.leaf e) ∧ Below w.heap.size w w' := by
  generalize hs : sm (0 :: e.data.toList) = s
  go_enter Tryz.func226, Tryz.ntmps226
  go_wp2
  go_ret
  exact ⟨_, rfl, by rw [← hs]; exact .leaf a b e, (Below.refl _ _).alloc (Nat.le_refl _) _⟩

set_option maxRecDepth 100000 in
set_option maxHeartbeats 400000 in
theorem aloneCut_any (P D g : Int) (V : Value) (m : Nat) (c : PT) (w : World) (hV : Cuts V m c) (hc : c.Bd) :
    Calls Tryz.prog 231 #[.agg #[.int .i64 P, .int .i64 D, .int .i64 g, V], .int .i64 m] w fun e w' => ∃ V', e = .returned V' ∧ NodeT V' (.alone c) ∧ Below w.heap.size w w' := by
  obtain ⟨ty, a, F, rfl, hm, hE, hA, hC⟩ := hV
  go_enter Tryz.func231, Tryz.ntmps231
  go_wp2
  have g0 := heap_new w (.cells #[.int .i64 P, .int .i64 D, .int .i64 g, .iface ty a] 218) _ rfl
  have hW : Below w.heap.size w (w.alloc (.cells #[.int .i64 P, .int .i64 D, .int .i64 g, .iface ty a] 218)) := (Below.refl _ _).alloc (Nat.le_refl _) _
  generalize w.alloc (.cells #[.int .i64 P, .int .i64 D, .int .i64 g, .iface ty a] 218) = W at g0 hW ⊢
  obtain ⟨⟨f0, f1, -, f3⟩, -⟩ := box4 g0
  have f := And.intro f0 (And.intro f1 f3)
  clear f0 f1 f3
  go_region_held3 (fun u => u.cell? ⟨w.heap.size, 0, none⟩ = some (.int .i64 P) ∧ u.cell? ⟨w.heap.size, 1, none⟩ = some (.int .i64 D) ∧ u.cell? ⟨w.heap.size, 3, none⟩ = some (.iface ty a)) (first | (with_reducible assumption) | exact f | fail)
    (first
      | (go_at_call 148; refine (newAlone_dig _ _ c.dS _ _ (NodeT.digs hN1) hc.dS).mono ?_; rintro e w2 ⟨rfl, hb2⟩; have hk2 := cells3c hk1 hb2)
      | (refine Calls.mono (hC.out _) ?_; rintro e w1 ⟨V1, rfl, hN1, hb1⟩; have hk1 := cells3c f (Below.trans (Below.refl _ _).drew hb1))
      | fail)
  all_goals go_wp2
  all_goals go_ret
  all_goals exact ⟨_, rfl, .alone _ _ _ c hN1, below_step (hW.drew.trans (hb1.mono hW.size)) hb2⟩

/-- What is left of two. -/
def cut2 (m d p : Nat) (l r : PT) : PT := if dep m < d + 1 then l else if (m : Int) ≤ (p : Int) + pw d then .alone l else .two l r

set_option maxRecDepth 100000 in
set_option maxHeartbeats 400000 in
theorem twoCut_any (p d : Nat) (P D g : Int) (V U : Value) (m : Nat) (l r : PT) (w : World) (eP : P = p) (eD : D = (d : Int) + 1) (hp : p ≤ 60000) (hd : d + 1 ≤ 15) (h1 : 1 ≤ m) (hm5 : m ≤ 60000) (hV : Cuts V m l) (hU : Cuts U m r) (hl : l.Bd) (hr : r.Bd) :
    Calls Tryz.prog 239 #[.agg #[.int .i64 P, .int .i64 D, .int .i64 g, V, U], .int .i64 m] w fun e w' => ∃ V', e = .returned V' ∧ NodeT V' (cut2 m d p l r) ∧ Below w.heap.size w w' := by
  subst eP eD
  obtain ⟨ty, a, F, rfl, hm, hE, hA, hC⟩ := hV
  obtain ⟨ty', a', F', rfl, hm', hE', hA', hC'⟩ := hU
  go_enter Tryz.func239, Tryz.ntmps239
  go_wp2_with fail
  have g0 := heap_new w (.cells #[.int .i64 p, .int .i64 ((d : Int) + 1), .int .i64 g, .iface ty a, .iface ty' a'] 221) _ rfl
  have hW : Below w.heap.size w (w.alloc (.cells #[.int .i64 p, .int .i64 ((d : Int) + 1), .int .i64 g, .iface ty a, .iface ty' a'] 221)) := (Below.refl _ _).alloc (Nat.le_refl _) _
  generalize w.alloc (.cells #[.int .i64 p, .int .i64 ((d : Int) + 1), .int .i64 g, .iface ty a, .iface ty' a'] 221) = W at g0 hW ⊢
  refine (hC.out _).mono ?_
  rintro e w1 ⟨V1, rfl, hN1, hb1⟩
  have g1 := heap_keep g0 hb1
  have hw1 := below_step hW hb1
  clear g0 hW hb1 hC hm hE hA
  obtain ⟨⟨f0, f1, -, -, f4⟩, -⟩ := box5 g1
  go_wp2_with fail
  refine (strAbove_any p (d + 1) _ _ m rfl (by omega) _ h1 (by omega)).mono ?_
  rintro e w2 ⟨rfl, hb2⟩
  have g2 := heap_keep g1 hb2
  have hw2 := below_step hw1 hb2
  clear g1 hw1 hb2 f0 f1 f4
  obtain ⟨⟨f0, f1, -, -, f4⟩, -⟩ := box5 g2
  by_cases hab : dep m < d + 1
  · rw [decide_eq_true hab]
    have HAB : Hid (cut2 m d p l r = l) := if_pos hab
    clear hab
    go_wp2
    go_ret
    exact ⟨_, rfl, by rw [HAB.out]; exact hN1, hw2⟩
  · rw [decide_eq_false hab]
    have HAB : Hid (¬ dep m < d + 1) := hab
    clear hab
    go_wp2_with fail
    refine (strSingle_any p d _ _ _ rfl rfl _ (by omega) (by omega)).mono ?_
    rintro e w3 ⟨rfl, hb3⟩
    have g3 := heap_keep g2 hb3
    have hw3 := below_step hw2 hb3
    clear g2 hw2 hb3 f0 f1 f4
    obtain ⟨⟨f0, f1, -, -, f4⟩, -⟩ := box5 g3
    by_cases hsg : (m : Int) ≤ (p : Int) + pw d
    · rw [decide_eq_true (show (m : Int) ≤ ((p + pw d : Nat) : Int) by omega)]
      have HSG : Hid (cut2 m d p l r = .alone l) := (if_neg HAB.out).trans (if_pos hsg)
      clear hsg
      go_wp2_with fail
      refine (newAlone_dig _ _ l.dS V1 _ hN1.digs hl.dS).mono ?_
      rintro e w4 ⟨rfl, hb4⟩
      go_wp2
      go_ret
      exact ⟨_, rfl, by rw [HSG.out]; exact .alone _ _ _ l hN1, below_step hw3 hb4⟩
    · rw [decide_eq_false (show ¬ (m : Int) ≤ ((p + pw d : Nat) : Int) by omega)]
      have HSG : Hid (cut2 m d p l r = .two l r) := (if_neg HAB.out).trans (if_neg hsg)
      clear hsg
      go_wp2
      have f := And.intro f0 (And.intro f1 f4)
      clear f0 f1 f4
      go_region_held3 (fun u => u.cell? ⟨w.heap.size, 0, none⟩ = some (.int .i64 p) ∧ u.cell? ⟨w.heap.size, 1, none⟩ = some (.int .i64 ((d : Int) + 1)) ∧ u.cell? ⟨w.heap.size, 4, none⟩ = some (.iface ty' a')) (first | (with_reducible assumption) | exact f | fail)
        (first
          | (go_at_call 149; refine (newTwo_dig _ _ l.dS r.dS _ _ _ (NodeT.digs hN1) (NodeT.digs hN4) hl.dS hr.dS).mono ?_; rintro e w5 ⟨rfl, hb5⟩; have hk5 := cells3c hk4 hb5)
          | (refine Calls.mono (hC'.out _) ?_; rintro e w4 ⟨V4, rfl, hN4, hb4⟩; have hk4 := cells3c f (Below.trans (Below.refl _ _).drew hb4))
          | fail)
      all_goals go_wp2
      all_goals go_ret
      all_goals exact ⟨_, rfl, by rw [HSG.out]; exact .two _ _ _ _ l r hN1 hN4, below_step (hw3.drew.trans (hb4.mono hw3.size)) hb5⟩

/-- Cut of a pruned tree. -/
theorem cut_any {k M N : Int} {d p : Nat} {t : PT} (h : PT.Sh k M N d p t) (m : Nat) (h1 : 1 ≤ m) (hm : m ≤ 60000) : d ≤ 15 → p + pw d ≤ 60000 → Cuts (ptV t d p) m (t.cut m d p) := by
  induction h with
  | stub d p g _ _ _ => intro _ _; exact ⟨_, _, 244, rfl, fun w => by kernel_rfl, fun r w => by kernel_rfl, fun w => by kernel_rfl, fun w => stubCut_any _ _ _ _ w⟩
  | leaf p e _ he => intro _ _; exact ⟨_, _, 226, rfl, fun w => by kernel_rfl, fun r w => by kernel_rfl, fun w => by kernel_rfl, fun w => leafCut_any _ _ _ _ w⟩
  | two d p a b _ ha hb iha ihb =>
    intro h2 h3
    have h4 := pw_succ d
    refine ⟨_, _, 239, rfl, fun w => by kernel_rfl, fun r w => by kernel_rfl, fun w => by kernel_rfl, fun w => ?_⟩
    have e : (PT.two a b).cut m (d + 1) p = cut2 m d p (a.cut m d p) (b.cut m d (p + pw d)) := by
      rw [PT.cut, Nat.add_sub_cancel, Int.toNat_natCast]; rfl
    rw [e]
    exact twoCut_any p d _ _ _ _ _ m _ _ w rfl (by omega) (by omega) (by omega) h1 hm (iha (by omega) (by omega)) (ihb (by omega) (by omega)) (ha.bd.cut m d p) (hb.bd.cut m d (p + pw d))
  | alone d p a _ ha iha =>
    intro h2 h3
    have h4 := pw_succ d
    refine ⟨_, _, 231, rfl, fun w => by kernel_rfl, fun r w => by kernel_rfl, fun w => by kernel_rfl, fun w => ?_⟩
    exact aloneCut_any _ _ _ _ m _ w (iha (by omega) (by omega)) (ha.bd.cut m d p)
end Go.Proofs.YtlndinigbppafaaGreat
