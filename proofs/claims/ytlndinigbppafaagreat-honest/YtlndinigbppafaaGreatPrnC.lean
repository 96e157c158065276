/-
  The walks of the program's pruned trees: Preimages.
-/
import Derived.Test.YtlndinigbppafaaGreatPrnB
import Derived.Test.YtlndinigbppafaaGreatConR
namespace Go.Proofs.YtlndinigbppafaaGreat
open Go.RowKit

/-- Rows of bytes that hold the texts. -/
inductive AllB (w : World) : List Sl → List (List UInt8) → Prop
  | nil : AllB w [] []
  | cons (k : Sl) (ks : List Sl) (l : List UInt8) (ls : List (List UInt8)) : BytesAt w (.slice k.1 k.2.1 k.2.2) l → AllB w ks ls → AllB w (k :: ks) (l :: ls)
theorem AllB.stays {w w' : World} {ks : List Sl} {ls : List (List UInt8)} (h : AllB w ks ls) (hb : Below w.heap.size w w') : AllB w' ks ls := by
  induction h with
  | nil => exact .nil
  | cons k ks l ls h1 _ ih => exact .cons k ks l ls (h1.keep (KeepsT.of_below hb (Nat.le_refl _))) ih
theorem AllB.append {w : World} {ks ks' : List Sl} {ls ls' : List (List UInt8)} (h : AllB w ks ls) (h' : AllB w ks' ls') : AllB w (ks ++ ks') (ls ++ ls') := by
  induction h with
  | nil => exact h'
  | cons k ks l ls h1 _ ih => exact .cons k _ l _ h1 ih
theorem AllB.len {w : World} {ks : List Sl} {ls : List (List UInt8)} (h : AllB w ks ls) : ks.length = ls.length := by
  induction h with
  | nil => rfl
  | cons k ks l ls h1 _ ih => simp [ih]
theorem AllB.get {w : World} {ks : List Sl} {ls : List (List UInt8)} (h : AllB w ks ls) (j : Nat) (h1 : j < ks.length) (h2 : j < ls.length) : BytesAt w (.slice ks[j].1 ks[j].2.1 ks[j].2.2) ls[j] := by
  induction h generalizing j with
  | nil => simp at h1
  | cons k ks l ls hb _ ih =>
    cases j with
    | zero => exact hb
    | succ j => simp only [List.getElem_cons_succ]; exact ih j _ _

/-- The value V gives the preimages ls, through the interface. -/
def Pres (V : Value) (ls : List (List UInt8)) : Prop :=
  ∃ ty a F, V = .iface ty a ∧ (∀ w : World, (method 402 ty a "Preimages").run Tryz.prog w = .ok (F, a) w) ∧ (∀ w : World, (callFunc F #[a]).run Tryz.prog w = .ok (.enter F #[a]) w) ∧ (∀ w : World, (nilAhead 402 ty a "Preimages").run Tryz.prog w = .ok (some false) w) ∧
    Hid (∀ w : World, Calls Tryz.prog F #[a] w fun e w' => ∃ v' ks, e = .returned v' ∧ RawsAt w' v' ks ∧ AllB w' ks ls ∧ Below w.heap.size w w')

theorem owned_sl {w : World} {base n : Nat} {l : List UInt8} {v : Value} (h : w.ownsRow base 5 1 v n (bytes8 l)) : ∃ k : Sl, v = .slice k.1 k.2.1 k.2.2 ∧ BytesAt w (.slice k.1 k.2.1 k.2.2) l := by
  have hb := BytesAt.of_owns h
  obtain ⟨ao, cap, e, _⟩ := id hb
  exact ⟨(ao, l.length, cap), e, by rw [e] at hb; exact hb⟩

set_option maxRecDepth 100000 in
set_option maxHeartbeats 400000 in
theorem stubPre_any (a b : Value) (g : Int) (w : World) :
    Calls Tryz.prog 246 #[.agg #[a, b, .int .i64 g]] w fun e w' => ∃ v' ks, e = .returned v' ∧ RawsAt w' v' ks ∧ AllB w' ks [] ∧ Below w.heap.size w w' := by
  go_enter Tryz.func246, Tryz.ntmps246
  go_wp2
  go_ret
  exact ⟨_, [], rfl, ⟨none, 0, rfl, fun _ => rfl, fun h => by simp at h⟩, .nil, (Below.refl _ _).alloc (Nat.le_refl _) _⟩

set_option maxRecDepth 100000 in
set_option maxHeartbeats 400000 in
theorem leafPre_any (a b : Value) (g : Int) (s : ByteArray) (w : World) (hs : s.size ≤ 50) :
    Calls Tryz.prog 228 #[.agg #[a, b, .int .i64 g, .string s]] w fun e w' => ∃ v' ks, e = .returned v' ∧ RawsAt w' v' ks ∧ AllB w' ks [0 :: s.data.toList] ∧ Below w.heap.size w w' := by
  have e0 : s.data.toList.length = s.size := by rw [Array.length_toList]; rfl
  have HS : Hid ([[b8 0], s.data.toList].flatten = 0 :: s.data.toList) := by
    show [[b8 0], s.data.toList].flatten = 0 :: s.data.toList
    simp [b8]
  go_enter Tryz.func228, Tryz.ntmps228
  go_wp2_with fail
  have hW : Below w.heap.size w (w.alloc (.cells #[a, b, .int .i64 g, .string s] 214)) := (Below.refl _ _).alloc (Nat.le_refl _) _
  generalize w.alloc (.cells #[a, b, .int .i64 g, .string s] 214) = W at hW ⊢
  refine (leafParts_any s _).mono ?_
  rintro e w1 ⟨v1, rfl, hR, hb1⟩
  have hw1 := below_step hW hb1
  clear hW hb1
  go_wp2_with fail
  refine (join_any _ _ _ hR (by simp) (by rw [HS.out]; simp; omega)).mono ?_
  rintro e w2 ⟨v2, rfl, hO2, hb2⟩
  rw [HS.out] at hO2
  obtain ⟨k, rfl, hB⟩ := owned_sl hO2
  have hw2 := below_step hw1 hb2
  have hA : Below w2.heap.size w2 (w2.alloc (.cells #[.slice k.1 k.2.1 k.2.2] 27)) := (Below.refl _ _).alloc (Nat.le_refl _) _
  clear hR hO2 hw1 hb2
  go_wp2
  go_ret
  exact ⟨_, [k], rfl, raw_at w2 k _ rfl, .cons k [] _ [] (hB.keep (KeepsT.of_below hA (Nat.le_refl _))) .nil, below_step hw2 hA⟩

theorem rrows2 (w : World) (b : Nat) (u0 u1 : Value) (n0 n1 : List Sl) (hb : b = w.heap.size) (h0 : RawsAt w u0 n0) (h1 : RawsAt w u1 n1) : RawRows (w.alloc (.cells #[u0, u1] 53)) (.slice (some ⟨b, 0, none⟩) 2 2) [n0, n1] := by
  subst hb
  refine ⟨_, _, rfl, fun _ => ⟨_, _, rfl, by simp, fun j hj => ?_⟩⟩
  rw [Nat.zero_add, World.cell?_alloc_mark]
  match j, hj with
  | 0, _ => exact ⟨u0, rfl, h0.keep (keepA _ _)⟩
  | 1, _ => exact ⟨u1, rfl, h1.keep (keepA _ _)⟩
theorem rrows3 (w : World) (b : Nat) (u0 u1 u2 : Value) (n0 n1 n2 : List Sl) (hb : b = w.heap.size) (h0 : RawsAt w u0 n0) (h1 : RawsAt w u1 n1) (h2 : RawsAt w u2 n2) : RawRows (w.alloc (.cells #[u0, u1, u2] 53)) (.slice (some ⟨b, 0, none⟩) 3 3) [n0, n1, n2] := by
  subst hb
  refine ⟨_, _, rfl, fun _ => ⟨_, _, rfl, by simp, fun j hj => ?_⟩⟩
  rw [Nat.zero_add, World.cell?_alloc_mark]
  match j, hj with
  | 0, _ => exact ⟨u0, rfl, h0.keep (keepA _ _)⟩
  | 1, _ => exact ⟨u1, rfl, h1.keep (keepA _ _)⟩
  | 2, _ => exact ⟨u2, rfl, h2.keep (keepA _ _)⟩

set_option maxRecDepth 100000 in
set_option maxHeartbeats 400000 in
theorem alonePre_any (a b V : Value) (g g' : Int) (ls : List (List UInt8)) (w : World) (hV : Pres V ls) (hD : Digs V g') (hg : 0 ≤ g' ∧ g' ≤ 65535) (hl : ls.length ≤ 400000) :
    Calls Tryz.prog 233 #[.agg #[a, b, .int .i64 g, V]] w fun e w' => ∃ v' ks, e = .returned v' ∧ RawsAt w' v' ks ∧ AllB w' ks ((2 :: two8 g') :: ls) ∧ Below w.heap.size w w' := by
  obtain ⟨ty, av, F, rfl, hm, hE, hA, hC⟩ := hV
  have HS : Hid ([[b8 2], two8 g'].flatten = 2 :: two8 g') := by
    show [[b8 2], two8 g'].flatten = 2 :: two8 g'
    simp [b8]
  go_enter Tryz.func233, Tryz.ntmps233
  go_wp2_with fail
  have g0 := heap_new w (.cells #[a, b, .int .i64 g, .iface ty av] 218) _ rfl
  have hW : Below w.heap.size w (w.alloc (.cells #[a, b, .int .i64 g, .iface ty av] 218)) := (Below.refl _ _).alloc (Nat.le_refl _) _
  generalize w.alloc (.cells #[a, b, .int .i64 g, .iface ty av] 218) = W at g0 hW ⊢
  refine (aloneParts_any _ g' _ hD hg).mono ?_
  rintro e w1 ⟨v1, rfl, hR, hb1⟩
  have g1 := heap_keep g0 hb1
  have hw1 := below_step hW hb1
  clear hW hb1 g0
  go_wp2_with fail
  refine (join_any _ _ _ hR (by simp) (by rw [HS.out]; simp [two8_length])).mono ?_
  rintro e w2 ⟨v2, rfl, hO2, hb2⟩
  rw [HS.out] at hO2
  obtain ⟨k, rfl, hB⟩ := owned_sl hO2
  have g2 := heap_keep g1 hb2
  have hw2 := below_step hw1 hb2
  clear hR hO2 hw1 hb2 g1
  obtain ⟨⟨-, -, -, f3⟩, -⟩ := box4 g2
  have hz2 := lt_of_heap g2
  have hK := raw_at w2 k _ rfl
  have hA2 : Below w2.heap.size w2 (w2.alloc (.cells #[.slice k.1 k.2.1 k.2.2] 27)) := (Below.refl _ _).alloc (Nat.le_refl _) _
  have hB3 := hB.keep (KeepsT.of_below hA2 (Nat.le_refl _))
  have hw3 := below_step hw2 hA2
  clear hB g2 hw2 hA2
  go_wp2_with fail
  generalize w2.alloc (.cells #[.slice k.1 k.2.1 k.2.2] 27) = w3 at hK hB3 hw3 ⊢
  refine (hC.out _).mono ?_
  rintro e w4 ⟨v4, ks, rfl, hR4, hA4, hb4⟩
  have hK4 := hK.keep (KeepsT.of_below hb4 (Nat.le_refl _))
  have hB4 := hB3.keep (KeepsT.of_below hb4 (Nat.le_refl _))
  have hw4 := below_step hw3 hb4
  have hkl : ks.length ≤ 400000 := by rw [hA4.len]; exact hl
  clear hK hB3 hw3 hb4 hC hm hE hA f3
  obtain ⟨x4, y4, rfl, hrest⟩ := id hR4
  clear hrest
  go_wp2_with fail
  have hW5 : Below w4.heap.size w4 (w4.alloc (.cells #[.slice (some ⟨w2.heap.size, 0, none⟩) 1 1, .slice x4 ks.length y4] 53)) := (Below.refl _ _).alloc (Nat.le_refl _) _
  refine (concatR_any [[k], ks] _ _ (rrows2 _ _ _ _ _ _ rfl hK4 hR4) (by simp) (by simp) (by simp; omega)).mono ?_
  rintro e w6 ⟨v6, rfl, hN6, hb6⟩
  have hb46 := below_step hW5 hb6
  have hB6 := hB4.keep (KeepsT.of_below hb46 (Nat.le_refl _))
  have hA6 := hA4.stays hb46
  have hw6 := below_step hw4 hb46
  go_wp2
  go_ret
  exact ⟨_, k :: ks, rfl, by simpa using hN6, .cons k ks _ ls hB6 hA6, hw6⟩

set_option maxRecDepth 100000 in
set_option maxHeartbeats 400000 in
theorem twoPre_any (a b V U : Value) (g g' h' : Int) (ls ms : List (List UInt8)) (w : World) (hV : Pres V ls) (hU : Pres U ms) (hD : Digs V g') (hD' : Digs U h') (hg : 0 ≤ g' ∧ g' ≤ 65535) (hh : 0 ≤ h' ∧ h' ≤ 65535) (hl : ls.length ≤ 400000) (hl' : ms.length ≤ 400000) :
    Calls Tryz.prog 241 #[.agg #[a, b, .int .i64 g, V, U]] w fun e w' => ∃ v' ks, e = .returned v' ∧ RawsAt w' v' ks ∧ AllB w' ks ((1 :: (two8 g' ++ two8 h')) :: (ls ++ ms)) ∧ Below w.heap.size w w' := by
  obtain ⟨ty, av, F, rfl, hm, hE, hA, hC⟩ := hV
  obtain ⟨ty', av', F', rfl, hm', hE', hA', hC'⟩ := hU
  have HS : Hid ([[b8 1], two8 g', two8 h'].flatten = 1 :: (two8 g' ++ two8 h')) := by
    show [[b8 1], two8 g', two8 h'].flatten = 1 :: (two8 g' ++ two8 h')
    simp [b8]
  go_enter Tryz.func241, Tryz.ntmps241
  go_wp2_with fail
  have g0 := heap_new w (.cells #[a, b, .int .i64 g, .iface ty av, .iface ty' av'] 221) _ rfl
  have hW : Below w.heap.size w (w.alloc (.cells #[a, b, .int .i64 g, .iface ty av, .iface ty' av'] 221)) := (Below.refl _ _).alloc (Nat.le_refl _) _
  generalize w.alloc (.cells #[a, b, .int .i64 g, .iface ty av, .iface ty' av'] 221) = W at g0 hW ⊢
  refine (twoParts_any _ _ g' h' _ hD hD' hg hh).mono ?_
  rintro e w1 ⟨v1, rfl, hR, hb1⟩
  have g1 := heap_keep g0 hb1
  have hw1 := below_step hW hb1
  clear hW hb1 g0
  go_wp2_with fail
  refine (join_any _ _ _ hR (by simp) (by rw [HS.out]; simp [two8_length])).mono ?_
  rintro e w2 ⟨v2, rfl, hO2, hb2⟩
  rw [HS.out] at hO2
  obtain ⟨k, rfl, hB⟩ := owned_sl hO2
  have g2 := heap_keep g1 hb2
  have hw2 := below_step hw1 hb2
  clear hR hO2 hw1 hb2 g1
  obtain ⟨⟨-, -, -, f3, f4⟩, -⟩ := box5 g2
  have hz2 := lt_of_heap g2
  clear g2
  go_wp2
  have h0 := And.intro f3 f4
  clear f3 f4
  go_region_held3 (fun u => u.cell? ⟨w.heap.size, 3, none⟩ = some (.iface ty av) ∧ u.cell? ⟨w.heap.size, 4, none⟩ = some (.iface ty' av')) (first | (with_reducible assumption) | exact h0 | (refine cells2 hk4 ?_; (repeat (first | exact Below.refl _ _ | refine Below.drew ?_ | refine Below.alloc ?_ (by first | omega | (simp; omega) | simp) _)); done) | (refine cells2 hk3 ?_; (repeat (first | exact Below.refl _ _ | refine Below.drew ?_ | refine Below.alloc ?_ (by first | omega | (simp; omega) | simp) _)); done) | (refine cells2 h0 ?_; (repeat (first | exact Below.refl _ _ | refine Below.drew ?_ | refine Below.alloc ?_ (by first | omega | (simp; omega) | simp) _)); done) | fail)
    (first
      | (go_at_call 235; obtain ⟨hX, hM⟩ : RawsAt w4 (.slice (some ⟨w2.heap.size, 0, none⟩) 1 1) [k] ∧ RawsAt w4 (.slice x3 ks.length y3) ks := ⟨((((raw_at w2 k _ rfl).keep (keepD _)).keep (KeepsT.of_below hb3 (Nat.le_refl _))).keep (KeepsT.of_below hb4 (Nat.le_refl _))), hR3.keep (KeepsT.of_below hb4 (Nat.le_refl _))⟩; refine (concatR_any [[k], ks, ms'] _ _ (rrows3 _ _ _ _ _ _ _ _ rfl hX hM hR4) (by simp) (by simp) (by simp; omega)).mono ?_; rintro e w6 ⟨v6, rfl, hN6, hb6⟩; have hk6 := cells2 (cells2 hk4 ((Below.refl _ _).alloc (Nat.le_refl _) _)) hb6; have hq6 : Below w4.heap.size w4 w6 := below_step (by repeat (first | exact Below.refl _ _ | refine Below.drew ?_ | refine Below.alloc ?_ (by first | omega | (simp; omega) | simp) _)) hb6)
      | (go_at_call 235; obtain ⟨hX, hM⟩ : RawsAt w4 (.slice (some ⟨w3.heap.size, 0, none⟩) 1 1) [k] ∧ RawsAt w4 (.slice x3 ks.length y3) ks := ⟨(raw_at w3 k _ rfl).keep (KeepsT.of_below hb4 (Nat.le_refl _)), (hR3.keep (keepA _ _)).keep (KeepsT.of_below hb4 (Nat.le_refl _))⟩; refine (concatR_any [[k], ks, ms'] _ _ (rrows3 _ _ _ _ _ _ _ _ rfl hX hM hR4) (by simp) (by simp) (by simp; omega)).mono ?_; rintro e w6 ⟨v6, rfl, hN6, hb6⟩; have hk6 := cells2 (cells2 hk4 ((Below.refl _ _).alloc (Nat.le_refl _) _)) hb6; have hq6 : Below w4.heap.size w4 w6 := below_step (by repeat (first | exact Below.refl _ _ | refine Below.drew ?_ | refine Below.alloc ?_ (by first | omega | (simp; omega) | simp) _)) hb6)
      | (go_at_call 235; have hM : RawsAt w4 (.slice x3 ks.length y3) ks := hR3.keep (KeepsT.of_below hb4 (Nat.le_refl _)); refine (concatR_any [[k], ks, ms'] _ _ (rrows3 _ _ _ _ _ _ _ _ (by simp) (raw_at w4 k _ rfl) (hM.keep (keepA _ _)) (hR4.keep (keepA _ _))) (by simp) (by simp) (by simp; omega)).mono ?_; rintro e w6 ⟨v6, rfl, hN6, hb6⟩; have hk6 := cells2 (cells2 hk4 (((Below.refl _ _).alloc (Nat.le_refl _) _).alloc (by simp) _)) hb6; have hq6 : Below w4.heap.size w4 w6 := below_step (by repeat (first | exact Below.refl _ _ | refine Below.drew ?_ | refine Below.alloc ?_ (by first | omega | (simp; omega) | simp) _)) hb6)
      | (have hk3' := hk3; refine Calls.mono (hC'.out _) ?_; rintro e w4 ⟨v4, ms', rfl, hR4, hA4, hb4⟩; obtain ⟨x4, y4, rfl, hrest⟩ := id hR4; clear hrest; have hk4 := cells2 (by with_reducible assumption) hb4; have hq4 : Below w3.heap.size w3 w4 := below_step (by repeat (first | exact Below.refl _ _ | refine Below.drew ?_ | refine Below.alloc ?_ (by first | omega | (simp; omega) | simp) _)) hb4; have hl4 : ms'.length ≤ 400000 := (by rw [hA4.len]; exact hl'))
      | (refine Calls.mono (hC.out _) ?_; rintro e w3 ⟨v3, ks, rfl, hR3, hA3, hb3⟩; obtain ⟨x3, y3, rfl, hrest⟩ := id hR3; clear hrest; have hk3 := cells2 (by with_reducible assumption) hb3; have hq3 : Below w2.heap.size w2 w3 := below_step (by repeat (first | exact Below.refl _ _ | refine Below.drew ?_ | refine Below.alloc ?_ (by first | omega | (simp; omega) | simp) _)) hb3; have hs3 := hq3.size; have hl3 : ks.length ≤ 400000 := (by rw [hA3.len]; exact hl))
      | fail)
  all_goals go_wp2
  all_goals go_ret
  all_goals
    have hq := below_step (below_step hq3 hq4) hq6
    exact ⟨_, k :: (ks ++ ms'), rfl, by simpa using hN6, .cons k _ _ _ (hB.keep (KeepsT.of_below hq (Nat.le_refl _))) ((hA3.stays (below_step hq4 hq6)).append (hA4.stays hq6)), below_step hw2 hq⟩

theorem pres_any {V : Value} {t : PT} (h : NodeT V t) : t.Bd → t.tS.length ≤ 400000 → Pres V t.tS := by
  induction h with
  | stub a b g => intro _ _; exact ⟨_, _, 246, rfl, fun w => by kernel_rfl, fun w => by kernel_rfl, fun w => by kernel_rfl, fun w => stubPre_any _ _ _ w⟩
  | leaf a b e => intro hb _; exact ⟨_, _, 228, rfl, fun w => by kernel_rfl, fun w => by kernel_rfl, fun w => by kernel_rfl, fun w => leafPre_any _ _ _ e w hb⟩
  | alone a b V c hV ih =>
    intro hb hl
    have hl2 : c.tS.length ≤ 400000 := by simp [PT.tS] at hl; omega
    exact ⟨_, _, 233, rfl, fun w => by kernel_rfl, fun w => by kernel_rfl, fun w => by kernel_rfl, fun w => alonePre_any _ _ V _ c.dS c.tS w (ih hb hl2) hV.digs (PT.Bd.dS hb) hl2⟩
  | two a b V U l r hV hU ihl ihr =>
    intro hb hl
    have hl1 : l.tS.length ≤ 400000 := by simp [PT.tS] at hl; omega
    have hl2 : r.tS.length ≤ 400000 := by simp [PT.tS] at hl; omega
    exact ⟨_, _, 241, rfl, fun w => by kernel_rfl, fun w => by kernel_rfl, fun w => by kernel_rfl, fun w => twoPre_any _ _ V U _ l.dS r.dS l.tS r.tS w (ihl hb.1 hl1) (ihr hb.2 hl2) hV.digs hU.digs (PT.Bd.dS hb.1) (PT.Bd.dS hb.2) hl1 hl2⟩

theorem PT.tS_le (t : PT) : t.tS.length ≤ t.flat.length := by
  induction t with
  | stub g => simp [PT.tS, PT.flat]
  | leaf e => simp [PT.tS, PT.flat]
  | alone c ih => simp [PT.tS, PT.flat]; omega
  | two l r ihl ihr => simp [PT.tS, PT.flat]; omega
theorem PT.cut_le (m : Int) (t : PT) : ∀ d p, (t.cut m d p).flat.length ≤ t.flat.length := by
  induction t with
  | stub g => intro d p; simp [PT.cut]
  | leaf e => intro d p; simp [PT.cut]
  | alone c ih => intro d p; have := ih (d - 1) p; simp [PT.cut, PT.flat]; omega
  | two l r ihl ihr =>
    intro d p
    have h1 := ihl (d - 1) p
    have h2 := ihr (d - 1) (p + pw (d - 1))
    rw [PT.cut]
    split
    · simp [PT.flat]; omega
    · split
      · simp [PT.flat]; omega
      · simp [PT.flat]; omega
theorem PT.Sh.few {k M N : Int} {d p : Nat} {t : PT} (h : PT.Sh k M N d p t) : t.flat.length + 1 ≤ 2 * pw d := by
  induction h with
  | stub d p g _ _ _ => have := pw_pos d; simp [PT.flat]; omega
  | leaf p e _ _ => simp [PT.flat, pw_zero]
  | two d p a b _ _ _ iha ihb => have := pw_succ d; simp [PT.flat]; omega
  | alone d p a _ _ iha => have := pw_succ d; have := pw_pos d; simp [PT.flat]; omega
/-- Every preimage is short. -/
theorem PT.Bd.short {t : PT} (h : t.Bd) : ∀ x ∈ t.tS, x.length ≤ 51 := by
  induction t with
  | stub g => intro x hx; simp [PT.tS] at hx
  | leaf e =>
    intro x hx
    have h0 : e.data.toList.length = e.size := by rw [Array.length_toList]; rfl
    simp [PT.tS] at hx
    subst hx
    have : e.size ≤ 50 := h
    simp only [List.length_cons]
    omega
  | alone c ih =>
    intro x hx
    rcases List.mem_cons.1 hx with rfl | hx
    · simp [two8_length]
    · exact ih h x hx
  | two l r ihl ihr =>
    intro x hx
    rcases List.mem_cons.1 hx with rfl | hx
    · simp [two8_length]
    · rcases List.mem_append.1 hx with hx | hx
      · exact ihl h.1 x hx
      · exact ihr h.2 x hx
end Go.Proofs.YtlndinigbppafaaGreat
