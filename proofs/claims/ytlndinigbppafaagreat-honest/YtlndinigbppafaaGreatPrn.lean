/-
  The walks of the program's pruned trees: the nodes as values, Pruned.
-/
import Derived.Test.YtlndinigbppafaaGreatTreeD
import Derived.Test.YtlndinigbppafaaGreatCutp
import Derived.BigRegion
namespace Go.Proofs.YtlndinigbppafaaGreat
open Go.RowKit

/-- Numbers of two bytes, short events. -/
def PT.Bd : PT → Prop
  | .stub g => 0 ≤ g ∧ g ≤ 65535
  | .leaf e => e.size ≤ 50
  | .alone c => c.Bd
  | .two l r => l.Bd ∧ r.Bd
theorem PT.Sh.bd {k M N : Int} {d p : Nat} {t : PT} (h : PT.Sh k M N d p t) : t.Bd := by
  induction h with
  | stub d p g _ h0 h1 => exact ⟨h0, h1⟩
  | leaf p e _ h => exact h
  | two d p a b _ _ _ iha ihb => exact ⟨iha, ihb⟩
  | alone d p a _ _ iha => exact iha
theorem PT.Bd.cut {t : PT} (h : t.Bd) (m : Int) : ∀ d p, (t.cut m d p).Bd := by
  induction t with
  | stub g => intro d p; exact h
  | leaf e => intro d p; exact h
  | alone c ih => intro d p; exact ih h _ _
  | two l r ihl ihr =>
    intro d p
    rw [PT.cut]
    split
    · exact ihl h.1 _ _
    · split
      · exact ihl h.1 _ _
      · exact ⟨ihl h.1 _ _, ihr h.2 _ _⟩
theorem PT.Bd.dS {t : PT} (h : t.Bd) : 0 ≤ t.dS ∧ t.dS ≤ 65535 := by
  have hs : ∀ l, 0 ≤ sm l ∧ sm l ≤ 65535 := fun l => by have := sm_bd l; omega
  cases t with
  | stub g => exact h
  | leaf e => exact hs _
  | alone c => exact hs _
  | two l r => exact hs _

/-- The value V is the tree t. -/
inductive NodeT : Value → PT → Prop
  | stub (a b : Value) (g : Int) : NodeT (.iface 256 (.agg #[a, b, .int .i64 g])) (.stub g)
  | leaf (a b : Value) (e : ByteArray) : NodeT (.iface 214 (.agg #[a, b, .int .i64 (sm (0 :: e.data.toList)), .string e])) (.leaf e)
  | alone (a b V : Value) (c : PT) : NodeT V c → NodeT (.iface 218 (.agg #[a, b, .int .i64 (sm (2 :: two8 c.dS)), V])) (.alone c)
  | two (a b V U : Value) (l r : PT) : NodeT V l → NodeT U r → NodeT (.iface 221 (.agg #[a, b, .int .i64 (sm (1 :: (two8 l.dS ++ two8 r.dS))), V, U])) (.two l r)

set_option maxRecDepth 100000 in
set_option maxHeartbeats 400000 in
theorem stubDigest_any (a b : Value) (g : Int) (w : World) :
    Calls Tryz.prog 245 #[.agg #[a, b, .int .i64 g]] w fun e w' => e = .returned (.int .i64 g) ∧ Below w.heap.size w w' := by
  go_enter Tryz.func245, Tryz.ntmps245
  go_wp2
  go_ret
  exact ⟨rfl, (Below.refl _ _).alloc (Nat.le_refl _) _⟩
theorem NodeT.digs {V : Value} {t : PT} (h : NodeT V t) : Digs V t.dS := by
  cases h with
  | stub a b g => exact ⟨_, _, 245, rfl, fun w => by kernel_rfl, fun w => by kernel_rfl, fun w => by kernel_rfl, fun w => stubDigest_any a b _ w⟩
  | leaf a b e => exact (NodeV.leaf a b _).digs
  | alone a b V c _ => exact (NodeV.alone a b _).digs
  | two a b V U l r _ _ => exact (NodeV.two a b _ _).digs

/-- The tree t, from the node at p of depth d on. -/
def ptV : PT → Nat → Nat → Value
  | .stub g, d, p => .iface 256 (.agg #[.int .i64 p, .int .i64 d, .int .i64 g])
  | .leaf e, d, p => .iface 214 (.agg #[.int .i64 p, .int .i64 d, .int .i64 (sm (0 :: e.data.toList)), .string e])
  | .alone c, d, p => .iface 218 (.agg #[.int .i64 p, .int .i64 d, .int .i64 (sm (2 :: two8 c.dS)), ptV c (d - 1) p])
  | .two l r, d, p => .iface 221 (.agg #[.int .i64 p, .int .i64 d, .int .i64 (sm (1 :: (two8 l.dS ++ two8 r.dS))), ptV l (d - 1) p, ptV r (d - 1) (p + pw (d - 1))])
theorem ptV_node (t : PT) : ∀ d p, NodeT (ptV t d p) t := by
  induction t with
  | stub g => intro d p; exact .stub _ _ _
  | leaf e => intro d p; exact .leaf _ _ _
  | alone c ih => intro d p; exact .alone _ _ _ _ (ih _ _)
  | two l r ihl ihr => intro d p; exact .two _ _ _ _ _ _ (ihl _ _) (ihr _ _)

/-- Nodes with their room. -/
def NodesC (w : World) (v : Value) (ns : List PN) : Prop := NodesAt w v ns ∧ ∃ ao cap, v = .slice ao ns.length cap ∧ ns.length ≤ cap
theorem NodesC.below {w w' : World} {v : Value} {ns : List PN} (h : NodesC w v ns) (hb : Below w.heap.size w w') : NodesC w' v ns := ⟨h.1.keep (KeepsT.of_below hb (Nat.le_refl _)), h.2⟩
/-- The first node, and the others. -/
theorem NodesC.first {w : World} {v : Value} {x : PN} {ns : List PN} (h : NodesC w v (x :: ns)) : ∃ b o cap, v = .slice (some ⟨b, o, none⟩) (ns.length + 1) cap ∧ b < w.heap.size ∧ ns.length + 1 ≤ cap ∧
    (w.cell? ⟨b, o, none⟩ = some (.int .i64 x.kind) ∧ w.cell? ⟨b, o + 1, none⟩ = some (.int .i64 x.dig) ∧ w.cell? ⟨b, o + 2, none⟩ = some (.string x.ev)) ∧
    (cap ≠ 1 → NodesC w (.slice (some ⟨b, o + 3, none⟩) ns.length (cap - 1)) ns) ∧ (cap = 1 → ns = []) := by
  obtain ⟨h, ao, cap, rfl, hle⟩ := h
  obtain ⟨ao', cap', e, hz, h⟩ := h
  simp only [Value.slice.injEq, true_and] at e
  obtain ⟨rfl, rfl⟩ := e
  obtain ⟨b, o, cur, fr, rfl, hlt, hc⟩ := h (by simp)
  have h0 := hc 0 (by simp)
  simp only [Nat.zero_mul, Nat.add_zero, List.getElem_cons_zero] at h0
  refine ⟨b, o, cap, rfl, lt_of_heap hlt, by simpa using hle, ?_, fun hn => ⟨⟨_, _, rfl, fun h => (by cases h), fun hl => ⟨b, o + 3, cur, fr, rfl, hlt, fun j hj => ?_⟩⟩, _, _, rfl, by simp at hle; omega⟩, fun h1 => ?_⟩
  · rw [cell_of_row _ _ _ _ _ _ hlt, cell_of_row _ _ _ _ _ _ hlt, cell_of_row _ _ _ _ _ _ hlt]
    exact h0
  · have := hc (j + 1) (by simpa using hj)
    rw [show o + 3 + j * 3 = o + (j + 1) * 3 by omega]
    simpa using this
  · subst h1
    exact List.eq_nil_of_length_eq_zero (by rw [List.length_cons] at hle; omega)

/-- What pruned does. -/
def PrunedOk (t : PT) (d p : Nat) : Prop := ∀ (P D : Int) (v : Value) (rest : List PN) (w : World), P = p → D = d → (t.flat ++ rest).length ≤ 100000 → NodesC w v (t.flat ++ rest) →
    Calls Tryz.prog 157 #[.agg #[.int .i64 P, .int .i64 D], v] w fun e w' => ∃ v', e = .returned (.tuple #[ptV t d p, v']) ∧ NodesC w' v' rest ∧ Below w.heap.size w w'

theorem box3 {w : World} {b : Nat} {a0 a1 a2 : Value} {t : TypeId} (h : w.heap[b]? = some (.cells #[a0, a1, a2] t (0, 0))) :
    w.cell? ⟨b, 0, none⟩ = some a0 ∧ w.cell? ⟨b, 1, none⟩ = some a1 ∧ w.cell? ⟨b, 2, none⟩ = some a2 := by
  refine ⟨?_, ?_, ?_⟩
  all_goals (rw [cell_of_row _ _ _ _ _ _ h]; rfl)
theorem rest_ok {W : World} {b o cap : Nat} {rest : List PN} (h : cap ≠ 1 → NodesC W (.slice (some ⟨b, o + 3, none⟩) rest.length (cap - 1)) rest) (h1 : cap = 1 → rest = []) : NodesC W (.slice (if cap = 1 then some ⟨b, o, none⟩ else some ⟨b, o + 3, none⟩) rest.length (cap - 1)) rest := by
  by_cases hc : cap = 1
  · rw [if_pos hc]
    have := h1 hc
    subst this
    exact ⟨⟨_, _, rfl, fun h => (by cases h), fun hl => by simp at hl⟩, _, _, rfl, by simp⟩
  · rw [if_neg hc]
    exact h hc

set_option maxRecDepth 100000 in
set_option maxHeartbeats 1000000 in
theorem pruned_stub (d p : Nat) (g : Int) : PrunedOk (.stub g) d p := by
  intro P D v rest w eP eD hl hv
  subst eP eD
  simp only [PT.flat, List.cons_append, List.nil_append, List.length_cons] at hl hv
  obtain ⟨b, o, cap, rfl, hlt, hle, ⟨c0, c1, c2⟩, hr, hr1⟩ := hv.first
  have hA : Below w.heap.size w (w.alloc (.cells #[.int .i64 p, .int .i64 d] 188)) := (Below.refl _ _).alloc (Nat.le_refl _) _
  have k0 := cell_keep c0 hA
  have k1 := cell_keep c1 hA
  have k2 := cell_keep c2 hA
  have g0 := heap_new w (.cells #[.int .i64 p, .int .i64 d] 188) _ rfl
  have HRR : Hid (NodesC (w.alloc (.cells #[.int .i64 p, .int .i64 d] 188)) (.slice (if cap = 1 then some ⟨b, o, none⟩ else some ⟨b, o + 3, none⟩) rest.length (cap - 1)) rest) := rest_ok (fun h => (hr h).below hA) hr1
  have hsA := hA.size
  clear hr hr1 hv c0 c1 c2
  go_enter Tryz.func157, Tryz.ntmps157
  go_wp2
  generalize w.alloc (.cells #[.int .i64 p, .int .i64 d] 188) = W at *
  have hltW : b < W.heap.size := by omega
  have hneW : ¬ b = W.heap.size := by omega
  have h1i : (1 : Int) ≤ (rest.length : Int) + 1 := by omega
  go_region
  have hb1 : Below W.heap.size W (W.alloc (.cells #[.int .i64 0, .int .i64 g, .string ByteArray.empty] 116)).drew := ((Below.refl _ _).alloc (Nat.le_refl _) _).drew
  have g2 : (W.alloc (.cells #[.int .i64 0, .int .i64 g, .string ByteArray.empty] 116)).drew.heap[W.heap.size]? = some (.cells #[.int .i64 0, .int .i64 g, .string ByteArray.empty] 116 (0, 0)) := heap_new W _ _ rfl
  have g1 := heap_keep g0 hb1
  have HR1 : Hid (NodesC (W.alloc (.cells #[.int .i64 0, .int .i64 g, .string ByteArray.empty] 116)).drew (.slice (if cap = 1 then some ⟨b, o, none⟩ else some ⟨b, o + 3, none⟩) rest.length (cap - 1)) rest) := HRR.out.below hb1
  have hw1 := hA.trans (hb1.mono hsA)
  have hWl := lt_of_heap g2
  generalize (W.alloc (.cells #[.int .i64 0, .int .i64 g, .string ByteArray.empty] 116)).drew = W1 at *
  generalize Value.slice (if cap = 1 then some (⟨b, o, none⟩ : Addr) else some ⟨b, o + 3, none⟩) rest.length (cap - 1) = VR at *
  obtain ⟨s0, s1⟩ := box2 g1
  obtain ⟨n0, n1, n2⟩ := box3 g2
  clear HRR hb1 g0 hA k0 k1 k2 hltW hneW
  go_wp2
  go_ret2
  exact ⟨_, rfl, HR1.out, hw1⟩
set_option maxRecDepth 100000 in
set_option maxHeartbeats 1000000 in
theorem pruned_leaf (p : Nat) (e : ByteArray) (he : e.size ≤ 50) : PrunedOk (.leaf e) 0 p := by
  intro P D v rest w eP eD hl hv
  subst eP eD
  simp only [PT.flat, List.cons_append, List.nil_append, List.length_cons] at hl hv
  obtain ⟨b, o, cap, rfl, hlt, hle, ⟨c0, c1, c2⟩, hr, hr1⟩ := hv.first
  have hA : Below w.heap.size w (w.alloc (.cells #[.int .i64 p, .int .i64 (0 : Nat)] 188)) := (Below.refl _ _).alloc (Nat.le_refl _) _
  have k0 := cell_keep c0 hA
  have k1 := cell_keep c1 hA
  have k2 := cell_keep c2 hA
  have g0 := heap_new w (.cells #[.int .i64 p, .int .i64 (0 : Nat)] 188) _ rfl
  have HRR : Hid (NodesC (w.alloc (.cells #[.int .i64 p, .int .i64 (0 : Nat)] 188)) (.slice (if cap = 1 then some ⟨b, o, none⟩ else some ⟨b, o + 3, none⟩) rest.length (cap - 1)) rest) := rest_ok (fun h => (hr h).below hA) hr1
  have hsA := hA.size
  clear hr hr1 hv c0 c1 c2
  go_enter Tryz.func157, Tryz.ntmps157
  go_wp2
  generalize w.alloc (.cells #[.int .i64 p, .int .i64 (0 : Nat)] 188) = W at *
  have hltW : b < W.heap.size := by omega
  have hneW : ¬ b = W.heap.size := by omega
  have h1i : (1 : Int) ≤ (rest.length : Int) + 1 := by omega
  go_region
  have hb1 : Below W.heap.size W (W.alloc (.cells #[.int .i64 1, .int .i64 0, .string e] 116)).drew := ((Below.refl _ _).alloc (Nat.le_refl _) _).drew
  have g2 : (W.alloc (.cells #[.int .i64 1, .int .i64 0, .string e] 116)).drew.heap[W.heap.size]? = some (.cells #[.int .i64 1, .int .i64 0, .string e] 116 (0, 0)) := heap_new W _ _ rfl
  have g1 := heap_keep g0 hb1
  have HR1 : Hid (NodesC (W.alloc (.cells #[.int .i64 1, .int .i64 0, .string e] 116)).drew (.slice (if cap = 1 then some ⟨b, o, none⟩ else some ⟨b, o + 3, none⟩) rest.length (cap - 1)) rest) := HRR.out.below hb1
  have hw1 := hA.trans (hb1.mono hsA)
  have hWl := lt_of_heap g2
  generalize (W.alloc (.cells #[.int .i64 1, .int .i64 0, .string e] 116)).drew = W1 at *
  generalize Value.slice (if cap = 1 then some (⟨b, o, none⟩ : Addr) else some ⟨b, o + 3, none⟩) rest.length (cap - 1) = VR at *
  obtain ⟨s0, s1⟩ := box2 g1
  obtain ⟨n0, n1, n2⟩ := box3 g2
  clear HRR hb1 g0 hA k0 k1 k2 hltW hneW
  go_wp2_with fail
  refine (newLeaf_any _ _ _ _ (by omega)).mono ?_
  rintro e' w2 ⟨rfl, hb2⟩
  have HR2 : Hid (NodesC w2 VR rest) := HR1.out.below hb2
  go_wp2
  go_ret2
  exact ⟨_, rfl, HR2.out, below_step hw1 hb2⟩

set_option maxRecDepth 100000 in
set_option maxHeartbeats 1000000 in
theorem pruned_alone (d p : Nat) (c : PT) (hd : d + 1 ≤ 15) (hc : c.Bd) (ih : Hid (PrunedOk c d p)) : PrunedOk (.alone c) (d + 1) p := by
  intro P D v rest w eP eD hl hv
  have eD' : D = (d : Int) + 1 := by omega
  subst eP eD'
  clear eD
  simp only [PT.flat, List.cons_append, List.length_cons] at hl hv
  obtain ⟨L, HL⟩ : ∃ L, Hid (c.flat ++ rest = L) := ⟨_, rfl⟩
  rw [HL.out] at hl hv
  have HLL : Hid (L.length ≤ 100000) := (by omega : L.length ≤ 100000)
  obtain ⟨b, o, cap, rfl, hlt, hle, ⟨c0, c1, c2⟩, hr, hr1⟩ := hv.first
  have hA : Below w.heap.size w (w.alloc (.cells #[.int .i64 p, .int .i64 ((d : Int) + 1)] 188)) := (Below.refl _ _).alloc (Nat.le_refl _) _
  have k0 := cell_keep c0 hA
  have k1 := cell_keep c1 hA
  have k2 := cell_keep c2 hA
  have g0 := heap_new w (.cells #[.int .i64 p, .int .i64 ((d : Int) + 1)] 188) _ rfl
  have HRR : Hid (NodesC (w.alloc (.cells #[.int .i64 p, .int .i64 ((d : Int) + 1)] 188)) (.slice (if cap = 1 then some ⟨b, o, none⟩ else some ⟨b, o + 3, none⟩) L.length (cap - 1)) L) := rest_ok (fun h => (hr h).below hA) hr1
  have hsA := hA.size
  clear hr hr1 hv c0 c1 c2
  go_enter Tryz.func157, Tryz.ntmps157
  go_wp2
  generalize w.alloc (.cells #[.int .i64 p, .int .i64 ((d : Int) + 1)] 188) = W at *
  have hltW : b < W.heap.size := by omega
  have hneW : ¬ b = W.heap.size := by omega
  have h1i : (1 : Int) ≤ (L.length : Int) + 1 := by omega
  go_region
  have hb1 : Below W.heap.size W (W.alloc (.cells #[.int .i64 3, .int .i64 0, .string ByteArray.empty] 116)).drew := ((Below.refl _ _).alloc (Nat.le_refl _) _).drew
  have g2 : (W.alloc (.cells #[.int .i64 3, .int .i64 0, .string ByteArray.empty] 116)).drew.heap[W.heap.size]? = some (.cells #[.int .i64 3, .int .i64 0, .string ByteArray.empty] 116 (0, 0)) := heap_new W _ _ rfl
  have g1 := heap_keep g0 hb1
  have HR1 : Hid (NodesC (W.alloc (.cells #[.int .i64 3, .int .i64 0, .string ByteArray.empty] 116)).drew (.slice (if cap = 1 then some ⟨b, o, none⟩ else some ⟨b, o + 3, none⟩) L.length (cap - 1)) L) := HRR.out.below hb1
  have hw1 := hA.trans (hb1.mono hsA)
  have hWl := lt_of_heap g2
  generalize (W.alloc (.cells #[.int .i64 3, .int .i64 0, .string ByteArray.empty] 116)).drew = W1 at *
  generalize Value.slice (if cap = 1 then some (⟨b, o, none⟩ : Addr) else some ⟨b, o + 3, none⟩) L.length (cap - 1) = VR at *
  obtain ⟨s0, s1⟩ := box2 g1
  obtain ⟨n0, n1, n2⟩ := box3 g2
  clear HRR hb1 g0 hA k0 k1 k2 hltW hneW
  go_wp2_with fail
  refine (strLeft_any p d _ _ rfl rfl _ (by omega)).mono ?_
  rintro e w2 ⟨rfl, hb2⟩
  have HR2 : Hid (NodesC w2 VR L) := HR1.out.below hb2
  have q1 := heap_keep g1 hb2
  have q2 := heap_keep g2 hb2
  have hw2 := below_step hw1 hb2
  clear HR1 g1 g2 hw1 hb2 s0 s1 n0 n1 n2
  go_wp2_with fail
  refine (ih.out _ _ VR rest w2 rfl rfl (by rw [HL.out]; exact HLL.out) (by rw [HL.out]; exact HR2.out)).mono ?_
  rintro e w3 ⟨v3, rfl, hN3, hb3⟩
  have HR3 : Hid (NodesC w3 v3 rest) := hN3
  have u1 := heap_keep q1 hb3
  have u2 := heap_keep q2 hb3
  have hw3 := below_step hw2 hb3
  clear HR2 q1 q2 hw2 hb3 hN3 ih HL HLL
  obtain ⟨s0, s1⟩ := box2 u1
  obtain ⟨n0, n1, n2⟩ := box3 u2
  go_wp2_with fail
  refine (newAlone_dig _ _ c.dS (ptV c d p) _ (ptV_node c d p).digs hc.dS).mono ?_
  rintro e w4 ⟨rfl, hb4⟩
  have HR4 : Hid (NodesC w4 v3 rest) := HR3.out.below hb4
  clear HR3 s0 s1 n0 n1 n2
  go_wp2
  go_ret2
  exact ⟨_, rfl, HR4.out, below_step hw3 hb4⟩
set_option maxRecDepth 100000 in
set_option maxHeartbeats 1000000 in
theorem pruned_two (d p : Nat) (c r : PT) (hd : d + 1 ≤ 15) (hp : p + pw d ≤ 60000) (hc : c.Bd) (hcr : r.Bd) (ih : Hid (PrunedOk c d p)) (ih2 : Hid (PrunedOk r d (p + pw d))) : PrunedOk (.two c r) (d + 1) p := by
  intro P D v rest w eP eD hl hv
  have eD' : D = (d : Int) + 1 := by omega
  subst eP eD'
  clear eD
  simp only [PT.flat, List.cons_append, List.append_assoc, List.length_cons] at hl hv
  obtain ⟨L, HL⟩ : ∃ L, Hid (c.flat ++ (r.flat ++ rest) = L) := ⟨_, rfl⟩
  rw [HL.out] at hl hv
  have HLL : Hid (L.length ≤ 100000) := (by omega : L.length ≤ 100000)
  obtain ⟨b, o, cap, rfl, hlt, hle, ⟨c0, c1, c2⟩, hr, hr1⟩ := hv.first
  have hA : Below w.heap.size w (w.alloc (.cells #[.int .i64 p, .int .i64 ((d : Int) + 1)] 188)) := (Below.refl _ _).alloc (Nat.le_refl _) _
  have k0 := cell_keep c0 hA
  have k1 := cell_keep c1 hA
  have k2 := cell_keep c2 hA
  have g0 := heap_new w (.cells #[.int .i64 p, .int .i64 ((d : Int) + 1)] 188) _ rfl
  have HRR : Hid (NodesC (w.alloc (.cells #[.int .i64 p, .int .i64 ((d : Int) + 1)] 188)) (.slice (if cap = 1 then some ⟨b, o, none⟩ else some ⟨b, o + 3, none⟩) L.length (cap - 1)) L) := rest_ok (fun h => (hr h).below hA) hr1
  have hsA := hA.size
  clear hr hr1 hv c0 c1 c2
  go_enter Tryz.func157, Tryz.ntmps157
  go_wp2
  generalize w.alloc (.cells #[.int .i64 p, .int .i64 ((d : Int) + 1)] 188) = W at *
  have hltW : b < W.heap.size := by omega
  have hneW : ¬ b = W.heap.size := by omega
  have h1i : (1 : Int) ≤ (L.length : Int) + 1 := by omega
  go_region
  have hb1 : Below W.heap.size W (W.alloc (.cells #[.int .i64 2, .int .i64 0, .string ByteArray.empty] 116)).drew := ((Below.refl _ _).alloc (Nat.le_refl _) _).drew
  have g2 : (W.alloc (.cells #[.int .i64 2, .int .i64 0, .string ByteArray.empty] 116)).drew.heap[W.heap.size]? = some (.cells #[.int .i64 2, .int .i64 0, .string ByteArray.empty] 116 (0, 0)) := heap_new W _ _ rfl
  have g1 := heap_keep g0 hb1
  have HR1 : Hid (NodesC (W.alloc (.cells #[.int .i64 2, .int .i64 0, .string ByteArray.empty] 116)).drew (.slice (if cap = 1 then some ⟨b, o, none⟩ else some ⟨b, o + 3, none⟩) L.length (cap - 1)) L) := HRR.out.below hb1
  have hw1 := hA.trans (hb1.mono hsA)
  have hWl := lt_of_heap g2
  generalize (W.alloc (.cells #[.int .i64 2, .int .i64 0, .string ByteArray.empty] 116)).drew = W1 at *
  generalize Value.slice (if cap = 1 then some (⟨b, o, none⟩ : Addr) else some ⟨b, o + 3, none⟩) L.length (cap - 1) = VR at *
  obtain ⟨s0, s1⟩ := box2 g1
  obtain ⟨n0, n1, n2⟩ := box3 g2
  clear HRR hb1 g0 hA k0 k1 k2 hltW hneW
  go_wp2_with fail
  refine (strLeft_any p d _ _ rfl rfl _ (by omega)).mono ?_
  rintro e w2 ⟨rfl, hb2⟩
  have HR2 : Hid (NodesC w2 VR L) := HR1.out.below hb2
  have q1 := heap_keep g1 hb2
  have q2 := heap_keep g2 hb2
  have hw2 := below_step hw1 hb2
  clear HR1 g1 g2 hw1 hb2 s0 s1 n0 n1 n2
  go_wp2_with fail
  refine (ih.out _ _ VR (r.flat ++ rest) w2 rfl rfl (by rw [HL.out]; exact HLL.out) (by rw [HL.out]; exact HR2.out)).mono ?_
  rintro e w3 ⟨v3, rfl, hN3, hb3⟩
  have HR3 : Hid (NodesC w3 v3 (r.flat ++ rest)) := hN3
  have u1 := heap_keep q1 hb3
  have u2 := heap_keep q2 hb3
  have hw3 := below_step hw2 hb3
  clear HR2 q1 q2 hw2 hb3 hN3 ih
  obtain ⟨s0, s1⟩ := box2 u1
  obtain ⟨n0, n1, n2⟩ := box3 u2
  have HPR : Hid (((p + pw d : Nat) : Int) = (p : Int) + (pw d : Int)) := (by omega : ((p + pw d : Nat) : Int) = (p : Int) + (pw d : Int))
  have HRL : Hid ((r.flat ++ rest).length ≤ 100000) := by
    show (r.flat ++ rest).length ≤ 100000
    have h1 := HLL.out
    rw [← HL.out, List.length_append] at h1
    omega
  clear HL HLL
  go_wp2_with fail
  refine (strRight_any p d _ _ rfl rfl _ (by omega) (by omega)).mono ?_
  rintro e w4 ⟨rfl, hb4⟩
  have HR4 : Hid (NodesC w4 v3 (r.flat ++ rest)) := HR3.out.below hb4
  have x1 := heap_keep u1 hb4
  have hw4 := below_step hw3 hb4
  clear HR3 u1 u2 hw3 hb4 s0 s1 n0 n1 n2
  go_wp2_with fail
  refine (ih2.out _ _ v3 rest w4 (by first | rfl | omega) rfl HRL.out HR4.out).mono ?_
  rintro e w5 ⟨v5, rfl, hN5, hb5⟩
  have HR5 : Hid (NodesC w5 v5 rest) := hN5
  have y1 := heap_keep x1 hb5
  have hw5 := below_step hw4 hb5
  clear HR4 x1 hw4 hb5 hN5 ih2
  obtain ⟨s0, s1⟩ := box2 y1
  go_wp2_with fail
  refine (newTwo_dig _ _ c.dS r.dS (ptV c d p) (ptV r d (p + pw d)) _ (ptV_node c d p).digs (ptV_node r d (p + pw d)).digs hc.dS hcr.dS).mono ?_
  rintro e w6 ⟨rfl, hb6⟩
  have HR6 : Hid (NodesC w6 v5 rest) := HR5.out.below hb6
  clear HR5 s0 s1 y1
  go_wp2
  go_ret2
  exact ⟨_, rfl, HR6.out, below_step hw5 hb6⟩

theorem pruned_any {k M N : Int} {d p : Nat} {t : PT} (h : PT.Sh k M N d p t) : d ≤ 15 → p + pw d ≤ 60000 → PrunedOk t d p := by
  induction h with
  | stub d p g _ _ _ => intro _ _; exact pruned_stub d p g
  | leaf p e _ he => intro _ _; exact pruned_leaf p e he
  | two d p a b _ ha hb iha ihb =>
    intro h1 h2
    have h3 := pw_succ d
    exact pruned_two d p a b h1 (by omega) ha.bd hb.bd (iha (by omega) (by omega)) (ihb (by omega) (by omega))
  | alone d p a _ ha iha =>
    intro h1 h2
    have h3 := pw_succ d
    exact pruned_alone d p a h1 ha.bd (iha (by omega) (by omega))

set_option maxRecDepth 100000 in
set_option maxHeartbeats 400000 in
theorem Pruned_any {k M : Int} {n : Nat} {t : PT} (h : PT.Sh k M n (dep n) 0 t) (v : Value) (w : World) (h1 : 1 ≤ n) (hn : n ≤ 500) (hl : t.flat.length ≤ 100000) (hv : NodesC w v t.flat) :
    Calls Tryz.prog 123 #[.int .i64 n, v] w fun e w' => e = .returned (ptV t (dep n) 0) ∧ Below w.heap.size w w' := by
  have hd := dep_le n 9 (by rw [pw_9]; omega)
  have hpw : pw (dep n) ≤ 512 := pw_le (e := 9) hd
  have HV : Hid (NodesC w v (t.flat ++ [])) := by show NodesC w v (t.flat ++ []); rw [List.append_nil]; exact hv
  clear hv
  go_enter Tryz.func123, Tryz.ntmps123
  go_wp2_with fail
  refine (whole_any n _ h1 (by omega)).mono ?_
  rintro e w1 ⟨rfl, hb1⟩
  have HV1 : Hid (NodesC w1 v (t.flat ++ [])) := HV.out.below hb1
  go_wp2_with fail
  refine (pruned_any h (by omega) (by omega) _ _ v [] w1 rfl rfl (by simpa using hl) HV1.out).mono ?_
  rintro e w2 ⟨v2, rfl, -, hb2⟩
  go_wp2
  go_ret
  exact ⟨rfl, below_step hb1 hb2⟩
end Go.Proofs.YtlndinigbppafaaGreat
