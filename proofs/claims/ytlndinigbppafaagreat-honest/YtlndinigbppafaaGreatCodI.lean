/-
  The walk of the program's Decode.
-/
import Derived.Test.YtlndinigbppafaaGreatCodF
import Derived.Test.YtlndinigbppafaaGreatScanM
namespace Go.Proofs.YtlndinigbppafaaGreat
open Go.RowKit

set_option maxRecDepth 100000 in
set_option maxHeartbeats 1000000 in
theorem read_long (v : Value) (l : List UInt8) (w : World) (hv : BytesC w v l) (hl : 4000 < l.length) :
    Calls Tryz.prog 94 #[v] w fun e w' => e = .returned (.tuple #[msgW 0 0 0 0 (.slice none 0 0), .agg #[.int .i64 2, .int .i64 0]]) ∧ Below w.heap.size w w' := by
  unfold msgW
  obtain ⟨_, ao, cap, rfl, hlc, hcm⟩ := hv
  go_enter Tryz.func94, Tryz.ntmps94
  go_wp2
  all_goals go_returns
  all_goals exact ⟨rfl, by go_grown⟩

theorem owns_cap {w : World} {base size n c : Nat} {e : TypeId} {ao : Option Addr} {xs : List Value} (h : w.ownsRow base e size (.slice ao n c) n xs) : n ≤ c := by
  rcases h.2 with ⟨_, h0⟩ | ⟨g, cap, cur, e, _, _, h1, _⟩
  · omega
  · simp only [Value.slice.injEq] at e
    omega
/-- What reading a message gives. -/
def ReadD (l : List UInt8) (w : World) (e : Ending) (w' : World) : Prop :=
  Below w.heap.size w w' ∧ match decS l with
  | .error (f, q) => f ≠ 0 ∧ ∃ (k M N R : Int) (ao : Option Addr) (n c : Nat), e = .returned (.tuple #[.agg #[.int .i64 k, .int .i64 M, .int .i64 N, .int .i64 R, .slice ao n c], .agg #[.int .i64 f, .int .i64 q]])
  | .ok x => ∃ (ao : Option Addr) (c : Nat), e = .returned (.tuple #[.agg #[.int .i64 x.kind, .int .i64 x.m, .int .i64 x.n, .int .i64 x.root, .slice ao x.tree.length c], .agg #[.int .i64 0, .int .i64 0]]) ∧ NodesAt w' (.slice ao x.tree.length c) x.tree ∧ x.tree.length ≤ c

/-- What stands between the steps of read. -/
structure RS (w u : World) (v : Value) (l : List UInt8) (G : Nat) (k M N R : Int) (V : Value) (f q : Int) (a : Nat) : Prop where
  zb : MsgZ u w.heap.size
  xb : u.heap[w.heap.size + 1]? = some (.cells #[.int .i64 0, .int .i64 0] 158 (0, 0))
  mg : u.heap[G]? = some (.cells #[.int .i64 k, .int .i64 M, .int .i64 N, .int .i64 R, V] 63 (0, 0))
  wr : u.heap[G + 1]? = some (.cells #[.int .i64 f, .int .i64 q] 158 (0, 0))
  rd : RdAt u (G + 1 + 1) v l a
  bl : Below w.heap.size w u
  hG : w.heap.size + 1 < G
theorem RS.below {w u u' : World} {v : Value} {l : List UInt8} {G : Nat} {k M N R : Int} {V : Value} {f q : Int} {a : Nat} (h : RS w u v l G k M N R V f q a) (hb : Below u.heap.size u u') : RS w u' v l G k M N R V f q a :=
  ⟨h.zb.below hb, by rw [hb.block _ (lt_of_heap h.xb)]; exact h.xb, by rw [hb.block _ (lt_of_heap h.mg)]; exact h.mg, by rw [hb.block _ (lt_of_heap h.wr)]; exact h.wr, h.rd.below hb, h.bl.trans (hb.mono h.bl.size), h.hG⟩
theorem RS.frame {w u u' : World} {v : Value} {l : List UInt8} {G : Nat} {k M N R : Int} {V : Value} {f q : Int} {a a' : Nat} (h : RS w u v l G k M N R V f q a) (hF : Frame2 u u' (G + 1 + 1) none) (hr : RdAt u' (G + 1 + 1) v l a') : RS w u' v l G k M N R V f q a' :=
  ⟨by unfold MsgZ; rw [hF.block _ (lt_of_heap h.zb) (by have := h.hG; omega) (by simp)]; exact h.zb, by rw [hF.block _ (lt_of_heap h.xb) (by have := h.hG; omega) (by simp)]; exact h.xb, by rw [hF.block _ (lt_of_heap h.mg) (by omega) (by simp)]; exact h.mg, by rw [hF.block _ (lt_of_heap h.wr) (by omega) (by simp)]; exact h.wr, hr,
    h.bl.trans (hF.below (by have := h.hG; omega) (fun k e => by cases e) h.bl.size), h.hG⟩
/-- The tree and the fault are stored. -/
theorem RS.put {w u : World} {v : Value} {l : List UInt8} {G : Nat} {k M N R : Int} {V : Value} {f q : Int} {a : Nat} (h : RS w u v l G k M N R V f q a) (V' : Value) (f' q' : Int) :
    RS w (((u.setCell ⟨G, 4, none⟩ V').setCell ⟨G + 1, 0, none⟩ (.int .i64 f')).setCell ⟨G + 1, 1, none⟩ (.int .i64 q')) v l G k M N R V' f' q' a := by
  have hG := h.hG
  have hb : Below w.heap.size w (((u.setCell ⟨G, 4, none⟩ V').setCell ⟨G + 1, 0, none⟩ (.int .i64 f')).setCell ⟨G + 1, 1, none⟩ (.int .i64 q')) := ((h.bl.setCell (show w.heap.size ≤ G by omega) _).setCell (show w.heap.size ≤ G + 1 by omega) _).setCell (show w.heap.size ≤ G + 1 by omega) _
  refine ⟨?_, ?_, ?_, ?_, ⟨?_, ((h.rd.2.1.set h.mg (by decide)).set (j := 0) (t := 158) (fr := (0, 0)) (by rw [Below.heap_setCell _ _ _ _ (show G + 1 ≠ G by omega)]; exact h.wr) (by decide)).set (j := 1) (t := 158) (fr := (0, 0)) (cur := #[.int .i64 f', .int .i64 q]) (by simp [World.setCell, Array.getElem?_modify, h.wr]) (by decide), h.rd.2.2⟩, hb, hG⟩
  · unfold MsgZ
    rw [Below.heap_setCell _ _ _ _ (show w.heap.size ≠ G + 1 by omega), Below.heap_setCell _ _ _ _ (show w.heap.size ≠ G + 1 by omega), Below.heap_setCell _ _ _ _ (show w.heap.size ≠ G by omega)]
    exact h.zb
  · rw [Below.heap_setCell _ _ _ _ (show w.heap.size + 1 ≠ G + 1 by omega), Below.heap_setCell _ _ _ _ (show w.heap.size + 1 ≠ G + 1 by omega), Below.heap_setCell _ _ _ _ (show w.heap.size + 1 ≠ G by omega)]
    exact h.xb
  · rw [Below.heap_setCell _ _ _ _ (show G ≠ G + 1 by omega), Below.heap_setCell _ _ _ _ (show G ≠ G + 1 by omega)]
    simp [World.setCell, Array.getElem?_modify, h.mg]
  · simp [World.setCell, Array.getElem?_modify, h.wr]
  · rw [Below.heap_setCell _ _ _ _ (show G + 1 + 1 ≠ G + 1 by omega), Below.heap_setCell _ _ _ _ (show G + 1 + 1 ≠ G + 1 by omega), Below.heap_setCell _ _ _ _ (show G + 1 + 1 ≠ G by omega)]
    exact h.rd.1
/-- A fault is stored. -/
theorem RS.putF {w u : World} {v : Value} {l : List UInt8} {G : Nat} {k M N R : Int} {V : Value} {f q : Int} {a : Nat} (h : RS w u v l G k M N R V f q a) (f' q' : Int) :
    RS w ((u.setCell ⟨G + 1, 0, none⟩ (.int .i64 f')).setCell ⟨G + 1, 1, none⟩ (.int .i64 q')) v l G k M N R V f' q' a := by
  have hG := h.hG
  have hb : Below w.heap.size w ((u.setCell ⟨G + 1, 0, none⟩ (.int .i64 f')).setCell ⟨G + 1, 1, none⟩ (.int .i64 q')) := (h.bl.setCell (show w.heap.size ≤ G + 1 by omega) _).setCell (show w.heap.size ≤ G + 1 by omega) _
  refine ⟨?_, ?_, ?_, ?_, ⟨?_, (h.rd.2.1.set (j := 0) h.wr (by decide)).set (j := 1) (t := 158) (fr := (0, 0)) (cur := #[.int .i64 f', .int .i64 q]) (by simp [World.setCell, Array.getElem?_modify, h.wr]) (by decide), h.rd.2.2⟩, hb, hG⟩
  · unfold MsgZ
    rw [Below.heap_setCell _ _ _ _ (show w.heap.size ≠ G + 1 by omega), Below.heap_setCell _ _ _ _ (show w.heap.size ≠ G + 1 by omega)]
    exact h.zb
  · rw [Below.heap_setCell _ _ _ _ (show w.heap.size + 1 ≠ G + 1 by omega), Below.heap_setCell _ _ _ _ (show w.heap.size + 1 ≠ G + 1 by omega)]
    exact h.xb
  · rw [Below.heap_setCell _ _ _ _ (show G ≠ G + 1 by omega), Below.heap_setCell _ _ _ _ (show G ≠ G + 1 by omega)]
    exact h.mg
  · simp [World.setCell, Array.getElem?_modify, h.wr]
  · rw [Below.heap_setCell _ _ _ _ (show G + 1 + 1 ≠ G + 1 by omega), Below.heap_setCell _ _ _ _ (show G + 1 + 1 ≠ G + 1 by omega)]
    exact h.rd.1
theorem RS.cells {w u : World} {v : Value} {l : List UInt8} {G : Nat} {k M N R : Int} {V : Value} {f q : Int} {a : Nat} (h : RS w u v l G k M N R V f q a) :
    (u.cell? ⟨G, 0, none⟩ = some (.int .i64 k) ∧ u.cell? ⟨G, 1, none⟩ = some (.int .i64 M) ∧ u.cell? ⟨G, 2, none⟩ = some (.int .i64 N) ∧ u.cell? ⟨G, 3, none⟩ = some (.int .i64 R) ∧ u.cell? ⟨G, 4, none⟩ = some V ∧ u.frozen? ⟨G, 4, none⟩ = false) ∧
    (u.cell? ⟨G + 1, 0, none⟩ = some (.int .i64 f) ∧ u.cell? ⟨G + 1, 1, none⟩ = some (.int .i64 q) ∧ u.frozen? ⟨G + 1, 0, none⟩ = false ∧ u.frozen? ⟨G + 1, 1, none⟩ = false) ∧
    (u.cell? ⟨G + 1 + 1, 0, none⟩ = some v ∧ u.cell? ⟨G + 1 + 1, 1, none⟩ = some (.int .i64 a)) ∧ G + 1 + 1 < u.heap.size := by
  refine ⟨⟨?_, ?_, ?_, ?_, ?_, ?_⟩, ⟨?_, ?_, ?_, ?_⟩, ⟨?_, ?_⟩, lt_of_heap h.rd.1⟩
  all_goals first
    | (rw [cell_of_row _ _ _ _ _ _ h.mg]; rfl)
    | (rw [cell_of_row _ _ _ _ _ _ h.wr]; rfl)
    | (rw [cell_of_row _ _ _ _ _ _ h.rd.1]; rfl)
    | (unfold World.frozen?; rw [h.mg]; simp; done)
    | (unfold World.frozen?; rw [h.wr]; simp; done)
theorem rs_begin (w w1 : World) (v : Value) (l : List UInt8) (k M N R : Int) (a : Nat) (hZ : MsgZ w1 w.heap.size) (hX : w1.heap[w.heap.size + 1]? = some (.cells #[.int .i64 0, .int .i64 0] 158 (0, 0))) (hb : Below w.heap.size w w1) (hv : BytesC w1 v l) :
    RS w (((w1.alloc (.cells #[.int .i64 k, .int .i64 M, .int .i64 N, .int .i64 R, .slice none 0 0] 63)).alloc (.cells #[.int .i64 0, .int .i64 0] 158)).alloc (.cells #[v, .int .i64 a] 195)) v l w1.heap.size k M N R (.slice none 0 0) 0 0 a := by
  have hA : Below w1.heap.size w1 (((w1.alloc (.cells #[.int .i64 k, .int .i64 M, .int .i64 N, .int .i64 R, .slice none 0 0] 63)).alloc (.cells #[.int .i64 0, .int .i64 0] 158)).alloc (.cells #[v, .int .i64 a] 195)) := (((Below.refl _ _).alloc (Nat.le_refl _) _).alloc (by simp) _).alloc (by simp; omega) _
  have hx1 := lt_of_heap hX
  exact ⟨hZ.below hA, by rw [hA.block _ hx1]; exact hX, heap_old _ _ _ _ (heap_old _ _ _ _ (heap_new _ _ _ rfl)), heap_old _ _ _ _ (heap_new _ _ _ (by simp)), ⟨heap_new _ _ _ (by simp), hv.below hA⟩, hb.trans (hA.mono hb.size), hx1⟩

set_option maxRecDepth 100000 in
set_option maxHeartbeats 2000000 in
theorem read_any (v : Value) (l : List UInt8) (w : World) (hv : BytesC w v l) (hl : l.length ≤ 4000) :
    Calls Tryz.prog 94 #[v] w fun e w' => ReadD l w e w' := by
  have hv0 := hv
  obtain ⟨_, ao, cap, rfl, hlc, hcm⟩ := hv0
  go_enter Tryz.func94, Tryz.ntmps94
  go_wp2_with fail
  refine (head_dec _ l _ (hv.below (((Below.refl _ _).alloc (Nat.le_refl _) _).alloc (by simp) _)) hl).mono ?_
  rintro e w1 ⟨hH, hb1⟩
  obtain ⟨hZ, hX, hb⟩ := boxes_new w w1 hb1
  have hv1 := (hv.below (((Below.refl _ _).alloc (Nat.le_refl _) _).alloc (by simp) _)).below hb1
  have hs1 := hb.size
  have hx1 := lt_of_heap hX
  clear hb1
  rcases hH with ⟨f, q, k, M, N, R, p, hf, rfl, hd⟩ | ⟨k, M, N, R, a, hk, hN1, hN2, ha, rfl, hd⟩
  · have HD : Hid _ := hd
    have hfn : (f != 0) = true := by rw [bne, beq_eq_false_iff_ne.2 hf]; rfl
    clear hd hv hv1
    have RS0 := rs_begin w w1 (.slice none 0 0) [] k M N R 0 hZ hX hb ⟨⟨none, 0, rfl, fun _ => rfl, fun h => (by simp at h)⟩, none, 0, rfl, by simp, by unfold maxLen; omega⟩
    clear RS0
    go_wp2
    have hA : Below w1.heap.size w1 ((w1.alloc (.cells #[.int .i64 k, .int .i64 M, .int .i64 N, .int .i64 R, .slice none 0 0] 63)).alloc (.cells #[.int .i64 f, .int .i64 q] 158)) := ((Below.refl _ _).alloc (Nat.le_refl _) _).alloc (by simp) _
    have p0 : ((w1.alloc (.cells #[.int .i64 k, .int .i64 M, .int .i64 N, .int .i64 R, .slice none 0 0] 63)).alloc (.cells #[.int .i64 f, .int .i64 q] 158)).cell? ⟨w1.heap.size + 1, 0, none⟩ = some (.int .i64 f) := by
      rw [cell_of_row _ _ _ _ _ _ (heap_new _ _ _ (by simp))]; rfl
    have p1 : ((w1.alloc (.cells #[.int .i64 k, .int .i64 M, .int .i64 N, .int .i64 R, .slice none 0 0] 63)).alloc (.cells #[.int .i64 f, .int .i64 q] 158)).cell? ⟨w1.heap.size + 1, 1, none⟩ = some (.int .i64 q) := by
      rw [cell_of_row _ _ _ _ _ _ (heap_new _ _ _ (by simp))]; rfl
    have hZ2 := hZ.below hA
    have hX2 : ((w1.alloc (.cells #[.int .i64 k, .int .i64 M, .int .i64 N, .int .i64 R, .slice none 0 0] 63)).alloc (.cells #[.int .i64 f, .int .i64 q] 158)).heap[w.heap.size + 1]? = some (.cells #[.int .i64 0, .int .i64 0] 158 (0, 0)) := by rw [hA.block _ hx1]; exact hX
    have hbl := hb.trans (hA.mono hb.size)
    clear hA hZ hX
    generalize (w1.alloc (.cells #[.int .i64 k, .int .i64 M, .int .i64 N, .int .i64 R, .slice none 0 0] 63)).alloc (.cells #[.int .i64 f, .int .i64 q] 158) = u at p0 p1 hZ2 hX2 hbl ⊢
    have hn1 : ¬ w.heap.size = w1.heap.size + 1 := by omega
    have hn2 : ¬ w.heap.size + 1 = w1.heap.size + 1 := by omega
    have hn3 : ¬ w.heap.size = w1.heap.size := by omega
    obtain ⟨x0, x1, x2, x3, x4, r0, r1, r2, r3, r4, rB⟩ := MsgZ.cells hZ2
    obtain ⟨y0, y1, s0, s1⟩ := FaultZ.cells hX2
    go_region_held3 (fun w' => w'.cell? ⟨w1.heap.size + 1, 0, none⟩ = some (.int .i64 f) ∧ w'.cell? ⟨w1.heap.size + 1, 1, none⟩ = some (.int .i64 q)) (go_keep) (fail)
    all_goals go_wp2
    all_goals refine bodyPost_ret (v := .tuple #[.agg #[.int .i64 0, .int .i64 0, .int .i64 0, .int .i64 0, .slice none 0 0], .agg #[.int .i64 f, .int .i64 q]]) (by simp [results, Tryz.results94, go_sem, x0, x1, x2, x3, x4, y0, y1]) rfl ?_
    all_goals refine ⟨by go_grown, ?_⟩
    all_goals rw [HD.out]
    all_goals exact ⟨hf, _, _, _, _, _, _, _, rfl⟩
  · have HD : Hid _ := hd
    clear hd hv
    have rs := rs_begin w w1 _ l k M N R a hZ hX hb hv1
    have hx2 := lt_of_heap hX
    clear hZ hX hb hv1
    go_wp2_with fail
    generalize ((w1.alloc (.cells #[.int .i64 k, .int .i64 M, .int .i64 N, .int .i64 R, .slice none 0 0] 63)).alloc (.cells #[.int .i64 0, .int .i64 0] 158)).alloc (.cells #[.slice ao l.length cap, .int .i64 a] 195) = u3 at rs ⊢
    generalize w1.heap.size = G at rs hx2 hx1 hs1 ⊢
    refine (kindsOf_any k M N R _ _ hk hN1 hN2).mono ?_
    rintro e u4 ⟨V4, rfl, hI4, hb4⟩
    have rs4 := rs.below hb4
    clear rs hb4
    go_wp2_with fail
    refine (nodes_any u4 (G + 1 + 1) _ l a V4 (kindsM k M N) rs4.rd ha hl hI4 (kindsM_small k M N) (kindsM_len k M N hN2)).mono ?_
    rintro e u5 ⟨hF5, hout⟩
    cases hrd : rdL l (kindsM k M N) a with
    | error y =>
      obtain ⟨f, q⟩ := y
      rw [hrd] at hout
      obtain ⟨hf, rfl, a5, hR5⟩ := hout
      have rs5 := rs4.frame hF5 hR5
      have hff : (f == 0) = false := beq_eq_false_iff_ne.2 hf
      obtain ⟨⟨m0, m1, m2, m3, m4, m5⟩, ⟨n0, n1, n2, n3⟩, ⟨d0, d1⟩, hsz⟩ := rs5.cells
      have rs6 := rs5.put (.slice none 0 0) f q
      have HB : Hid (decS l = .error (f, q)) := by show _ = _; rw [HD.out, decK, hrd]
      clear HD hrd
      go_wp2
      clear m0 m1 m2 m3 m4 m5 n0 n1 n2 n3 d0 d1 hsz
      generalize ((u5.setCell ⟨G, 4, none⟩ (.slice none 0 0)).setCell ⟨G + 1, 0, none⟩ (.int .i64 f)).setCell ⟨G + 1, 1, none⟩ (.int .i64 q) = u6 at rs6 ⊢
      obtain ⟨⟨m0, m1, m2, m3, m4, m5⟩, ⟨n0, n1, n2, n3⟩, ⟨d0, d1⟩, hsz⟩ := rs6.cells
      obtain ⟨x0, x1, x2, x3, x4, r0, r1, r2, r3, r4, rB⟩ := MsgZ.cells rs6.zb
      obtain ⟨y0, y1, s0, s1⟩ := FaultZ.cells rs6.xb
      have hbl := rs6.bl
      have hn1 : ¬ w.heap.size = G := by omega
      have hn2 : ¬ w.heap.size + 1 = G := by omega
      have hn3 : ¬ w.heap.size = G + 1 := by omega
      have hn4 : ¬ w.heap.size + 1 = G + 1 := by omega
      go_region_held3 (fun w' => (w'.cell? ⟨G, 0, none⟩ = some (.int .i64 k) ∧ w'.cell? ⟨G, 1, none⟩ = some (.int .i64 M) ∧ w'.cell? ⟨G, 2, none⟩ = some (.int .i64 N) ∧ w'.cell? ⟨G, 3, none⟩ = some (.int .i64 R) ∧ w'.cell? ⟨G, 4, none⟩ = some (.slice none 0 0)) ∧ w'.cell? ⟨G + 1, 0, none⟩ = some (.int .i64 f) ∧ w'.cell? ⟨G + 1, 1, none⟩ = some (.int .i64 q)) (go_keep) (fail)
      all_goals go_wp2
      all_goals refine bodyPost_ret (v := .tuple #[.agg #[.int .i64 k, .int .i64 M, .int .i64 N, .int .i64 R, .slice none 0 0], .agg #[.int .i64 f, .int .i64 q]]) (by simp [results, Tryz.results94, go_sem, x0, x1, x2, x3, x4, y0, y1]) rfl ?_
      all_goals refine ⟨by go_grown, ?_⟩
      all_goals rw [HB.out]
      all_goals exact ⟨hf, _, _, _, _, _, _, _, rfl⟩
    | ok y =>
      obtain ⟨ns, a'⟩ := y
      rw [hrd] at hout
      obtain ⟨T, rfl, hR5, hO5⟩ := hout
      obtain ⟨at5, cp5, rfl⟩ := owns_slice hO5
      have rs5 := rs4.frame hF5 hR5
      obtain ⟨⟨m0, m1, m2, m3, m4, m5⟩, ⟨n0, n1, n2, n3⟩, ⟨d0, d1⟩, hsz⟩ := rs5.cells
      have rs6 := rs5.put (.slice at5 ns.length cp5) 0 0
      have hv1 := own_ne_msg hO5 rs5.mg
      have hv2 := (own_ne_fault hO5 rs5.wr).symm
      have hv3 := own_ne_msg hO5 rs5.zb
      have hv4 := (own_ne_fault hO5 rs5.xb).symm
      by_cases hmore : a' < l.length
      · have HB : Hid (decS l = .error (6, a')) := by
          show _ = _
          rw [HD.out, decK, hrd]
          simp only
          rw [if_pos hmore]
        have rs7 := rs6.putF 6 a'
        clear HD hrd rs6 hO5 hv1 hv2 hv3 hv4
        go_wp2
        clear m0 m1 m2 m3 m4 m5 n0 n1 n2 n3 d0 d1 hsz
        generalize ((((u5.setCell ⟨G, 4, none⟩ (.slice at5 ns.length cp5)).setCell ⟨G + 1, 0, none⟩ (.int .i64 0)).setCell ⟨G + 1, 1, none⟩ (.int .i64 0)).setCell ⟨G + 1, 0, none⟩ (.int .i64 6)).setCell ⟨G + 1, 1, none⟩ (.int .i64 a') = u6 at rs7 ⊢
        obtain ⟨⟨m0, m1, m2, m3, m4, m5⟩, ⟨n0, n1, n2, n3⟩, ⟨d0, d1⟩, hsz⟩ := rs7.cells
        obtain ⟨x0, x1, x2, x3, x4, r0, r1, r2, r3, r4, rB⟩ := MsgZ.cells rs7.zb
        obtain ⟨y0, y1, s0, s1⟩ := FaultZ.cells rs7.xb
        have hbl := rs7.bl
        have hn1 : ¬ w.heap.size = G := by omega
        have hn2 : ¬ w.heap.size + 1 = G := by omega
        have hn3 : ¬ w.heap.size = G + 1 := by omega
        have hn4 : ¬ w.heap.size + 1 = G + 1 := by omega
        go_region_held3 (fun w' => (w'.cell? ⟨G, 0, none⟩ = some (.int .i64 k) ∧ w'.cell? ⟨G, 1, none⟩ = some (.int .i64 M) ∧ w'.cell? ⟨G, 2, none⟩ = some (.int .i64 N) ∧ w'.cell? ⟨G, 3, none⟩ = some (.int .i64 R) ∧ w'.cell? ⟨G, 4, none⟩ = some (.slice at5 ns.length cp5)) ∧ w'.cell? ⟨G + 1, 0, none⟩ = some (.int .i64 6) ∧ w'.cell? ⟨G + 1, 1, none⟩ = some (.int .i64 a')) (go_keep) (fail)
        all_goals go_wp2
        all_goals refine bodyPost_ret (v := .tuple #[.agg #[.int .i64 k, .int .i64 M, .int .i64 N, .int .i64 R, .slice at5 ns.length cp5], .agg #[.int .i64 6, .int .i64 a']]) (by simp [results, Tryz.results94, go_sem, x0, x1, x2, x3, x4, y0, y1]) rfl ?_
        all_goals refine ⟨by go_grown, ?_⟩
        all_goals rw [HB.out]
        all_goals exact ⟨by decide, _, _, _, _, _, _, _, rfl⟩
      · have HB : Hid (decS l = .ok ⟨k, M, N, R, ns⟩) := by
          show _ = _
          rw [HD.out, decK, hrd]
          simp only
          rw [if_neg hmore]
        have hO6 := ownsRow_setCell_other (a := ⟨G + 1, 1, none⟩) (ownsRow_setCell_other (a := ⟨G + 1, 0, none⟩) (ownsRow_setCell_other (a := ⟨G, 4, none⟩) hO5 hv1 (.slice at5 ns.length cp5)) hv2 (.int .i64 0)) hv2 (.int .i64 0)
        clear HD hrd hO5 hv1 hv2
        go_wp2
        clear m0 m1 m2 m3 m4 m5 n0 n1 n2 n3 d0 d1 hsz
        generalize ((u5.setCell ⟨G, 4, none⟩ (.slice at5 ns.length cp5)).setCell ⟨G + 1, 0, none⟩ (.int .i64 0)).setCell ⟨G + 1, 1, none⟩ (.int .i64 0) = u6 at rs6 hO6 ⊢
        obtain ⟨⟨m0, m1, m2, m3, m4, m5⟩, ⟨n0, n1, n2, n3⟩, ⟨d0, d1⟩, hsz⟩ := rs6.cells
        obtain ⟨x0, x1, x2, x3, x4, r0, r1, r2, r3, r4, rB⟩ := MsgZ.cells rs6.zb
        obtain ⟨y0, y1, s0, s1⟩ := FaultZ.cells rs6.xb
        have hbl := rs6.bl
        have hn1 : ¬ w.heap.size = G := by omega
        have hn2 : ¬ w.heap.size + 1 = G := by omega
        have hn3 : ¬ w.heap.size = G + 1 := by omega
        have hn4 : ¬ w.heap.size + 1 = G + 1 := by omega
        go_region_held3 (fun w' => (w'.cell? ⟨G, 0, none⟩ = some (.int .i64 k) ∧ w'.cell? ⟨G, 1, none⟩ = some (.int .i64 M) ∧ w'.cell? ⟨G, 2, none⟩ = some (.int .i64 N) ∧ w'.cell? ⟨G, 3, none⟩ = some (.int .i64 R) ∧ w'.cell? ⟨G, 4, none⟩ = some (.slice at5 ns.length cp5)) ∧ w'.cell? ⟨G + 1, 0, none⟩ = some (.int .i64 0) ∧ w'.cell? ⟨G + 1, 1, none⟩ = some (.int .i64 0)) (go_keep) (fail)
        all_goals go_wp2
        all_goals refine bodyPost_ret (v := .tuple #[.agg #[.int .i64 k, .int .i64 M, .int .i64 N, .int .i64 R, .slice at5 ns.length cp5], .agg #[.int .i64 0, .int .i64 0]]) (by simp [results, Tryz.results94, go_sem, x0, x1, x2, x3, x4, y0, y1]) rfl ?_
        all_goals refine ⟨by go_grown, ?_⟩
        all_goals rw [HB.out]
        all_goals have hO7 := (ownsRow_setCell_other (a := ⟨w.heap.size + 1, 1, none⟩) (ownsRow_setCell_other (a := ⟨w.heap.size + 1, 0, none⟩) (ownsRow_setCell_other (a := ⟨w.heap.size, 4, none⟩) (ownsRow_setCell_other (a := ⟨w.heap.size, 3, none⟩) (ownsRow_setCell_other (a := ⟨w.heap.size, 2, none⟩) (ownsRow_setCell_other (a := ⟨w.heap.size, 1, none⟩) (ownsRow_setCell_other (a := ⟨w.heap.size, 0, none⟩) hO6 hv3 (.int .i64 k)) hv3 (.int .i64 M)) hv3 (.int .i64 N)) hv3 (.int .i64 R)) hv3 (.slice at5 ns.length cp5)) hv4 (.int .i64 0)) hv4 (.int .i64 0))
        all_goals exact ⟨at5, cp5, rfl, NodesAt.of_owns hO7.drew, owns_cap hO7⟩
theorem read_all (v : Value) (l : List UInt8) (w : World) (hv : BytesC w v l) :
    Calls Tryz.prog 94 #[v] w fun e w' => ReadD l w e w' := by
  by_cases hl : l.length ≤ 4000
  · exact read_any v l w hv hl
  · refine (read_long v l w hv (by omega)).mono fun e w' h => ⟨h.2, ?_⟩
    rw [decS_long l (by omega)]
    exact ⟨by decide, _, _, _, _, _, _, _, h.1⟩
end Go.Proofs.YtlndinigbppafaaGreat
