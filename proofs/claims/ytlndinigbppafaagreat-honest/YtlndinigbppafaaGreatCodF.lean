/-
  The walks of the program's Decode: the kinds that a head has, all nodes, the whole.
-/
import Derived.Test.YtlndinigbppafaaGreatCodB
import Derived.Test.YtlndinigbppafaaGreatCodC
import Derived.Test.YtlndinigbppafaaGreatKinA
import Derived.Test.YtlndinigbppafaaGreatDec
namespace Go.Proofs.YtlndinigbppafaaGreat
open Go.RowKit

/-- The kinds of the nodes of a message with this head. -/
def kindsM (k M N : Int) : List Int := if k = 1 then [] else kindsL k M N (dep N.toNat) 0

set_option maxRecDepth 100000 in
set_option maxHeartbeats 1000000 in
theorem kindsOf_1 (M N R : Int) (T : Value) (w : World) :
    Calls Tryz.prog 121 #[.agg #[.int .i64 1, .int .i64 M, .int .i64 N, .int .i64 R, T]] w fun e w' => ∃ v', e = .returned v' ∧ IntsAt w' v' [] ∧ Below w.heap.size w w' := by
  go_enter Tryz.func121, Tryz.ntmps121
  go_wp2
  all_goals go_ret
  all_goals exact ⟨_, rfl, ⟨none, 0, rfl, fun _ => rfl, fun h => (by simp at h)⟩, by go_grown⟩

set_option maxRecDepth 100000 in
set_option maxHeartbeats 1000000 in
theorem kindsOf_2 (M R : Int) (N : Nat) (T : Value) (w : World) (h1 : 1 ≤ N) (hN : N ≤ 500) :
    Calls Tryz.prog 121 #[.agg #[.int .i64 2, .int .i64 M, .int .i64 N, .int .i64 R, T]] w fun e w' => ∃ v', e = .returned v' ∧ IntsAt w' v' (kindsL 2 M N (dep N) 0) ∧ Below w.heap.size w w' := by
  rw [← kindsR_G]
  go_enter Tryz.func121, Tryz.ntmps121
  go_wp2_with fail
  have c1 : (w.alloc (.cells #[.int .i64 2, .int .i64 M, .int .i64 N, .int .i64 R, T] 63)).cell? ⟨w.heap.size, 1, none⟩ = some (.int .i64 M) := by simp
  have c2 : (w.alloc (.cells #[.int .i64 2, .int .i64 M, .int .i64 N, .int .i64 R, T] 63)).cell? ⟨w.heap.size, 2, none⟩ = some (.int .i64 N) := by simp
  have hA : Below w.heap.size w (w.alloc (.cells #[.int .i64 2, .int .i64 M, .int .i64 N, .int .i64 R, T] 63)) := (Below.refl _ _).alloc (Nat.le_refl _) _
  generalize w.alloc (.cells #[.int .i64 2, .int .i64 M, .int .i64 N, .int .i64 R, T] 63) = W at c1 c2 hA ⊢
  go_region_held3 (fun w' => w'.cell? ⟨w.heap.size, 1, none⟩ = some (.int .i64 M) ∧ w'.cell? ⟨w.heap.size, 2, none⟩ = some (.int .i64 N)) (first | exact ⟨c1, c2⟩ | (with_reducible assumption) | fail)
    (first
      | (go_at_call 98; refine (growthRule_any M _).mono ?_; rintro e w1 ⟨R1, rfl, hR1, hb1⟩; have hk1 := And.intro (cell_keep c1 (((Below.refl _ _).drew).trans hb1)) (cell_keep c2 (((Below.refl _ _).drew).trans hb1)))
      | (go_at_call 156; refine (Kinds_any N _ R1 _ h1 hN hR1).mono ?_; rintro e w2 ⟨v2, rfl, hN2, hb2⟩; have hk2 := And.intro (cell_keep hk1.1 hb2) (cell_keep hk1.2 hb2))
      | fail)
  all_goals go_wp2
  all_goals go_ret
  all_goals exact ⟨_, rfl, hN2, hA.trans (((((Below.refl _ _).drew).trans hb1).trans (hb2.mono (((Below.refl _ _).drew).trans hb1).size)).mono hA.size)⟩

set_option maxRecDepth 100000 in
set_option maxHeartbeats 1000000 in
theorem kindsOf_3 (M R : Int) (N : Nat) (T : Value) (w : World) (h1 : 1 ≤ N) (hN : N ≤ 500) :
    Calls Tryz.prog 121 #[.agg #[.int .i64 3, .int .i64 M, .int .i64 N, .int .i64 R, T]] w fun e w' => ∃ v', e = .returned v' ∧ IntsAt w' v' (kindsL 3 M N (dep N) 0) ∧ Below w.heap.size w w' := by
  rw [← kindsR_M]
  go_enter Tryz.func121, Tryz.ntmps121
  go_wp2_with fail
  have c1 : (w.alloc (.cells #[.int .i64 3, .int .i64 M, .int .i64 N, .int .i64 R, T] 63)).cell? ⟨w.heap.size, 1, none⟩ = some (.int .i64 M) := by simp
  have c2 : (w.alloc (.cells #[.int .i64 3, .int .i64 M, .int .i64 N, .int .i64 R, T] 63)).cell? ⟨w.heap.size, 2, none⟩ = some (.int .i64 N) := by simp
  have hA : Below w.heap.size w (w.alloc (.cells #[.int .i64 3, .int .i64 M, .int .i64 N, .int .i64 R, T] 63)) := (Below.refl _ _).alloc (Nat.le_refl _) _
  generalize w.alloc (.cells #[.int .i64 3, .int .i64 M, .int .i64 N, .int .i64 R, T] 63) = W at c1 c2 hA ⊢
  go_region_held3 (fun w' => w'.cell? ⟨w.heap.size, 1, none⟩ = some (.int .i64 M) ∧ w'.cell? ⟨w.heap.size, 2, none⟩ = some (.int .i64 N)) (first | exact ⟨c1, c2⟩ | (with_reducible assumption) | fail)
    (first
      | (go_at_call 99; refine (memberRule_any M _).mono ?_; rintro e w1 ⟨R1, rfl, hR1, hb1⟩; have hk1 := And.intro (cell_keep c1 (((Below.refl _ _).drew).trans hb1)) (cell_keep c2 (((Below.refl _ _).drew).trans hb1)))
      | (go_at_call 156; refine (Kinds_any N _ R1 _ h1 hN hR1).mono ?_; rintro e w2 ⟨v2, rfl, hN2, hb2⟩; have hk2 := And.intro (cell_keep hk1.1 hb2) (cell_keep hk1.2 hb2))
      | fail)
  all_goals go_wp2
  all_goals go_ret
  all_goals exact ⟨_, rfl, hN2, hA.trans (((((Below.refl _ _).drew).trans hb1).trans (hb2.mono (((Below.refl _ _).drew).trans hb1).size)).mono hA.size)⟩

theorem rd1_le (s : List UInt8) (k : Int) (a : Nat) (n : PN) (b : Nat) (h : rd1 s k a = .ok (n, b)) : b ≤ s.length := by
  unfold rd1 at h
  split at h
  · cases h
  · rename_i c hc
    have hlt : a < s.length := (List.getElem?_eq_some_iff.1 hc).1
    split at h
    · cases h
    · split at h
      · split at h
        · rename_i x y h1 h2
          have := (List.getElem?_eq_some_iff.1 h2).1
          simp only [Except.ok.injEq, Prod.mk.injEq] at h
          omega
        · cases h
      · split at h
        · split at h
          · cases h
          · split at h
            · cases h
            · split at h
              · cases h
              · simp only [Except.ok.injEq, Prod.mk.injEq] at h
                omega
        · simp only [Except.ok.injEq, Prod.mk.injEq] at h
          omega
theorem rdL_snoc (s : List UInt8) (ks : List Int) (k : Int) (a : Nat) (ns : List PN) (b : Nat) (h : rdL s ks a = .ok (ns, b)) : rdL s (ks ++ [k]) a =
    match rd1 s k b with
    | .error e => .error e
    | .ok (n, c) => .ok (ns ++ [n], c) := by
  rw [rdL_append, h]
  simp only [rdL_cons]
  cases rd1 s k b with
  | error e => rfl
  | ok v => rfl
theorem rdL_stop (s : List UInt8) (ks : List Int) (j : Nat) (hj : j < ks.length) (a : Nat) (ns : List PN) (b : Nat) (h : rdL s (ks.take j) a = .ok (ns, b)) (y : Int × Nat) (hy : rd1 s ks[j] b = .error y) : rdL s ks a = .error y := by
  have e : ks = ks.take j ++ (ks[j] :: ks.drop (j + 1)) := by rw [List.getElem_cons_drop, List.take_append_drop]
  rw [e, rdL_append, h]
  simp only [rdL_cons, hy]
theorem IntsAt.frame {w w' : World} {B : Nat} {v : Value} {ks : List Int} {cur : Array Value} {fr : Nat × Nat} {t : TypeId} (h : IntsAt w v ks) (hF : Frame2 w w' B none) (hB : w.heap[B]? = some (.cells cur t fr)) (ht : t ≠ 3) : IntsAt w' v ks := by
  obtain ⟨ao, cap, rfl, hz, h⟩ := h
  refine ⟨ao, cap, rfl, hz, fun hl => ?_⟩
  obtain ⟨b, o, cur', fr', rfl, hlt, hc⟩ := h hl
  refine ⟨b, o, cur', fr', rfl, ?_, hc⟩
  rw [hF.block b (lt_of_heap hlt) ?_ (by simp)]
  · exact hlt
  · intro e
    subst e
    rw [hB] at hlt
    simp at hlt
    exact ht hlt.2.1
theorem Frame2.grown {w w1 w2 : World} {B : Nat} {v : Value} (h : Frame2 w w1 B none) (hg : w1.grownBy w2 v.ownBlock) (hv : ∀ g, v.ownBlock = some g → w.heap.size ≤ g) : Frame2 w w2 B none :=
  ⟨hg.os.trans h.os, hg.tape.trans h.tape, hg.output.trans h.output, Nat.le_trans h.size hg.size, fun k hk hB hr => (hg.block k (Nat.lt_of_lt_of_le hk h.size) (fun e => by have := hv k e.symm; omega)).trans (h.block k hk hB hr)⟩

/-- What reading all nodes gives. -/
def NodesR (w w' : World) (B : Nat) (v : Value) (l : List UInt8) (e : Ending) (rd : Except (Int × Nat) (List PN × Nat)) : Prop :=
  Frame2 w w' B none ∧ match rd with
  | .error (f, q) => f ≠ 0 ∧ e = .returned (.tuple #[.slice none 0 0, .agg #[.int .i64 f, .int .i64 q]]) ∧ ∃ a, RdAt w' B v l a
  | .ok (ns, a') => ∃ T, e = .returned (.tuple #[T, .agg #[.int .i64 0, .int .i64 0]]) ∧ RdAt w' B v l a' ∧ w'.ownsRow w.heap.size 116 3 T ns.length (cellsN ns)
theorem own_ge {w : World} {base e size : Nat} {v : Value} {n : Nat} {xs : List Value} (h : w.ownsRow base e size v n xs) : ∀ g, v.ownBlock = some g → base ≤ g := fun g hg => (h.lt g hg).1
theorem own_ne_fault {u : World} {base n g : Nat} {V : Value} {xs : List Value} {cur : Array Value} {fr : Nat × Nat} (h : u.ownsRow base 116 3 V n xs) (hg : u.heap[g]? = some (.cells cur 158 fr)) : some g ≠ V.ownBlock := by
  intro x
  rcases h.2 with ⟨rfl, _⟩ | ⟨g', cap, cur', rfl, _, hgg, _⟩
  · simp [Value.ownBlock] at x
  · simp [Value.ownBlock] at x
    subst x
    rw [hgg] at hg
    simp at hg

set_option maxRecDepth 100000 in
set_option maxHeartbeats 4000000 in
theorem nodes_any (w : World) (B : Nat) (v : Value) (l : List UInt8) (a : Nat) (V : Value) (ks : List Int) (hr : RdAt w B v l a) (ha : a ≤ l.length) (hl : l.length ≤ 4000) (hV : IntsAt w V ks) (hk : ∀ k ∈ ks, 0 ≤ k ∧ k ≤ 3) (hn : ks.length ≤ 100000) :
    Calls Tryz.prog 120 #[.pointer (some ⟨B, 0, none⟩), V] w fun e w' => NodesR w w' B v l e (rdL l ks a) := by
  obtain ⟨ao, cap, rfl, hz, hrow⟩ := id hV
  obtain ⟨i0, hi, hz0, hz1, hz2⟩ := info_parts Tryz.infoNode
  have hBw := lt_of_heap hr.1
  have HK : Hid _ := hk
  clear hk
  go_enter Tryz.func120, Tryz.ntmps120
  go_wp2
  go_loopw [6, 13] (fun T i wr => ∃ (j : Nat) (ns : List PN) (b : Nat), j ≤ ks.length ∧ i = .int .i64 j ∧ ns.length = j ∧ Hid (rdL l (ks.take j) a = .ok (ns, b)) ∧ b ≤ l.length ∧ RdAt wr B v l b ∧ wr.ownsRow w.heap.size 116 3 T ns.length (cellsN ns) ∧ Frame2 w wr B none ∧ wr.heap[w.heap.size]? = some (.cells #[.int .i64 0, .int .i64 0] 158 (0, 0))) (fun _ i _ => ks.length - (intOf i).toNat)
  case atStart =>
    have hA : Below w.heap.size w (w.alloc (.cells #[.int .i64 0, .int .i64 0] 158)) := (Below.refl _ _).alloc (Nat.le_refl _) _
    exact ⟨0, [], a, Nat.zero_le _, rfl, rfl, rfl, ha, hr.below hA, World.ownsRow_nil _ _ _ _, Frame2.of_below B none hA, heap_alloc_new _ _⟩
  case round =>
    obtain ⟨j, ns, b, hj, rfl, hns, HR, hb, hrb, hown, hF, hbox⟩ := hrel
    have hsz := hF.size
    by_cases hlt : j < ks.length
    · obtain ⟨bk, ok, cur, fr, rfl, hbk, hcell⟩ := hrow (by omega)
      have hV' := hV.frame hF hr.1 (by decide)
      obtain ⟨_, _, e, _, hc'⟩ := hV'
      simp only [Value.slice.injEq] at e
      obtain ⟨rfl, -, -⟩ := e
      obtain ⟨bk', ok', cur', fr', e, hbk', hcell'⟩ := hc' (by omega)
      cases e
      have ck : (_ : World).cell? ⟨bk, ok + j, none⟩ = some (.int .i64 ks[j]) := (cell_of_row _ _ _ _ _ _ hbk').trans (hcell' j hlt)
      have hkj := HK.out ks[j] (List.getElem_mem hlt)
      have HND := nd_any _ B v l b ks[j] hrb hb hl hkj.1 hkj.2
      clear hcell hcell' hc' hbk hbk' hrow
      go_wp2_with fail
      refine HND.mono ?_
      rintro e u1 ⟨hF1, hout⟩
      have hF2 : Frame2 w u1 B none := hF.trans hF1
      have hbox1 : u1.heap[w.heap.size]? = some (.cells #[.int .i64 0, .int .i64 0] 158 (0, 0)) := by rw [hF1.block _ (lt_of_heap hbox) (by omega) (by simp)]; exact hbox
      have hge := own_ge hown
      have hown1 := owns_frame2 hown hF1 (fun e => by have := hge B e; omega) (fun g _ => by simp)
      have hsz1 := hF2.size
      obtain ⟨y0, y1, g0, g1⟩ := FaultZ.cells hbox1
      have hbx := lt_of_heap hbox1
      clear HND hbox hown hF hrb ck
      cases hrd : rd1 l ks[j] b with
      | error y =>
        obtain ⟨f, q⟩ := y
        rw [hrd] at hout
        obtain ⟨hne, rfl, ax, hrx⟩ := hout
        have HS : Hid (rdL l ks a = .error (f, q)) := rdL_stop l ks j hlt a ns b HR.out _ hrd
        have hfn : (f != 0) = true := by rw [bne, beq_eq_false_iff_ne.2 hne]; rfl
        clear hrd HR
        go_wp2
        have hA2 : Below u1.heap.size u1 ((u1.alloc (.cells #[.int .i64 0, .int .i64 0, .string ⟨#[]⟩] 116)).alloc (.cells #[.int .i64 f, .int .i64 q] 158)) := ((Below.refl _ _).alloc (Nat.le_refl _) _).alloc (by simp) _
        have p0 : ((u1.alloc (.cells #[.int .i64 0, .int .i64 0, .string ⟨#[]⟩] 116)).alloc (.cells #[.int .i64 f, .int .i64 q] 158)).cell? ⟨u1.heap.size + 1, 0, none⟩ = some (.int .i64 f) := by
          rw [cell_of_row _ _ _ _ _ _ (heap_new _ _ _ (by simp))]; rfl
        have p1 : ((u1.alloc (.cells #[.int .i64 0, .int .i64 0, .string ⟨#[]⟩] 116)).alloc (.cells #[.int .i64 f, .int .i64 q] 158)).cell? ⟨u1.heap.size + 1, 1, none⟩ = some (.int .i64 q) := by
          rw [cell_of_row _ _ _ _ _ _ (heap_new _ _ _ (by simp))]; rfl
        have hbox2 : ((u1.alloc (.cells #[.int .i64 0, .int .i64 0, .string ⟨#[]⟩] 116)).alloc (.cells #[.int .i64 f, .int .i64 q] 158)).heap[w.heap.size]? = some (.cells #[.int .i64 0, .int .i64 0] 158 (0, 0)) := by rw [hA2.block _ hbx]; exact hbox1
        have hF3 : Frame2 w _ B none := hF2.then hA2
        have hr3 := hrx.below hA2
        clear hrx
        have hnn : ¬ w.heap.size = u1.heap.size + 1 := by omega
        clear y0 y1 g0 g1
        generalize (u1.alloc (.cells #[.int .i64 0, .int .i64 0, .string ⟨#[]⟩] 116)).alloc (.cells #[.int .i64 f, .int .i64 q] 158) = u2 at hF3 hbox2 p0 p1 hr3 ⊢
        clear hA2
        obtain ⟨y0, y1, g0, g1⟩ := FaultZ.cells hbox2
        go_region_held3 (fun w' => w'.cell? ⟨u1.heap.size + 1, 0, none⟩ = some (.int .i64 f) ∧ w'.cell? ⟨u1.heap.size + 1, 1, none⟩ = some (.int .i64 q)) (go_keep) (fail)
        all_goals go_wp2
        all_goals refine bodyPost_ret (v := .tuple #[.slice none 0 0, .agg #[.int .i64 f, .int .i64 q]]) (by simp [results, Tryz.results120, go_sem, y0, y1]) rfl ?_
        all_goals rw [HS.out]
        all_goals have hF4 := ((hF3.setOut w.heap.size 0 (.int .i64 f) (Nat.le_refl _)).setOut w.heap.size 1 (.int .i64 q) (Nat.le_refl _)).then ((Below.refl _ _).drew)
        all_goals refine ⟨hF4, hne, rfl, ax, hr.of_frame hF4 ?_⟩
        all_goals show ((u2.setCell _ _).setCell _ _).heap[B]? = _
        all_goals rw [Below.heap_setCell _ _ _ _ (show B ≠ w.heap.size by omega), Below.heap_setCell _ _ _ _ (show B ≠ w.heap.size by omega)]
        all_goals exact hr3.1
      | ok y =>
        obtain ⟨n, b'⟩ := y
        have hb' := rd1_le l ks[j] b n b' hrd
        rw [hrd] at hout
        obtain ⟨rfl, hr1⟩ := hout
        have HR' : Hid (rdL l (ks.take (j + 1)) a = .ok (ns ++ [n], b')) := by
          show _ = _
          rw [take_snoc ks j hlt, rdL_snoc l _ _ _ _ _ HR.out, hrd]
        clear hrd HR
        have hA1 : Below u1.heap.size u1 (((u1.alloc (.cells #[.int .i64 n.kind, .int .i64 n.dig, .string n.ev] 116)).alloc (.cells #[.int .i64 0, .int .i64 0] 158)).alloc (.cells #[.int .i64 n.kind, .int .i64 n.dig, .string n.ev] 116)) := (((Below.refl _ _).alloc (Nat.le_refl _) _).alloc (by simp) _).alloc (by simp; omega) _
        have hown3 := owns_below hown1 hA1
        have hr3 := hr1.below hA1
        have hF3 : Frame2 w _ B none := hF2.then hA1
        have hbox3 : (((u1.alloc (.cells #[.int .i64 n.kind, .int .i64 n.dig, .string n.ev] 116)).alloc (.cells #[.int .i64 0, .int .i64 0] 158)).alloc (.cells #[.int .i64 n.kind, .int .i64 n.dig, .string n.ev] 116)).heap[w.heap.size]? = some (.cells #[.int .i64 0, .int .i64 0] 158 (0, 0)) := by rw [hA1.block _ (lt_of_heap hbox1)]; exact hbox1
        have hnb := own_ne_fault hown3 hbox3
        have hlit := node_at ((u1.alloc (.cells #[.int .i64 n.kind, .int .i64 n.dig, .string n.ev] 116)).alloc (.cells #[.int .i64 0, .int .i64 0] 158)) n.kind n.dig n.ev (u1.heap.size + 1 + 1) (by simp)
        have HNW : Hid _ := hlit.news _ rfl
        have HF3 : Hid _ := hF3
        have HA1 : Hid _ := hA1
        have HX3 : Hid _ := hbox3
        have HR3 : Hid _ := hr3
        have HO3 : Hid _ := hown3
        clear hF3 hA1 hbox3 hr3 hown3 hlit
        go_wp2_with (at_builtin; refine wpList_append_own _ rfl (.tmp 27) (.tmp 29) 61 rfl w.heap.size 116 i0 (.agg #[.int .i64 0, .int .i64 0, .string ByteArray.empty]) 3 32 Tryz.underlying61 hi hz0 hz1 hz2 rfl (by decide) _ _ _ rfl HO3.out ⟨u1.heap.size + 1 + 1, 0, none⟩ 1 1 (cellsN [n]) rfl (by rw [cellsN_length]; rfl) HNW.out (cellsN_one [n]) (by unfold maxLen; omega) (by omega) (by simp; omega) ?_)
        intro v' w2 hown' hgrow _
        have hFw := HF3.out.grown hgrow hge
        have hB2 : w2.heap[B]? = some (.cells #[v, .int .i64 b'] 195 (0, 0)) := by
          rw [hgrow.block B (by simp; omega) (fun e => by have := hge B e.symm; omega)]
          exact HR3.out.1
        have hX2 : w2.heap[w.heap.size]? = some (.cells #[.int .i64 0, .int .i64 0] 158 (0, 0)) := by
          rw [hgrow.block _ (by simp; omega) hnb]
          exact HX3.out
        have hR2 := hr.of_frame hFw hB2
        clear hgrow HO3 HR3 HX3 HF3 HA1 HNW hnb
        go_wp2
        go_roundw
        case rel => exact ⟨j + 1, ns ++ [n], b', by omega, by go_num, by rw [List.length_append, hns]; rfl, HR', hb', hR2, by rw [List.length_append, hns, cellsN_append]; exact hown', hFw, hX2⟩
        case measure => simp [intOf]; omega
    · have hje : j = ks.length := by omega
      subst hje
      rw [List.take_length] at HR
      obtain ⟨y0, y1, g0, g1⟩ := FaultZ.cells hbox
      have hbx := lt_of_heap hbox
      have hn1 := (own_ne_fault hown hbox).symm
      go_wp2
      refine bodyPost_ret (v := .tuple #[u6, .agg #[.int .i64 0, .int .i64 0]]) (by simp [results, Tryz.results120, go_sem, y0, y1]) rfl ?_
      rw [HR.out]
      have hF' := (hF.setOut w.heap.size 0 (.int .i64 0) (Nat.le_refl _)).setOut w.heap.size 1 (.int .i64 0) (Nat.le_refl _)
      refine ⟨hF', u6, rfl, hr.of_frame hF' ?_, ownsRow_setCell_other (ownsRow_setCell_other hown hn1 _) hn1 _⟩
      rw [Below.heap_setCell _ _ _ _ (show B ≠ w.heap.size by omega), Below.heap_setCell _ _ _ _ (show B ≠ w.heap.size by omega)]
      exact hrb.1
end Go.Proofs.YtlndinigbppafaaGreat

/-
  The walks of the program's Decode: the head whole, and the message.
-/
namespace Go.Proofs.YtlndinigbppafaaGreat
open Go.RowKit

theorem boxes_new (w w1 : World) (hb1 : Below ((w.alloc (.cells #[.int .i64 0, .int .i64 0, .int .i64 0, .int .i64 0, .slice none 0 0] 63)).alloc (.cells #[.int .i64 0, .int .i64 0] 158)).heap.size ((w.alloc (.cells #[.int .i64 0, .int .i64 0, .int .i64 0, .int .i64 0, .slice none 0 0] 63)).alloc (.cells #[.int .i64 0, .int .i64 0] 158)) w1) :
    MsgZ w1 w.heap.size ∧ w1.heap[w.heap.size + 1]? = some (.cells #[.int .i64 0, .int .i64 0] 158 (0, 0)) ∧ Below w.heap.size w w1 := by
  have h0 := hb1.size
  simp at h0
  refine ⟨MsgZ.below (heap_old _ _ _ _ (heap_new _ _ _ rfl)) hb1, ?_, (((Below.refl _ _).alloc (Nat.le_refl _) _).alloc (by simp) _).trans (hb1.mono (by simp; omega))⟩
  rw [hb1.block _ (by simp)]
  exact heap_new _ _ _ (by simp)

set_option maxRecDepth 100000 in
set_option maxHeartbeats 1000000 in
theorem head_bad (v : Value) (l : List UInt8) (w : World) (hv : BytesC w v l) (h1 : 1 ≤ l.length) (k : Int) (h0 : (l[0].toNat : Int) = k) (hk : k < 1 ∨ 3 < k) :
    Calls Tryz.prog 119 #[v] w fun e w' => e = .returned (.tuple #[msgW 0 0 0 0 (.slice none 0 0), .int .i64 0, .agg #[.int .i64 4, .int .i64 0]]) ∧ Below w.heap.size w w' := by
  unfold msgW
  obtain ⟨b0, o, cap, rfl, hlc, hcm, hbw, hB, hcell⟩ := hv.cells (by omega)
  have c0 := hcell 0 (by omega)
  rw [Nat.add_zero, h0] at c0
  have hk1 : wrap64 k = k := by have := l[0].toNat_lt; go_arith
  have HK : Hid _ := hk
  clear hcell hB hk
  go_enter Tryz.func119, Tryz.ntmps119
  go_wp2_with fail
  refine (layout_no k _ HK.out).mono ?_
  rintro e w1 ⟨rfl, hb1⟩
  obtain ⟨hZ, hX, hb⟩ := boxes_new w w1 hb1
  have hA : Below w1.heap.size w1 (w1.alloc (.cells #[.int .i64 0, .int .i64 0, .int .i64 0, .int .i64 0] 226)) := (Below.refl _ _).alloc (Nat.le_refl _) _
  have hbW : Below w.heap.size w (w1.alloc (.cells #[.int .i64 0, .int .i64 0, .int .i64 0, .int .i64 0] 226)) := hb.trans (hA.mono hb.size)
  obtain ⟨x0, x1, x2, x3, x4, r0, r1, r2, r3, r4, rB⟩ := MsgZ.cells (MsgZ.below hZ hA)
  have hX' : (w1.alloc (.cells #[.int .i64 0, .int .i64 0, .int .i64 0, .int .i64 0] 226)).heap[w.heap.size + 1]? = some (.cells #[.int .i64 0, .int .i64 0] 158 (0, 0)) := by rw [hA.block _ (lt_of_heap hX)]; exact hX
  obtain ⟨y0, y1, s0, s1⟩ := FaultZ.cells hX'
  clear hb1 hZ hX hA hb hX' hbw hlc hcm hv c0
  go_wp2
  all_goals refine bodyPost_ret (v := .tuple #[.agg #[.int .i64 0, .int .i64 0, .int .i64 0, .int .i64 0, .slice none 0 0], .int .i64 0, .agg #[.int .i64 4, .int .i64 0]]) (by simp [results, Tryz.results119, go_sem, x0, x1, x2, x3, x4, y0, y1]) rfl ?_
  all_goals exact ⟨rfl, by go_grown⟩

set_option maxRecDepth 100000 in
set_option maxHeartbeats 1000000 in
theorem head_short (v : Value) (l : List UInt8) (w : World) (hv : BytesC w v l) (h1 : 1 ≤ l.length) (k a b c d : Int) (h0 : (l[0].toNat : Int) = k) (hd : (l.length : Int) < d)
    (hlay : ∀ w : World, Calls Tryz.prog 152 #[.int .i64 k] w fun e w' => e = .returned (.tuple #[.agg #[.int .i64 a, .int .i64 b, .int .i64 c, .int .i64 d], .bool true]) ∧ Below w.heap.size w w') :
    Calls Tryz.prog 119 #[v] w fun e w' => e = .returned (.tuple #[msgW 0 0 0 0 (.slice none 0 0), .int .i64 0, .agg #[.int .i64 5, .int .i64 l.length]]) ∧ Below w.heap.size w w' := by
  unfold msgW
  have HL : Hid _ := hlay
  clear hlay
  obtain ⟨b0, o, cap, rfl, hlc, hcm, hbw, hB, hcell⟩ := hv.cells (by omega)
  have c0 := hcell 0 (by omega)
  rw [Nat.add_zero, h0] at c0
  have hk1 : wrap64 k = k := by have := l[0].toNat_lt; go_arith
  clear hcell hB
  go_enter Tryz.func119, Tryz.ntmps119
  go_wp2_with fail
  refine (HL.out _).mono ?_
  rintro e w1 ⟨rfl, hb1⟩
  obtain ⟨hZ, hX, hb⟩ := boxes_new w w1 hb1
  have hA : Below w1.heap.size w1 (w1.alloc (.cells #[.int .i64 a, .int .i64 b, .int .i64 c, .int .i64 d] 226)) := (Below.refl _ _).alloc (Nat.le_refl _) _
  have hbW : Below w.heap.size w (w1.alloc (.cells #[.int .i64 a, .int .i64 b, .int .i64 c, .int .i64 d] 226)) := hb.trans (hA.mono hb.size)
  obtain ⟨x0, x1, x2, x3, x4, r0, r1, r2, r3, r4, rB⟩ := MsgZ.cells (MsgZ.below hZ hA)
  have hX' : (w1.alloc (.cells #[.int .i64 a, .int .i64 b, .int .i64 c, .int .i64 d] 226)).heap[w.heap.size + 1]? = some (.cells #[.int .i64 0, .int .i64 0] 158 (0, 0)) := by rw [hA.block _ (lt_of_heap hX)]; exact hX
  obtain ⟨y0, y1, s0, s1⟩ := FaultZ.cells hX'
  clear hb1 hZ hX hA hb hX' hbw hlc hcm hv c0
  go_wp2
  all_goals refine bodyPost_ret (v := .tuple #[.agg #[.int .i64 0, .int .i64 0, .int .i64 0, .int .i64 0, .slice none 0 0], .int .i64 0, .agg #[.int .i64 5, .int .i64 l.length]]) (by simp [results, Tryz.results119, go_sem, x0, x1, x2, x3, x4, y0, y1]) rfl ?_
  all_goals exact ⟨rfl, by go_grown⟩
end Go.Proofs.YtlndinigbppafaaGreat

/-
  The walks of the program's Decode: the head by the document's words, and the message.
-/
namespace Go.Proofs.YtlndinigbppafaaGreat
open Go.RowKit

/-- Reading behind the head. -/
def decK (l : List UInt8) (k M N R : Int) (a : Nat) : Except (Int × Nat) Msg :=
  match rdL l (kindsM k M N) a with
  | .error e => .error e
  | .ok (t, a') => if a' < l.length then .error (6, a') else .ok ⟨k, M, N, R, t⟩
theorem decK_T (l : List UInt8) (k M N R : Int) (a : Nat) (hk : k ≠ 1) : decT l k M N R a = decK l k M N R a := by
  unfold decT decK kindsM
  rw [if_neg hk, rdNode_kinds]
  cases rdL l (kindsL k M N (dep N.toNat) 0) a <;> rfl
theorem decK_1 (l : List UInt8) (N R : Int) (a : Nat) : decK l 1 0 N R a = if a < l.length then .error (6, a) else .ok ⟨1, 0, N, R, []⟩ := by
  unfold decK kindsM
  rw [if_pos rfl, rdL_nil]

/-- What the head gives. -/
def HeadD (l : List UInt8) (e : Ending) : Prop :=
  (∃ (f : Int) (q : Nat) (k M N R p : Int), f ≠ 0 ∧ e = .returned (.tuple #[.agg #[.int .i64 k, .int .i64 M, .int .i64 N, .int .i64 R, .slice none 0 0], .int .i64 p, .agg #[.int .i64 f, .int .i64 q]]) ∧ decS l = .error (f, q)) ∨
  (∃ (k M N R : Int) (a : Nat), (k = 1 ∨ k = 2 ∨ k = 3) ∧ 1 ≤ N ∧ N ≤ 500 ∧ a ≤ l.length ∧ e = .returned (.tuple #[.agg #[.int .i64 k, .int .i64 M, .int .i64 N, .int .i64 R, .slice none 0 0], .int .i64 a, .agg #[.int .i64 0, .int .i64 0]]) ∧ decS l = decK l k M N R a)

theorem numP_at (l : List UInt8) (a : Nat) (h0 : 1 ≤ a) (h : a + 2 ≤ l.length) : numP l (a : Nat) = num2 l[a] l[a + 1] := by
  unfold numP
  rw [if_neg (by omega), Int.toNat_natCast]
  simp only [List.getD_eq_getElem?_getD]
  rw [List.getElem?_eq_getElem (by omega), List.getElem?_eq_getElem (by omega)]
  rfl

theorem head_dec (v : Value) (l : List UInt8) (w : World) (hv : BytesC w v l) (hl : l.length ≤ 4000) :
    Calls Tryz.prog 119 #[v] w fun e w' => HeadD l e ∧ Below w.heap.size w w' := by
  by_cases h1 : 1 ≤ l.length
  · have hb := l[0].toNat_lt
    by_cases k1 : (l[0].toNat : Int) = 1
    · by_cases h5 : 5 ≤ l.length
      · have n1 : numP l 1 = num2 l[1] l[2] := numP_at l 1 (by omega) (by omega)
        have n3 : numP l 3 = num2 l[3] l[4] := numP_at l 3 (by omega) (by omega)
        have n0 : numP l 0 = 0 := rfl
        have hd := decS_1 l h5 hl k1
        rw [dec1G] at hd
        by_cases hN : num2 l[1] l[2] < 1 ∨ (500 : Int) < num2 l[1] l[2]
        · rw [if_pos hN] at hd
          refine (head_any v l w hv hl h1 1 0 1 3 5 1 1 k1 (by omega) (.inl rfl) (.inr ⟨by omega, by omega⟩) (.inr ⟨by omega, by omega⟩) (fun w => layout_1 w) (fun T w => chk_n 1 _ _ _ 0 1 3 5 T w (by rw [n1]; exact hN))).mono fun e w' h => ⟨.inl ⟨1, 1, _, _, _, _, _, by decide, h.1, hd⟩, h.2⟩
        · rw [if_neg hN] at hd
          refine (head_any v l w hv hl h1 1 0 1 3 5 0 0 k1 (by omega) (.inl rfl) (.inr ⟨by omega, by omega⟩) (.inr ⟨by omega, by omega⟩) (fun w => layout_1 w) (fun T w => chk_1 _ _ _ 0 1 3 5 T w (by rw [n1]; omega) (by rw [n1]; omega))).mono fun e w' h => ⟨.inr ⟨1, 0, num2 l[1] l[2], num2 l[3] l[4], 5, .inl rfl, by omega, by omega, h5, ?_, ?_⟩, h.2⟩
          · rw [h.1, n0, n1, n3]; rfl
          · rw [hd, decK_1]
      · refine (head_short v l w hv h1 1 0 1 3 5 k1 (by omega) (fun w => layout_1 w)).mono fun e w' h => ⟨.inl ⟨5, l.length, _, _, _, _, _, by decide, h.1, decS_1s l (by omega) k1 (by omega)⟩, h.2⟩
    · by_cases k2 : (l[0].toNat : Int) = 2
      · by_cases h7 : 7 ≤ l.length
        · have n1 : numP l 1 = num2 l[1] l[2] := numP_at l 1 (by omega) (by omega)
          have n3 : numP l 3 = num2 l[3] l[4] := numP_at l 3 (by omega) (by omega)
          have n5 : numP l 5 = num2 l[5] l[6] := numP_at l 5 (by omega) (by omega)
          have hd := decS_2 l h7 hl k2
          rw [dec2G] at hd
          by_cases hN : num2 l[3] l[4] < 1 ∨ (500 : Int) < num2 l[3] l[4]
          · rw [if_pos hN] at hd
            refine (head_any v l w hv hl h1 2 1 3 5 7 1 3 k2 (by omega) (.inr ⟨by omega, by omega⟩) (.inr ⟨by omega, by omega⟩) (.inr ⟨by omega, by omega⟩) (fun w => layout_2 w) (fun T w => chk_n 2 _ _ _ 1 3 5 7 T w (by rw [n3]; exact hN))).mono fun e w' h => ⟨.inl ⟨1, 3, _, _, _, _, _, by decide, h.1, hd⟩, h.2⟩
          · rw [if_neg hN] at hd
            by_cases hM1 : num2 l[1] l[2] < 1
            · rw [if_pos (.inl hM1)] at hd
              refine (head_any v l w hv hl h1 2 1 3 5 7 1 1 k2 (by omega) (.inr ⟨by omega, by omega⟩) (.inr ⟨by omega, by omega⟩) (.inr ⟨by omega, by omega⟩) (fun w => layout_2 w) (fun T w => chk_2a _ _ _ 1 3 5 7 T w (by rw [n3]; omega) (by rw [n3]; omega) (by rw [n1]; omega))).mono fun e w' h => ⟨.inl ⟨1, 1, _, _, _, _, _, by decide, h.1, hd⟩, h.2⟩
            · by_cases hM2 : num2 l[3] l[4] < num2 l[1] l[2]
              · rw [if_pos (.inr hM2)] at hd
                refine (head_any v l w hv hl h1 2 1 3 5 7 1 1 k2 (by omega) (.inr ⟨by omega, by omega⟩) (.inr ⟨by omega, by omega⟩) (.inr ⟨by omega, by omega⟩) (fun w => layout_2 w) (fun T w => chk_2b _ _ _ 1 3 5 7 T w (by rw [n3]; omega) (by rw [n3]; omega) (by rw [n1]; omega) (by rw [n1, n3]; omega))).mono fun e w' h => ⟨.inl ⟨1, 1, _, _, _, _, _, by decide, h.1, hd⟩, h.2⟩
              · rw [if_neg (by omega)] at hd
                refine (head_any v l w hv hl h1 2 1 3 5 7 0 0 k2 (by omega) (.inr ⟨by omega, by omega⟩) (.inr ⟨by omega, by omega⟩) (.inr ⟨by omega, by omega⟩) (fun w => layout_2 w) (fun T w => chk_2 _ _ _ 1 3 5 7 T w (by rw [n3]; omega) (by rw [n3]; omega) (by rw [n1]; omega) (by rw [n1, n3]; omega))).mono fun e w' h => ⟨.inr ⟨2, num2 l[1] l[2], num2 l[3] l[4], num2 l[5] l[6], 7, .inr (.inl rfl), by omega, by omega, h7, ?_, ?_⟩, h.2⟩
                · rw [h.1, n1, n3, n5]; rfl
                · rw [hd, decK_T _ _ _ _ _ _ (by decide)]
        · refine (head_short v l w hv h1 2 1 3 5 7 k2 (by omega) (fun w => layout_2 w)).mono fun e w' h => ⟨.inl ⟨5, l.length, _, _, _, _, _, by decide, h.1, decS_2s l (by omega) k2 (by omega)⟩, h.2⟩
      · by_cases k3 : (l[0].toNat : Int) = 3
        · by_cases h5 : 5 ≤ l.length
          · have n1 : numP l 1 = num2 l[1] l[2] := numP_at l 1 (by omega) (by omega)
            have n3 : numP l 3 = num2 l[3] l[4] := numP_at l 3 (by omega) (by omega)
            have n0 : numP l 0 = 0 := rfl
            have hd := decS_3 l h5 hl k3
            rw [dec3G] at hd
            by_cases hN : num2 l[3] l[4] < 1 ∨ (500 : Int) < num2 l[3] l[4]
            · rw [if_pos hN] at hd
              refine (head_any v l w hv hl h1 3 1 3 0 5 1 3 k3 (by omega) (.inr ⟨by omega, by omega⟩) (.inr ⟨by omega, by omega⟩) (.inl rfl) (fun w => layout_3 w) (fun T w => chk_n 3 _ _ _ 1 3 0 5 T w (by rw [n3]; exact hN))).mono fun e w' h => ⟨.inl ⟨1, 3, _, _, _, _, _, by decide, h.1, hd⟩, h.2⟩
            · rw [if_neg hN] at hd
              by_cases hM1 : num2 l[3] l[4] ≤ num2 l[1] l[2]
              · rw [if_pos hM1] at hd
                refine (head_any v l w hv hl h1 3 1 3 0 5 1 1 k3 (by omega) (.inr ⟨by omega, by omega⟩) (.inr ⟨by omega, by omega⟩) (.inl rfl) (fun w => layout_3 w) (fun T w => chk_3a _ _ _ 1 3 0 5 T w (by rw [n3]; omega) (by rw [n3]; omega) (by rw [n1, n3]; omega))).mono fun e w' h => ⟨.inl ⟨1, 1, _, _, _, _, _, by decide, h.1, hd⟩, h.2⟩
              · rw [if_neg hM1] at hd
                refine (head_any v l w hv hl h1 3 1 3 0 5 0 0 k3 (by omega) (.inr ⟨by omega, by omega⟩) (.inr ⟨by omega, by omega⟩) (.inl rfl) (fun w => layout_3 w) (fun T w => chk_3 _ _ _ 1 3 0 5 T w (by rw [n3]; omega) (by rw [n3]; omega) (by rw [n1, n3]; omega))).mono fun e w' h => ⟨.inr ⟨3, num2 l[1] l[2], num2 l[3] l[4], 0, 5, .inr (.inr rfl), by omega, by omega, h5, ?_, ?_⟩, h.2⟩
                · rw [h.1, n0, n1, n3]; rfl
                · rw [hd, decK_T _ _ _ _ _ _ (by decide)]
          · refine (head_short v l w hv h1 3 1 3 0 5 k3 (by omega) (fun w => layout_3 w)).mono fun e w' h => ⟨.inl ⟨5, l.length, _, _, _, _, _, by decide, h.1, decS_3s l (by omega) k3 (by omega)⟩, h.2⟩
        · refine (head_bad v l w hv h1 _ rfl (by omega)).mono fun e w' h => ⟨.inl ⟨4, 0, _, _, _, _, _, by decide, h.1, decS_kind l (by omega) hl (by omega)⟩, h.2⟩
  · have e0 : l = [] := List.eq_nil_of_length_eq_zero (by omega)
    subst e0
    refine (head_nil v w hv).mono fun e w' h => ⟨.inl ⟨5, 0, _, _, _, _, _, by decide, h.1, rfl⟩, h.2⟩

theorem kindsOf_any (k M N R : Int) (T : Value) (w : World) (hk : k = 1 ∨ k = 2 ∨ k = 3) (h1 : 1 ≤ N) (hN : N ≤ 500) :
    Calls Tryz.prog 121 #[.agg #[.int .i64 k, .int .i64 M, .int .i64 N, .int .i64 R, T]] w fun e w' => ∃ v', e = .returned v' ∧ IntsAt w' v' (kindsM k M N) ∧ Below w.heap.size w w' := by
  have eN : N = ((N.toNat : Nat) : Int) := by omega
  unfold kindsM
  rcases hk with rfl | rfl | rfl
  · rw [if_pos rfl]
    exact kindsOf_1 M N R T w
  · rw [if_neg (by decide)]
    have := kindsOf_2 M R N.toNat T w (by omega) (by omega)
    rw [← eN] at this
    exact this
  · rw [if_neg (by decide)]
    have := kindsOf_3 M R N.toNat T w (by omega) (by omega)
    rw [← eN] at this
    exact this
theorem kindsM_small (k M N : Int) : ∀ x ∈ kindsM k M N, 0 ≤ x ∧ x ≤ 3 := by
  unfold kindsM
  split
  · intro x hx; cases hx
  · exact kindsL_small k M N _ 0
theorem kindsM_len (k M N : Int) (hN : N ≤ 500) : (kindsM k M N).length ≤ 100000 := by
  unfold kindsM
  split
  · simp
  · have h1 := kindsL_len k M N (dep N.toNat) 0
    have h2 : pw (dep N.toNat) ≤ 512 := pw_le (e := 9) (dep_500 N hN)
    omega
end Go.Proofs.YtlndinigbppafaaGreat
