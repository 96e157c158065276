/-
  The walks of the program's Decode: the kinds that a head has, all nodes, the whole.
-/
import Derived.Test.YtpdjdaipijjeeaaCodB
import Derived.Test.YtpdjdaipijjeeaaCodE
import Derived.Test.YtpdjdaipijjeeaaKinB
import Derived.Test.YtpdjdaipijjeeaaDecC
namespace Go.Proofs.Ytpdjdaipijjeeaa
open Go.RowKit

/-- The kinds of the nodes of a message with this head. -/
def kindsM (k M N : Int) : List Int := if k = 1 then [] else kindsL k M N (dep N.toNat) 0

set_option maxRecDepth 100000 in
set_option maxHeartbeats 1000000 in
theorem kindsOf_1 (M N R : Int) (T : Value) (w : World) :
    Calls Try.prog 83 #[.agg #[.int .i64 1, .int .i64 M, .int .i64 N, .int .i64 R, T]] w fun e w' => ∃ v', e = .returned v' ∧ IntsAt w' v' [] ∧ Below w.heap.size w w' := by
  go_enter Try.func83, Try.ntmps83
  go_wp2
  all_goals go_ret
  all_goals exact ⟨_, rfl, ⟨none, 0, rfl, fun _ => rfl, fun h => (by simp at h)⟩, by go_grown⟩

set_option maxRecDepth 100000 in
set_option maxHeartbeats 1000000 in
theorem kindsOf_2 (M R : Int) (N : Nat) (T : Value) (w : World) (h1 : 1 ≤ N) (hN : N ≤ 500) :
    Calls Try.prog 83 #[.agg #[.int .i64 2, .int .i64 M, .int .i64 N, .int .i64 R, T]] w fun e w' => ∃ v', e = .returned v' ∧ IntsAt w' v' (kindsL 2 M N (dep N) 0) ∧ Below w.heap.size w w' := by
  rw [← kindsR_G]
  go_enter Try.func83, Try.ntmps83
  go_wp2_with fail
  have c1 : (w.alloc (.cells #[.int .i64 2, .int .i64 M, .int .i64 N, .int .i64 R, T] 42)).cell? ⟨w.heap.size, 1, none⟩ = some (.int .i64 M) := by simp
  have c2 : (w.alloc (.cells #[.int .i64 2, .int .i64 M, .int .i64 N, .int .i64 R, T] 42)).cell? ⟨w.heap.size, 2, none⟩ = some (.int .i64 N) := by simp
  have hA : Below w.heap.size w (w.alloc (.cells #[.int .i64 2, .int .i64 M, .int .i64 N, .int .i64 R, T] 42)) := (Below.refl _ _).alloc (Nat.le_refl _) _
  generalize w.alloc (.cells #[.int .i64 2, .int .i64 M, .int .i64 N, .int .i64 R, T] 42) = W at c1 c2 hA ⊢
  go_region_held3 (fun w' => w'.cell? ⟨w.heap.size, 1, none⟩ = some (.int .i64 M) ∧ w'.cell? ⟨w.heap.size, 2, none⟩ = some (.int .i64 N)) (first | exact ⟨c1, c2⟩ | (with_reducible assumption) | fail)
    (first
      | (go_at_call 61; refine (growthRule_any M _).mono ?_; rintro e w1 ⟨R1, rfl, hR1, hb1⟩; have hk1 := And.intro (cell_keep c1 (((Below.refl _ _).drew).trans hb1)) (cell_keep c2 (((Below.refl _ _).drew).trans hb1)))
      | (go_at_call 100; refine (Kinds_any N _ R1 _ h1 hN hR1).mono ?_; rintro e w2 ⟨v2, rfl, hN2, hb2⟩; have hk2 := And.intro (cell_keep hk1.1 hb2) (cell_keep hk1.2 hb2))
      | fail)
  all_goals go_wp2
  all_goals go_ret
  all_goals exact ⟨_, rfl, hN2, hA.trans (((((Below.refl _ _).drew).trans hb1).trans (hb2.mono (((Below.refl _ _).drew).trans hb1).size)).mono hA.size)⟩

set_option maxRecDepth 100000 in
set_option maxHeartbeats 1000000 in
theorem kindsOf_3 (M R : Int) (N : Nat) (T : Value) (w : World) (h1 : 1 ≤ N) (hN : N ≤ 500) :
    Calls Try.prog 83 #[.agg #[.int .i64 3, .int .i64 M, .int .i64 N, .int .i64 R, T]] w fun e w' => ∃ v', e = .returned v' ∧ IntsAt w' v' (kindsL 3 M N (dep N) 0) ∧ Below w.heap.size w w' := by
  rw [← kindsR_M]
  go_enter Try.func83, Try.ntmps83
  go_wp2_with fail
  have c1 : (w.alloc (.cells #[.int .i64 3, .int .i64 M, .int .i64 N, .int .i64 R, T] 42)).cell? ⟨w.heap.size, 1, none⟩ = some (.int .i64 M) := by simp
  have c2 : (w.alloc (.cells #[.int .i64 3, .int .i64 M, .int .i64 N, .int .i64 R, T] 42)).cell? ⟨w.heap.size, 2, none⟩ = some (.int .i64 N) := by simp
  have hA : Below w.heap.size w (w.alloc (.cells #[.int .i64 3, .int .i64 M, .int .i64 N, .int .i64 R, T] 42)) := (Below.refl _ _).alloc (Nat.le_refl _) _
  generalize w.alloc (.cells #[.int .i64 3, .int .i64 M, .int .i64 N, .int .i64 R, T] 42) = W at c1 c2 hA ⊢
  go_region_held3 (fun w' => w'.cell? ⟨w.heap.size, 1, none⟩ = some (.int .i64 M) ∧ w'.cell? ⟨w.heap.size, 2, none⟩ = some (.int .i64 N)) (first | exact ⟨c1, c2⟩ | (with_reducible assumption) | fail)
    (first
      | (go_at_call 63; refine (memberRule_any M _).mono ?_; rintro e w1 ⟨R1, rfl, hR1, hb1⟩; have hk1 := And.intro (cell_keep c1 (((Below.refl _ _).drew).trans hb1)) (cell_keep c2 (((Below.refl _ _).drew).trans hb1)))
      | (go_at_call 100; refine (Kinds_any N _ R1 _ h1 hN hR1).mono ?_; rintro e w2 ⟨v2, rfl, hN2, hb2⟩; have hk2 := And.intro (cell_keep hk1.1 hb2) (cell_keep hk1.2 hb2))
      | fail)
  all_goals go_wp2
  all_goals go_ret
  all_goals exact ⟨_, rfl, hN2, hA.trans (((((Below.refl _ _).drew).trans hb1).trans (hb2.mono (((Below.refl _ _).drew).trans hb1).size)).mono hA.size)⟩

theorem rd1_le (s : List UInt8) (k : Int) (a : Nat) (n : PN) (b : Nat) (h : rd1 s k a = .ok (n, b)) : b ≤ s.length := by
  unfold rd1 at h
  split at h
  · cases h
  · rename_i c hc
    have hlt : a < s.length := (List.getElem?_eq_some_iff.1 hc).1
    split at h
    · cases h
    · split at h
      · split at h
        · rename_i x y h1 h2
          have := (List.getElem?_eq_some_iff.1 h2).1
          simp only [Except.ok.injEq, Prod.mk.injEq] at h
          omega
        · cases h
      · split at h
        · split at h
          · cases h
          · split at h
            · cases h
            · split at h
              · cases h
              · simp only [Except.ok.injEq, Prod.mk.injEq] at h
                omega
        · simp only [Except.ok.injEq, Prod.mk.injEq] at h
          omega
theorem rdL_snoc (s : List UInt8) (ks : List Int) (k : Int) (a : Nat) (ns : List PN) (b : Nat) (h : rdL s ks a = .ok (ns, b)) : rdL s (ks ++ [k]) a =
    match rd1 s k b with
    | .error e => .error e
    | .ok (n, c) => .ok (ns ++ [n], c) := by
  rw [rdL_append, h]
  simp only [rdL_cons]
  cases rd1 s k b with
  | error e => rfl
  | ok v => rfl
theorem rdL_stop (s : List UInt8) (ks : List Int) (j : Nat) (hj : j < ks.length) (a : Nat) (ns : List PN) (b : Nat) (h : rdL s (ks.take j) a = .ok (ns, b)) (y : Int × Nat) (hy : rd1 s ks[j] b = .error y) : rdL s ks a = .error y := by
  have e : ks = ks.take j ++ (ks[j] :: ks.drop (j + 1)) := by rw [List.getElem_cons_drop, List.take_append_drop]
  rw [e, rdL_append, h]
  simp only [rdL_cons, hy]
theorem IntsAt.frame {w w' : World} {B : Nat} {v : Value} {ks : List Int} {cur : Array Value} {fr : Nat × Nat} {t : TypeId} (h : IntsAt w v ks) (hF : Frame2 w w' B none) (hB : w.heap[B]? = some (.cells cur t fr)) (ht : t ≠ 3) : IntsAt w' v ks := by
  obtain ⟨ao, cap, rfl, hz, h⟩ := h
  refine ⟨ao, cap, rfl, hz, fun hl => ?_⟩
  obtain ⟨b, o, cur', fr', rfl, hlt, hc⟩ := h hl
  refine ⟨b, o, cur', fr', rfl, ?_, hc⟩
  rw [hF.block b (lt_of_heap hlt) ?_ (by simp)]
  · exact hlt
  · intro e
    subst e
    rw [hB] at hlt
    simp at hlt
    exact ht hlt.2.1
theorem Frame2.grown {w w1 w2 : World} {B : Nat} {v : Value} (h : Frame2 w w1 B none) (hg : w1.grownBy w2 v.ownBlock) (hv : ∀ g, v.ownBlock = some g → w.heap.size ≤ g) : Frame2 w w2 B none :=
  ⟨hg.os.trans h.os, hg.tape.trans h.tape, hg.output.trans h.output, Nat.le_trans h.size hg.size, fun k hk hB hr => (hg.block k (Nat.lt_of_lt_of_le hk h.size) (fun e => by have := hv k e.symm; omega)).trans (h.block k hk hB hr)⟩

/-- What reading all nodes gives. -/
def NodesR (w w' : World) (B : Nat) (v : Value) (l : List UInt8) (e : Ending) (rd : Except (Int × Nat) (List PN × Nat)) : Prop :=
  Frame2 w w' B none ∧ match rd with
  | .error (f, q) => f ≠ 0 ∧ e = .returned (.tuple #[.slice none 0 0, .agg #[.int .i64 f, .int .i64 q]]) ∧ ∃ a, RdAt w' B v l a
  | .ok (ns, a') => ∃ T, e = .returned (.tuple #[T, .agg #[.int .i64 0, .int .i64 0]]) ∧ RdAt w' B v l a' ∧ w'.ownsRow w.heap.size 100 3 T ns.length (cellsN ns)
theorem own_ge {w : World} {base e size : Nat} {v : Value} {n : Nat} {xs : List Value} (h : w.ownsRow base e size v n xs) : ∀ g, v.ownBlock = some g → base ≤ g := fun g hg => (h.lt g hg).1
theorem own_ne_fault {u : World} {base n g : Nat} {V : Value} {xs : List Value} {cur : Array Value} {fr : Nat × Nat} (h : u.ownsRow base 100 3 V n xs) (hg : u.heap[g]? = some (.cells cur 110 fr)) : some g ≠ V.ownBlock := by
  intro x
  rcases h.2 with ⟨rfl, _⟩ | ⟨g', cap, cur', rfl, _, hgg, _⟩
  · simp [Value.ownBlock] at x
  · simp [Value.ownBlock] at x
    subst x
    rw [hgg] at hg
    simp at hg

set_option maxRecDepth 100000 in
set_option maxHeartbeats 4000000 in
theorem nodes_any (w : World) (B : Nat) (v : Value) (l : List UInt8) (a : Nat) (V : Value) (ks : List Int) (hr : RdAt w B v l a) (ha : a ≤ l.length) (hl : l.length ≤ 4000) (hV : IntsAt w V ks) (hk : ∀ k ∈ ks, 0 ≤ k ∧ k ≤ 3) (hn : ks.length ≤ 100000) :
    Calls Try.prog 82 #[.pointer (some ⟨B, 0, none⟩), V] w fun e w' => NodesR w w' B v l e (rdL l ks a) := by
  obtain ⟨ao, cap, rfl, hz, hrow⟩ := id hV
  obtain ⟨i0, hi, hz0, hz1, hz2⟩ := info_parts Try.infoNode
  have hBw := lt_of_heap hr.1
  have HK : Hid _ := hk
  clear hk
  go_enter Try.func82, Try.ntmps82
  go_wp2
  go_loopw [6, 13] (fun T i wr => ∃ (j : Nat) (ns : List PN) (b : Nat), j ≤ ks.length ∧ i = .int .i64 j ∧ ns.length = j ∧ Hid (rdL l (ks.take j) a = .ok (ns, b)) ∧ b ≤ l.length ∧ RdAt wr B v l b ∧ wr.ownsRow w.heap.size 100 3 T ns.length (cellsN ns) ∧ Frame2 w wr B none ∧ wr.heap[w.heap.size]? = some (.cells #[.int .i64 0, .int .i64 0] 110 (0, 0))) (fun _ i _ => ks.length - (intOf i).toNat)
  case atStart =>
    have hA : Below w.heap.size w (w.alloc (.cells #[.int .i64 0, .int .i64 0] 110)) := (Below.refl _ _).alloc (Nat.le_refl _) _
    exact ⟨0, [], a, Nat.zero_le _, rfl, rfl, rfl, ha, hr.below hA, World.ownsRow_nil _ _ _ _, Frame2.of_below B none hA, heap_alloc_new _ _⟩
  case round =>
    obtain ⟨j, ns, b, hj, rfl, hns, HR, hb, hrb, hown, hF, hbox⟩ := hrel
    have hsz := hF.size
    by_cases hlt : j < ks.length
    · obtain ⟨bk, ok, cur, fr, rfl, hbk, hcell⟩ := hrow (by omega)
      have hV' := hV.frame hF hr.1 (by decide)
      obtain ⟨_, _, e, _, hc'⟩ := hV'
      simp only [Value.slice.injEq] at e
      obtain ⟨rfl, -, -⟩ := e
      obtain ⟨bk', ok', cur', fr', e, hbk', hcell'⟩ := hc' (by omega)
      cases e
      have ck : (_ : World).cell? ⟨bk, ok + j, none⟩ = some (.int .i64 ks[j]) := (cell_of_row _ _ _ _ _ _ hbk').trans (hcell' j hlt)
      have hkj := HK.out ks[j] (List.getElem_mem hlt)
      have HND := nd_any _ B v l b ks[j] hrb hb hl hkj.1 hkj.2
      clear hcell hcell' hc' hbk hbk' hrow
      go_wp2_with fail
      refine HND.mono ?_
      rintro e u1 ⟨hF1, hout⟩
      have hF2 : Frame2 w u1 B none := hF.trans hF1
      have hbox1 : u1.heap[w.heap.size]? = some (.cells #[.int .i64 0, .int .i64 0] 110 (0, 0)) := by rw [hF1.block _ (lt_of_heap hbox) (by omega) (by simp)]; exact hbox
      have hge := own_ge hown
      have hown1 := owns_frame2 hown hF1 (fun e => by have := hge B e; omega) (fun g _ => by simp)
      have hsz1 := hF2.size
      obtain ⟨y0, y1, g0, g1⟩ := FaultZ.cells hbox1
      have hbx := lt_of_heap hbox1
      clear HND hbox hown hF hrb ck
      cases hrd : rd1 l ks[j] b with
      | error y =>
        obtain ⟨f, q⟩ := y
        rw [hrd] at hout
        obtain ⟨hne, rfl, ax, hrx⟩ := hout
        have HS : Hid (rdL l ks a = .error (f, q)) := rdL_stop l ks j hlt a ns b HR.out _ hrd
        have hfn : (f != 0) = true := by rw [bne, beq_eq_false_iff_ne.2 hne]; rfl
        clear hrd HR
        go_wp2
        have hA2 : Below u1.heap.size u1 ((u1.alloc (.cells #[.int .i64 0, .int .i64 0, .string ⟨#[]⟩] 100)).alloc (.cells #[.int .i64 f, .int .i64 q] 110)) := ((Below.refl _ _).alloc (Nat.le_refl _) _).alloc (by simp) _
        have p0 : ((u1.alloc (.cells #[.int .i64 0, .int .i64 0, .string ⟨#[]⟩] 100)).alloc (.cells #[.int .i64 f, .int .i64 q] 110)).cell? ⟨u1.heap.size + 1, 0, none⟩ = some (.int .i64 f) := by
          rw [cell_of_row _ _ _ _ _ _ (heap_new _ _ _ (by simp))]; rfl
        have p1 : ((u1.alloc (.cells #[.int .i64 0, .int .i64 0, .string ⟨#[]⟩] 100)).alloc (.cells #[.int .i64 f, .int .i64 q] 110)).cell? ⟨u1.heap.size + 1, 1, none⟩ = some (.int .i64 q) := by
          rw [cell_of_row _ _ _ _ _ _ (heap_new _ _ _ (by simp))]; rfl
        have hbox2 : ((u1.alloc (.cells #[.int .i64 0, .int .i64 0, .string ⟨#[]⟩] 100)).alloc (.cells #[.int .i64 f, .int .i64 q] 110)).heap[w.heap.size]? = some (.cells #[.int .i64 0, .int .i64 0] 110 (0, 0)) := by rw [hA2.block _ hbx]; exact hbox1
        have hF3 : Frame2 w _ B none := hF2.then hA2
        have hr3 := hrx.below hA2
        clear hrx
        have hnn : ¬ w.heap.size = u1.heap.size + 1 := by omega
        clear y0 y1 g0 g1
        generalize (u1.alloc (.cells #[.int .i64 0, .int .i64 0, .string ⟨#[]⟩] 100)).alloc (.cells #[.int .i64 f, .int .i64 q] 110) = u2 at hF3 hbox2 p0 p1 hr3 ⊢
        clear hA2
        obtain ⟨y0, y1, g0, g1⟩ := FaultZ.cells hbox2
        go_region_held3 (fun w' => w'.cell? ⟨u1.heap.size + 1, 0, none⟩ = some (.int .i64 f) ∧ w'.cell? ⟨u1.heap.size + 1, 1, none⟩ = some (.int .i64 q)) (go_keep) (fail)
        all_goals go_wp2
        all_goals refine bodyPost_ret (v := .tuple #[.slice none 0 0, .agg #[.int .i64 f, .int .i64 q]]) (by simp [results, Try.results82, go_sem, y0, y1]) rfl ?_
        all_goals rw [HS.out]
        all_goals have hF4 := ((hF3.setOut w.heap.size 0 (.int .i64 f) (Nat.le_refl _)).setOut w.heap.size 1 (.int .i64 q) (Nat.le_refl _)).then ((Below.refl _ _).drew)
        all_goals refine ⟨hF4, hne, rfl, ax, hr.of_frame hF4 ?_⟩
        all_goals show ((u2.setCell _ _).setCell _ _).heap[B]? = _
        all_goals rw [Below.heap_setCell _ _ _ _ (show B ≠ w.heap.size by omega), Below.heap_setCell _ _ _ _ (show B ≠ w.heap.size by omega)]
        all_goals exact hr3.1
      | ok y =>
        obtain ⟨n, b'⟩ := y
        have hb' := rd1_le l ks[j] b n b' hrd
        rw [hrd] at hout
        obtain ⟨rfl, hr1⟩ := hout
        have HR' : Hid (rdL l (ks.take (j + 1)) a = .ok (ns ++ [n], b')) := by
          show _ = _
          rw [take_snoc ks j hlt, rdL_snoc l _ _ _ _ _ HR.out, hrd]
        clear hrd HR
        have hA1 : Below u1.heap.size u1 (((u1.alloc (.cells #[.int .i64 n.kind, .int .i64 n.dig, .string n.ev] 100)).alloc (.cells #[.int .i64 0, .int .i64 0] 110)).alloc (.cells #[.int .i64 n.kind, .int .i64 n.dig, .string n.ev] 100)) := (((Below.refl _ _).alloc (Nat.le_refl _) _).alloc (by simp) _).alloc (by simp; omega) _
        have hown3 := owns_below hown1 hA1
        have hr3 := hr1.below hA1
        have hF3 : Frame2 w _ B none := hF2.then hA1
        have hbox3 : (((u1.alloc (.cells #[.int .i64 n.kind, .int .i64 n.dig, .string n.ev] 100)).alloc (.cells #[.int .i64 0, .int .i64 0] 110)).alloc (.cells #[.int .i64 n.kind, .int .i64 n.dig, .string n.ev] 100)).heap[w.heap.size]? = some (.cells #[.int .i64 0, .int .i64 0] 110 (0, 0)) := by rw [hA1.block _ (lt_of_heap hbox1)]; exact hbox1
        have hnb := own_ne_fault hown3 hbox3
        have hlit := node_at ((u1.alloc (.cells #[.int .i64 n.kind, .int .i64 n.dig, .string n.ev] 100)).alloc (.cells #[.int .i64 0, .int .i64 0] 110)) n.kind n.dig n.ev (u1.heap.size + 1 + 1) (by simp)
        have HNW : Hid _ := hlit.news _ rfl
        have HF3 : Hid _ := hF3
        have HA1 : Hid _ := hA1
        have HX3 : Hid _ := hbox3
        have HR3 : Hid _ := hr3
        have HO3 : Hid _ := hown3
        clear hF3 hA1 hbox3 hr3 hown3 hlit
        go_wp2_with (at_builtin; refine wpList_append_own _ rfl (.tmp 27) (.tmp 29) 40 rfl w.heap.size 100 i0 (.agg #[.int .i64 0, .int .i64 0, .string ByteArray.empty]) 3 32 Try.underlying40 hi hz0 hz1 hz2 rfl (by decide) _ _ _ rfl HO3.out ⟨u1.heap.size + 1 + 1, 0, none⟩ 1 1 (cellsN [n]) rfl (by rw [cellsN_length]; rfl) HNW.out (cellsN_one [n]) (by unfold maxLen; omega) (by omega) (by simp; omega) ?_)
        intro v' w2 hown' hgrow _
        have hFw := HF3.out.grown hgrow hge
        have hB2 : w2.heap[B]? = some (.cells #[v, .int .i64 b'] 126 (0, 0)) := by
          rw [hgrow.block B (by simp; omega) (fun e => by have := hge B e.symm; omega)]
          exact HR3.out.1
        have hX2 : w2.heap[w.heap.size]? = some (.cells #[.int .i64 0, .int .i64 0] 110 (0, 0)) := by
          rw [hgrow.block _ (by simp; omega) hnb]
          exact HX3.out
        have hR2 := hr.of_frame hFw hB2
        clear hgrow HO3 HR3 HX3 HF3 HA1 HNW hnb
        go_wp2
        go_roundw
        case rel => exact ⟨j + 1, ns ++ [n], b', by omega, by go_num, by rw [List.length_append, hns]; rfl, HR', hb', hR2, by rw [List.length_append, hns, cellsN_append]; exact hown', hFw, hX2⟩
        case measure => simp [intOf]; omega
    · have hje : j = ks.length := by omega
      subst hje
      rw [List.take_length] at HR
      obtain ⟨y0, y1, g0, g1⟩ := FaultZ.cells hbox
      have hbx := lt_of_heap hbox
      have hn1 := (own_ne_fault hown hbox).symm
      go_wp2
      refine bodyPost_ret (v := .tuple #[u6, .agg #[.int .i64 0, .int .i64 0]]) (by simp [results, Try.results82, go_sem, y0, y1]) rfl ?_
      rw [HR.out]
      have hF' := (hF.setOut w.heap.size 0 (.int .i64 0) (Nat.le_refl _)).setOut w.heap.size 1 (.int .i64 0) (Nat.le_refl _)
      refine ⟨hF', u6, rfl, hr.of_frame hF' ?_, ownsRow_setCell_other (ownsRow_setCell_other hown hn1 _) hn1 _⟩
      rw [Below.heap_setCell _ _ _ _ (show B ≠ w.heap.size by omega), Below.heap_setCell _ _ _ _ (show B ≠ w.heap.size by omega)]
      exact hrb.1
end Go.Proofs.Ytpdjdaipijjeeaa
