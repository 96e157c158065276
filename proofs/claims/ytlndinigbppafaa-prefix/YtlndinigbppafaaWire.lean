/-
  The walks of the program's wire: Two, Join.
-/
import Derived.Test.YtlndinigbppafaaSumW
import Derived.Deep.RegionHeld3
import Derived.Laws.AppendOwnNone
namespace Go.Proofs.Ytlndinigbppafaa
open Go.RowKit

theorem Try.infoByte : (Try.prog.info? 5).map (fun i => (i.zero, i.size, i.bytes)) = some (some (.int .u8 0), 1, 1) := by kernel_rfl

set_option maxRecDepth 100000 in
set_option maxHeartbeats 400000 in
theorem wireTwo_any (n : Int) (w : World) (h0 : 0 ≤ n) (h1 : n ≤ 65535) :
    Calls Try.prog 87 #[.int .i64 n] w fun e w' => e = .returned (.slice (some ⟨w.heap.size, 0, none⟩) 2 2) ∧ w' = w.alloc (.cells #[.int .u8 (n / 256), .int .u8 (n % 256)] 5) := by
  go_enter Try.func87, Try.ntmps87
  go_wp2
  go_ret
  exact ⟨rfl, rfl⟩

theorem two8_at (n : Int) (w : World) (b : Nat) (h0 : 0 ≤ n) (h1 : n ≤ 65535) (hb : b = w.heap.size) : BytesAt (w.alloc (.cells #[.int .u8 (n / 256), .int .u8 (n % 256)] 5)) (.slice (some ⟨b, 0, none⟩) 2 2) (two8 n) := by
  subst hb
  refine ⟨_, _, rfl, fun h => (by cases h), fun _ => ⟨_, _, _, _, rfl, heap_alloc_new w _, fun j hj => ?_⟩⟩
  have e1 := b8_nat (n / 256 % 256) (by omega) (by omega)
  have e2 := b8_nat (n % 256) (by omega) (by omega)
  unfold b8 at e1 e2
  match j, hj with
  | 0, _ => show some (Value.int .u8 (n / 256)) = some (.int .u8 ((UInt8.ofNat (n / 256 % 256).toNat).toNat : Int)); rw [e1, show n / 256 % 256 = n / 256 by omega]
  | 1, _ => show some (Value.int .u8 (n % 256)) = some (.int .u8 ((UInt8.ofNat (n % 256).toNat).toNat : Int)); rw [e2]

set_option maxRecDepth 100000 in
set_option maxHeartbeats 400000 in
theorem join_any (ls : List (List UInt8)) (v : Value) (w : World) (hv : RowsAt w v ls) (hn : ls.length ≤ 2000000) (hl : ls.flatten.length ≤ 1000000000) :
    Calls Try.prog 71 #[v] w fun e w' => ∃ v', e = .returned v' ∧ w'.ownsRow w.heap.size 5 1 v' ls.flatten.length (bytes8 ls.flatten) ∧ Below w.heap.size w w' := by
  obtain ⟨ao, cap, rfl, hc⟩ := hv.cells
  clear hv
  obtain ⟨i0, hi, hz0, hz1, hz2⟩ := info_parts Try.infoByte
  go_enter Try.func71, Try.ntmps71
  go_wp2
  go_loopw [3, 8] (fun v i wr => ∃ k : Nat, k ≤ ls.length ∧ i = .int .i64 k ∧ wr.ownsRow w.heap.size 5 1 v (ls.take k).flatten.length (bytes8 (ls.take k).flatten) ∧ Below w.heap.size w wr) (fun _ i _ => ls.length - (intOf i).toNat)
  case atStart => exact ⟨0, Nat.zero_le _, rfl, World.ownsRow_nil _ _ _ _, Below.refl _ _⟩
  case round =>
    obtain ⟨k, hk, rfl, hown, hbel⟩ := hrel
    have hsz := hbel.size
    by_cases hlt : k < ls.length
    · obtain ⟨b, o, rfl, hcell⟩ := hc (by omega)
      obtain ⟨u, hu, hbytes⟩ := hcell k hlt
      have hbB : b < w.heap.size := World.block_lt_of_cell? w _ hu
      have hu' := (hbel.cell (p := ⟨b, o + k, none⟩) hbB).trans hu
      have hb2 := hbytes.keep (KeepsT.of_below hbel (Nat.le_refl _))
      obtain ⟨bo, cp, rfl, hz, hb⟩ := hb2.cells
      have HF : Hid ((ls.take (k + 1)).flatten = (ls.take k).flatten ++ ls[k]) := flatten_snoc ls k hlt
      have hfl : (ls.take k).flatten.length + ls[k].length ≤ 1000000000 := by
        have e : ls.flatten = (ls.take (k + 1)).flatten ++ (ls.drop (k + 1)).flatten := by rw [← List.flatten_append, List.take_append_drop]
        have e2 := congrArg List.length e
        rw [HF.out, List.length_append, List.length_append] at e2
        omega
      clear hcell hc hu hbytes hb2
      generalize hL : ls[k] = l at *
      generalize hM : (ls.take k).flatten = M at *
      clear hL hM
      cases bo with
      | none =>
        have hl0 : l.length = 0 := by
          rcases Nat.eq_zero_or_pos l.length with h | h
          · exact h
          · obtain ⟨_, _, h1, _⟩ := hb h; cases h1
        obtain rfl : l = [] := List.eq_nil_of_length_eq_zero hl0
        obtain rfl := hz rfl
        rw [List.append_nil] at HF
        clear hb hz hl0
        go_wp2_with (at_builtin; refine wpList_append_own_none rfl (.tmp 12) (.tmp 13) 24 rfl w.heap.size 5 i0 1 Try.underlying24 hi _ _ _ rfl hown rfl ?_)
        go_roundw
        case rel => exact ⟨k + 1, by omega, by go_num, by rw [HF.out]; exact hown, hbel⟩
        case measure => simp [intOf]; omega
      | some ad =>
        go_wp2_with (at_builtin; refine wpList_append_own _ rfl (.tmp 12) (.tmp 13) 24 rfl w.heap.size 5 i0 (.int .u8 0) 1 1 Try.underlying24 hi hz0 hz1 hz2 rfl (by decide) _ _ _ rfl hown ad l.length cp (bytes8 l) rfl (by rw [bytes8_length]; omega) ?c1 (bytes8_one l) (by unfold maxLen; omega) (by omega) hsz ?_)
        case c1 =>
          intro j u hj
          have hjl : j < l.length := by have := (List.getElem?_eq_some_iff.1 hj).1; rwa [bytes8_length] at this
          obtain ⟨b', o', h1, h2⟩ := hb (by omega)
          cases h1
          have h3 : (bytes8 l)[j]? = some (.int .u8 l[j].toNat) := by simp [bytes8, hjl]
          rw [h3] at hj
          cases hj
          rw [show (⟨b', o', none⟩ : Addr).add j = ⟨b', o' + j, none⟩ by unfold Addr.add; split <;> simp_all]
          exact h2 j hjl
        · intro v' w1 hown' hgrow _
          have R := hbel.grown hgrow hsz (fun g hg => (hown.lt g hg).1)
          clear hown hbel hgrow hu'
          go_wp2
          go_roundw
          case rel => exact ⟨k + 1, by omega, by go_num, by rw [HF.out, List.length_append, bytes8_append]; exact hown', R⟩
          case measure => simp [intOf]; omega
    · have hkl : k = ls.length := by omega
      subst hkl
      rw [List.take_length] at hown
      go_wp2
      go_ret
      exact ⟨_, rfl, hown, hbel⟩
end Go.Proofs.Ytlndinigbppafaa

/-
  The walks of the program's wire: node.
-/
namespace Go.Proofs.Ytlndinigbppafaa
open Go.RowKit

theorem byte_at (x : Int) (w : World) (b : Nat) (h0 : 0 ≤ x) (h1 : x ≤ 255) (hb : b = w.heap.size) : BytesAt (w.alloc (.cells #[.int .u8 x] 5)) (.slice (some ⟨b, 0, none⟩) 1 1) [b8 x] := by
  subst hb
  refine ⟨_, _, rfl, fun h => (by cases h), fun _ => ⟨_, _, _, _, rfl, heap_alloc_new w _, fun j hj => ?_⟩⟩
  match j, hj with
  | 0, _ => show some (Value.int .u8 x) = some (.int .u8 ((b8 x).toNat : Int)); rw [b8_nat x h0 h1]
theorem made_at (w : World) (s : ByteArray) (b n cap : Nat) (fr : Nat × Nat) (hb : b = w.heap.size) (hn : n = s.size) : BytesAt (w.alloc (.cells (bytesRow s cap) 5 fr)) (.slice (some ⟨b, 0, none⟩) n cap) s.data.toList := by
  subst hb hn
  exact BytesAt.made w s cap fr
theorem heap_new (w : World) (o : Obj) (b : Nat) (hb : b = w.heap.size) : (w.alloc o).heap[b]? = some o := by subst hb; exact heap_alloc_new w o
theorem heap_old (w : World) (o : Obj) (b : Nat) (x : Obj) (h : w.heap[b]? = some x) : (w.alloc o).heap[b]? = some x := by rw [Below.heap_alloc _ _ _ (lt_of_heap h)]; exact h
/-- Two slices of bytes in a new row. -/
theorem rows2 (w : World) (b : Nat) (u0 u1 : Value) (l0 l1 : List UInt8) (hb : b = w.heap.size) (h0 : BytesAt w u0 l0) (h1 : BytesAt w u1 l1) : RowsAt (w.alloc (.cells #[u0, u1] 24)) (.slice (some ⟨b, 0, none⟩) 2 2) [l0, l1] := by
  refine RowsAt.lit rfl (heap_new w _ b hb) fun j hj => ?_
  match j, hj with
  | 0, _ => exact ⟨u0, rfl, h0.keep ((KeepsT.refl _ w).alloc _)⟩
  | 1, _ => exact ⟨u1, rfl, h1.keep ((KeepsT.refl _ w).alloc _)⟩
theorem rows3 (w : World) (b : Nat) (u0 u1 u2 : Value) (l0 l1 l2 : List UInt8) (hb : b = w.heap.size) (h0 : BytesAt w u0 l0) (h1 : BytesAt w u1 l1) (h2 : BytesAt w u2 l2) : RowsAt (w.alloc (.cells #[u0, u1, u2] 24)) (.slice (some ⟨b, 0, none⟩) 3 3) [l0, l1, l2] := by
  refine RowsAt.lit rfl (heap_new w _ b hb) fun j hj => ?_
  match j, hj with
  | 0, _ => exact ⟨u0, rfl, h0.keep ((KeepsT.refl _ w).alloc _)⟩
  | 1, _ => exact ⟨u1, rfl, h1.keep ((KeepsT.refl _ w).alloc _)⟩
  | 2, _ => exact ⟨u2, rfl, h2.keep ((KeepsT.refl _ w).alloc _)⟩
theorem rows4 (w : World) (b : Nat) (u0 u1 u2 u3 : Value) (l0 l1 l2 l3 : List UInt8) (hb : b = w.heap.size) (h0 : BytesAt w u0 l0) (h1 : BytesAt w u1 l1) (h2 : BytesAt w u2 l2) (h3 : BytesAt w u3 l3) : RowsAt (w.alloc (.cells #[u0, u1, u2, u3] 24)) (.slice (some ⟨b, 0, none⟩) 4 4) [l0, l1, l2, l3] := by
  refine RowsAt.lit rfl (heap_new w _ b hb) fun j hj => ?_
  match j, hj with
  | 0, _ => exact ⟨u0, rfl, h0.keep ((KeepsT.refl _ w).alloc _)⟩
  | 1, _ => exact ⟨u1, rfl, h1.keep ((KeepsT.refl _ w).alloc _)⟩
  | 2, _ => exact ⟨u2, rfl, h2.keep ((KeepsT.refl _ w).alloc _)⟩
  | 3, _ => exact ⟨u3, rfl, h3.keep ((KeepsT.refl _ w).alloc _)⟩

/-- A new row, written out, is owned. -/
theorem owns_lit (w : World) (base b : Nat) (cur : Array Value) (t : TypeId) (n : Nat) (us : List Value) (hb : b = w.heap.size) (hbase : base ≤ b) (hn : n = cur.size) (hm : n ≤ maxLen) (hu : us = cur.toList) : (w.alloc (.cells cur t)).ownsRow base t 1 (.slice (some ⟨b, 0, none⟩) n n) n us := by
  subst hb hn hu
  refine ⟨by simp, .inr ⟨_, _, cur, rfl, hbase, heap_alloc_new w _, Nat.le_refl _, hm, by simp, ?_⟩⟩
  rw [List.take_of_length_le (by simp)]
theorem keepA {t : TypeId} (w : World) (o : Obj) : KeepsT t w (w.alloc o) := (KeepsT.refl t w).alloc o
theorem keepD {t : TypeId} (w : World) : KeepsT t w w.drew := (KeepsT.refl t w).drew

set_option maxRecDepth 100000 in
set_option maxHeartbeats 1000000 in
theorem wireNode_any (x : PN) (w : World) (hk : 0 ≤ x.kind ∧ x.kind ≤ 255) (hd : 0 ≤ x.dig ∧ x.dig ≤ 65535) (he : x.ev.size ≤ 255) :
    Calls Try.prog 70 #[.agg #[.int .i64 x.kind, .int .i64 x.dig, .string x.ev]] w fun e w' => ∃ v', e = .returned v' ∧ BytesAt w' v' (encN x) ∧ Below w.heap.size w w' := by
  obtain ⟨hk0, hk1⟩ := hk
  obtain ⟨hd0, hd1⟩ := hd
  have ex0 : (0 : Int) ≤ (x.ev.size : Int) := by omega
  have ex1 : (x.ev.size : Int) ≤ 255 := by omega
  have hcv := fun u s => @run_bytes_of_string Try.prog u 9 24 5 s Try.underlying9 Try.underlying24 Try.underlying5
  rcases (show x.kind = 0 ∨ x.kind = 1 ∨ (¬ x.kind = 0 ∧ ¬ x.kind = 1) by omega) with k0 | k1 | ⟨k0, k1⟩
  · have b0 : (x.kind == 0) = true := by simp [k0]
    have b1 : (x.kind == 1) = false := by simp [k0]
    have HE : Hid (encN x = [[b8 x.kind], two8 x.dig].flatten) := by simp [Hid, encN, k0]
    clear k0
    go_enter Try.func70, Try.ntmps70
    go_wp2_with (go_at_call 87; refine (wireTwo_any _ _ (by assumption) (by assumption)).mono ?_; rintro e w' ⟨rfl, rfl⟩)
    refine (join_any [[b8 x.kind], two8 x.dig] _ _ (rows2 _ _ _ _ _ _ (by simp) ((byte_at _ _ _ hk0 hk1 (by simp)).keep (keepA _ _)) (two8_at _ _ _ hd0 hd1 (by simp))) (by simp) (by simp [two8])).mono ?_
    rintro e w' ⟨v', rfl, hown, hbel⟩
    go_wp2
    go_ret
    exact ⟨_, rfl, by rw [HE.out]; exact BytesAt.of_owns hown, ((((((Below.refl _ _).alloc (Nat.le_refl _) _).alloc (by simp) _).alloc (by simp; omega) _).alloc (by simp; omega) _).trans (hbel.mono (by simp; omega)))⟩
  · have b0 : (x.kind == 0) = false := by simp [k1]
    have b1 : (x.kind == 1) = true := by simp [k1]
    have HE : Hid (encN x = [[b8 x.kind], [b8 x.ev.size], x.ev.data.toList].flatten) := by simp [Hid, encN, k1]
    clear k1
    go_enter Try.func70, Try.ntmps70
    go_wp2_with fail
    refine (join_any [[b8 x.kind], [b8 x.ev.size], x.ev.data.toList] _ _ ((rows3 _ _ _ _ _ _ _ _ (by simp) (((byte_at _ _ _ hk0 hk1 (by simp)).keep (keepA _ _)).keep (keepA _ _)) ((byte_at _ _ _ ex0 ex1 (by simp)).keep (keepA _ _)) (made_at _ _ _ _ _ _ (by simp) rfl)).keep (keepD _) (keepD _)) (by simp) (by rw [← HE.out]; have := encN_le x 255 he; omega)).mono ?_
    rintro e w' ⟨v', rfl, hown, hbel⟩
    go_wp2
    go_ret
    exact ⟨_, rfl, by rw [HE.out]; exact BytesAt.of_owns hown, ((((((((Below.refl _ _).alloc (Nat.le_refl _) _).alloc (by simp) _).alloc (by simp; omega) _).alloc (by simp; omega) _).alloc (by simp; omega) _).drew).trans (hbel.mono (by simp; omega)))⟩
  · have b0 : (x.kind == 0) = false := by simp [k0]
    have b1 : (x.kind == 1) = false := by simp [k1]
    have HE : Hid (encN x = [b8 x.kind]) := by simp [Hid, encN, k0, k1]
    clear k0 k1
    go_enter Try.func70, Try.ntmps70
    go_wp2
    go_ret
    exact ⟨_, rfl, by rw [HE.out]; exact byte_at _ _ _ hk0 hk1 (by simp), ((Below.refl _ _).alloc (Nat.le_refl _) _).alloc (by simp) _⟩

set_option maxRecDepth 100000 in
set_option maxHeartbeats 1000000 in
theorem wireHead_any (k M N R : Int) (T : Value) (w : World) (hk : 0 ≤ k ∧ k ≤ 255) (hm : 0 ≤ M ∧ M ≤ 65535) (hn : 0 ≤ N ∧ N ≤ 65535) (hr : 0 ≤ R ∧ R ≤ 65535) (h3 : k = 1 ∨ k = 2 ∨ k = 3) :
    Calls Try.prog 69 #[.agg #[.int .i64 k, .int .i64 M, .int .i64 N, .int .i64 R, T]] w fun e w' => ∃ (v' : Value) (us : List Value) (ls : List (List UInt8)), e = .returned v' ∧ w'.ownsRow w.heap.size 24 1 v' us.length us ∧ ls.flatten = encH k M N R ∧ ls.length = us.length ∧ us.length ≤ 4 ∧ (∀ j (h : j < ls.length), ∃ u, us[j]? = some u ∧ BytesAt w' u ls[j]) ∧ Below w.heap.size w w' := by
  obtain ⟨hk0, hk1⟩ := hk
  obtain ⟨hm0, hm1⟩ := hm
  obtain ⟨hn0, hn1⟩ := hn
  obtain ⟨hr0, hr1⟩ := hr
  rcases h3 with k1 | k2 | k3
  · have b0 : (k == 1) = true := by simp [k1]
    have HE : Hid (encH k M N R = [[b8 k], two8 N, two8 R].flatten) := by simp [Hid, encH, k1]
    clear k1
    go_enter Try.func69, Try.ntmps69
    go_wp2
    have hB := byte_at k (w.alloc (.cells #[.int .i64 k, .int .i64 M, .int .i64 N, .int .i64 R, T] 42)) (w.heap.size + 1) hk0 hk1 (by simp)
    have fN : ((w.alloc (.cells #[.int .i64 k, .int .i64 M, .int .i64 N, .int .i64 R, T] 42)).alloc (.cells #[.int .u8 k] 5)).cell? ⟨w.heap.size, 2, none⟩ = some (.int .i64 N) := by simp
    have fR : ((w.alloc (.cells #[.int .i64 k, .int .i64 M, .int .i64 N, .int .i64 R, T] 42)).alloc (.cells #[.int .u8 k] 5)).cell? ⟨w.heap.size, 3, none⟩ = some (.int .i64 R) := by simp
    have hW : Below w.heap.size w ((w.alloc (.cells #[.int .i64 k, .int .i64 M, .int .i64 N, .int .i64 R, T] 42)).alloc (.cells #[.int .u8 k] 5)) := ((Below.refl _ _).alloc (Nat.le_refl _) _).alloc (by simp) _
    generalize (w.alloc (.cells #[.int .i64 k, .int .i64 M, .int .i64 N, .int .i64 R, T] 42)).alloc (.cells #[.int .u8 k] 5) = W at hB fN fR hW ⊢
    have hWs := hW.size
    go_region_held3 (fun w' => w'.cell? ⟨w.heap.size, 2, none⟩ = some (.int .i64 N) ∧ w'.cell? ⟨w.heap.size, 3, none⟩ = some (.int .i64 R)) (exact ⟨cell_keep fN (by repeat (first | exact Below.refl _ _ | refine Below.drew ?_ | refine Below.alloc ?_ (by first | omega | (simp; omega) | simp) _)), cell_keep fR (by repeat (first | exact Below.refl _ _ | refine Below.drew ?_ | refine Below.alloc ?_ (by first | omega | (simp; omega) | simp) _))⟩)
      (first | (go_at_call 87; refine (wireTwo_any _ _ (by assumption) (by assumption)).mono ?_; rintro e w' ⟨rfl, rfl⟩))
    go_wp2
    go_ret
    refine ⟨_, [.slice (some ⟨w.heap.size + 1, 0, none⟩) 1 1, .slice (some ⟨W.heap.size, 0, none⟩) 2 2, .slice (some ⟨W.heap.size + 1, 0, none⟩) 2 2], [[b8 k], two8 N, two8 R], rfl, (owns_lit _ _ _ _ _ 3 _ (by simp) (by omega) rfl (by decide) rfl).drew, HE.out.symm, rfl, (by simp), fun j hj => ?_, ?_⟩
    · match j, hj with
      | 0, _ => exact ⟨_, rfl, ((((hB).keep (keepA _ _)).keep (keepA _ _)).keep (keepA _ _)).keep (keepD _)⟩
      | 1, _ => exact ⟨_, rfl, (((two8_at N W (W.heap.size) hn0 hn1 (by simp)).keep (keepA _ _)).keep (keepA _ _)).keep (keepD _)⟩
      | 2, _ => exact ⟨_, rfl, ((two8_at R (W.alloc (.cells #[.int .u8 (N / 256), .int .u8 (N % 256)] 5)) (W.heap.size + 1) hr0 hr1 (by simp)).keep (keepA _ _)).keep (keepD _)⟩
    · exact ((((hW).alloc (by first | omega | (simp; omega)) _).alloc (by first | omega | (simp; omega)) _).alloc (by first | omega | (simp; omega)) _).drew
  · have b0 : (k == 1) = false := by simp [k2]
    have b1 : (k == 2) = true := by simp [k2]
    have HE : Hid (encH k M N R = [[b8 k], two8 M, two8 N, two8 R].flatten) := by simp [Hid, encH, k2]
    clear k2
    go_enter Try.func69, Try.ntmps69
    go_wp2
    have hB := byte_at k (w.alloc (.cells #[.int .i64 k, .int .i64 M, .int .i64 N, .int .i64 R, T] 42)) (w.heap.size + 1) hk0 hk1 (by simp)
    have fM : ((w.alloc (.cells #[.int .i64 k, .int .i64 M, .int .i64 N, .int .i64 R, T] 42)).alloc (.cells #[.int .u8 k] 5)).cell? ⟨w.heap.size, 1, none⟩ = some (.int .i64 M) := by simp
    have fN : ((w.alloc (.cells #[.int .i64 k, .int .i64 M, .int .i64 N, .int .i64 R, T] 42)).alloc (.cells #[.int .u8 k] 5)).cell? ⟨w.heap.size, 2, none⟩ = some (.int .i64 N) := by simp
    have fR : ((w.alloc (.cells #[.int .i64 k, .int .i64 M, .int .i64 N, .int .i64 R, T] 42)).alloc (.cells #[.int .u8 k] 5)).cell? ⟨w.heap.size, 3, none⟩ = some (.int .i64 R) := by simp
    have hW : Below w.heap.size w ((w.alloc (.cells #[.int .i64 k, .int .i64 M, .int .i64 N, .int .i64 R, T] 42)).alloc (.cells #[.int .u8 k] 5)) := ((Below.refl _ _).alloc (Nat.le_refl _) _).alloc (by simp) _
    generalize (w.alloc (.cells #[.int .i64 k, .int .i64 M, .int .i64 N, .int .i64 R, T] 42)).alloc (.cells #[.int .u8 k] 5) = W at hB fM fN fR hW ⊢
    have hWs := hW.size
    go_region_held3 (fun w' => w'.cell? ⟨w.heap.size, 1, none⟩ = some (.int .i64 M) ∧ w'.cell? ⟨w.heap.size, 2, none⟩ = some (.int .i64 N) ∧ w'.cell? ⟨w.heap.size, 3, none⟩ = some (.int .i64 R)) (exact ⟨cell_keep fM (by repeat (first | exact Below.refl _ _ | refine Below.drew ?_ | refine Below.alloc ?_ (by first | omega | (simp; omega) | simp) _)), cell_keep fN (by repeat (first | exact Below.refl _ _ | refine Below.drew ?_ | refine Below.alloc ?_ (by first | omega | (simp; omega) | simp) _)), cell_keep fR (by repeat (first | exact Below.refl _ _ | refine Below.drew ?_ | refine Below.alloc ?_ (by first | omega | (simp; omega) | simp) _))⟩)
      (first | (go_at_call 87; refine (wireTwo_any _ _ (by assumption) (by assumption)).mono ?_; rintro e w' ⟨rfl, rfl⟩))
    go_wp2
    go_ret
    refine ⟨_, [.slice (some ⟨w.heap.size + 1, 0, none⟩) 1 1, .slice (some ⟨W.heap.size, 0, none⟩) 2 2, .slice (some ⟨W.heap.size + 1, 0, none⟩) 2 2, .slice (some ⟨W.heap.size + 1 + 1, 0, none⟩) 2 2], [[b8 k], two8 M, two8 N, two8 R], rfl, (owns_lit _ _ _ _ _ 4 _ (by simp) (by omega) rfl (by decide) rfl).drew, HE.out.symm, rfl, (by simp), fun j hj => ?_, ?_⟩
    · match j, hj with
      | 0, _ => exact ⟨_, rfl, (((((hB).keep (keepA _ _)).keep (keepA _ _)).keep (keepA _ _)).keep (keepA _ _)).keep (keepD _)⟩
      | 1, _ => exact ⟨_, rfl, ((((two8_at M W (W.heap.size) hm0 hm1 (by simp)).keep (keepA _ _)).keep (keepA _ _)).keep (keepA _ _)).keep (keepD _)⟩
      | 2, _ => exact ⟨_, rfl, (((two8_at N (W.alloc (.cells #[.int .u8 (M / 256), .int .u8 (M % 256)] 5)) (W.heap.size + 1) hn0 hn1 (by simp)).keep (keepA _ _)).keep (keepA _ _)).keep (keepD _)⟩
      | 3, _ => exact ⟨_, rfl, ((two8_at R ((W.alloc (.cells #[.int .u8 (M / 256), .int .u8 (M % 256)] 5)).alloc (.cells #[.int .u8 (N / 256), .int .u8 (N % 256)] 5)) (W.heap.size + 1 + 1) hr0 hr1 (by simp)).keep (keepA _ _)).keep (keepD _)⟩
    · exact (((((hW).alloc (by first | omega | (simp; omega)) _).alloc (by first | omega | (simp; omega)) _).alloc (by first | omega | (simp; omega)) _).alloc (by first | omega | (simp; omega)) _).drew
  · have b0 : (k == 1) = false := by simp [k3]
    have b1 : (k == 2) = false := by simp [k3]
    have HE : Hid (encH k M N R = [[b8 k], two8 M, two8 N].flatten) := by simp [Hid, encH, k3]
    clear k3
    go_enter Try.func69, Try.ntmps69
    go_wp2
    have hB := byte_at k (w.alloc (.cells #[.int .i64 k, .int .i64 M, .int .i64 N, .int .i64 R, T] 42)) (w.heap.size + 1) hk0 hk1 (by simp)
    have fM : ((w.alloc (.cells #[.int .i64 k, .int .i64 M, .int .i64 N, .int .i64 R, T] 42)).alloc (.cells #[.int .u8 k] 5)).cell? ⟨w.heap.size, 1, none⟩ = some (.int .i64 M) := by simp
    have fN : ((w.alloc (.cells #[.int .i64 k, .int .i64 M, .int .i64 N, .int .i64 R, T] 42)).alloc (.cells #[.int .u8 k] 5)).cell? ⟨w.heap.size, 2, none⟩ = some (.int .i64 N) := by simp
    have hW : Below w.heap.size w ((w.alloc (.cells #[.int .i64 k, .int .i64 M, .int .i64 N, .int .i64 R, T] 42)).alloc (.cells #[.int .u8 k] 5)) := ((Below.refl _ _).alloc (Nat.le_refl _) _).alloc (by simp) _
    generalize (w.alloc (.cells #[.int .i64 k, .int .i64 M, .int .i64 N, .int .i64 R, T] 42)).alloc (.cells #[.int .u8 k] 5) = W at hB fM fN hW ⊢
    have hWs := hW.size
    go_region_held3 (fun w' => w'.cell? ⟨w.heap.size, 1, none⟩ = some (.int .i64 M) ∧ w'.cell? ⟨w.heap.size, 2, none⟩ = some (.int .i64 N)) (exact ⟨cell_keep fM (by repeat (first | exact Below.refl _ _ | refine Below.drew ?_ | refine Below.alloc ?_ (by first | omega | (simp; omega) | simp) _)), cell_keep fN (by repeat (first | exact Below.refl _ _ | refine Below.drew ?_ | refine Below.alloc ?_ (by first | omega | (simp; omega) | simp) _))⟩)
      (first | (go_at_call 87; refine (wireTwo_any _ _ (by assumption) (by assumption)).mono ?_; rintro e w' ⟨rfl, rfl⟩))
    go_wp2
    go_ret
    refine ⟨_, [.slice (some ⟨w.heap.size + 1, 0, none⟩) 1 1, .slice (some ⟨W.heap.size, 0, none⟩) 2 2, .slice (some ⟨W.heap.size + 1, 0, none⟩) 2 2], [[b8 k], two8 M, two8 N], rfl, (owns_lit _ _ _ _ _ 3 _ (by simp) (by omega) rfl (by decide) rfl).drew, HE.out.symm, rfl, (by simp), fun j hj => ?_, ?_⟩
    · match j, hj with
      | 0, _ => exact ⟨_, rfl, ((((hB).keep (keepA _ _)).keep (keepA _ _)).keep (keepA _ _)).keep (keepD _)⟩
      | 1, _ => exact ⟨_, rfl, (((two8_at M W (W.heap.size) hm0 hm1 (by simp)).keep (keepA _ _)).keep (keepA _ _)).keep (keepD _)⟩
      | 2, _ => exact ⟨_, rfl, ((two8_at N (W.alloc (.cells #[.int .u8 (M / 256), .int .u8 (M % 256)] 5)) (W.heap.size + 1) hn0 hn1 (by simp)).keep (keepA _ _)).keep (keepD _)⟩
    · exact ((((hW).alloc (by first | omega | (simp; omega)) _).alloc (by first | omega | (simp; omega)) _).alloc (by first | omega | (simp; omega)) _).drew
end Go.Proofs.Ytlndinigbppafaa

/-
  The walk of the program's wire: Message.
-/
namespace Go.Proofs.Ytlndinigbppafaa
open Go.RowKit

theorem Try.infoBytes2 : (Try.prog.info? 24).map (fun i => (i.zero, i.size, i.bytes)) = some (some (.slice none 0 0), 1, 24) := by kernel_rfl

/-- A list of texts in a row that the call made. -/
def Fields (w : World) (base : Nat) (v : Value) (ls : List (List UInt8)) : Prop :=
  ∃ us : List Value, w.ownsRow base 24 1 v ls.length us ∧ ls.length = us.length ∧ ∀ j (h : j < ls.length), ∃ u, us[j]? = some u ∧ BytesAt w u ls[j]
theorem Fields.rows {w : World} {base : Nat} {v : Value} {ls : List (List UInt8)} (h : Fields w base v ls) : RowsAt w v ls := by
  obtain ⟨us, h1, _, h3⟩ := h
  exact RowsAt.of_owns h1 rfl h3
theorem Fields.below {w w' : World} {base : Nat} {v : Value} {ls : List (List UInt8)} (h : Fields w base v ls) (hb : Below w.heap.size w w') : Fields w' base v ls := by
  obtain ⟨us, h1, h2, h3⟩ := h
  refine ⟨us, owns_below h1 hb, h2, fun j hj => ?_⟩
  obtain ⟨u, hu, hB⟩ := h3 j hj
  exact ⟨u, hu, hB.keep (KeepsT.of_below hb (Nat.le_refl _))⟩
/-- One text more. -/
theorem Fields.push {w w1 : World} {base : Nat} {v v' x : Value} {ls : List (List UInt8)} {us : List Value} {l : List UInt8} (h1 : w.ownsRow base 24 1 v ls.length us) (h2 : ls.length = us.length) (h3 : ∀ j (h : j < ls.length), ∃ u, us[j]? = some u ∧ BytesAt w u ls[j])
    (hx : BytesAt w x l) (hown : w1.ownsRow base 24 1 v' (ls.length + 1) (us ++ [x])) (hg : w.grownBy w1 v.ownBlock) : Fields w1 base v' (ls ++ [l]) := by
  have K : KeepsT 5 w w1 := (KeepsT.refl _ _).grown h1 hg (by decide)
  refine ⟨us ++ [x], by rw [List.length_append]; exact hown, by simp [h2], fun j hj => ?_⟩
  rw [List.length_append] at hj
  simp only [List.length_cons, List.length_nil] at hj
  by_cases hjl : j < ls.length
  · obtain ⟨u, hu, hB⟩ := h3 j hjl
    exact ⟨u, by rw [List.getElem?_append_left (by omega)]; exact hu, by rw [List.getElem_append_left hjl]; exact hB.keep K⟩
  · have : j = ls.length := by omega
    subst this
    refine ⟨x, by rw [List.getElem?_append_right (by omega)]; simp [h2], ?_⟩
    rw [List.getElem_append_right (by omega)]
    simpa using hx.keep K

set_option maxRecDepth 100000 in
set_option maxHeartbeats 1000000 in
theorem wireMessage_any (k M N R : Int) (T : Value) (ns : List PN) (w : World) (hT : NodesAt w T ns) (hS : SmallM k M N R ns) (h3 : k = 1 ∨ k = 2 ∨ k = 3) :
    Calls Try.prog 53 #[.agg #[.int .i64 k, .int .i64 M, .int .i64 N, .int .i64 R, T]] w fun e w' => ∃ v', e = .returned v' ∧ w'.ownsRow w.heap.size 5 1 v' (encM k M N R ns).length (bytes8 (encM k M N R ns)) ∧ Below w.heap.size w w' := by
  obtain ⟨ao, cap, rfl, _, hc⟩ := hT.cells
  obtain ⟨i0, hi, hz0, hz1, hz2⟩ := info_parts Try.infoBytes2
  have hns := hS.len
  go_enter Try.func53, Try.ntmps53
  go_wp2_with fail
  refine (wireHead_any k M N R _ _ hS.k hS.m hS.n hS.r h3).mono ?_
  rintro e w1 ⟨v1, us1, ls1, rfl, ho1, hf1, hl1, h41, hB1, hb1⟩
  have hF1 : Fields w1 (w.alloc (.cells #[.int .i64 k, .int .i64 M, .int .i64 N, .int .i64 R, .slice ao ns.length cap] 42)).heap.size v1 ls1 := ⟨us1, by rw [hl1]; exact ho1, hl1, hB1⟩
  have c4 : w1.cell? ⟨w.heap.size, 4, none⟩ = some (.slice ao ns.length cap) := (hb1.cell (p := ⟨w.heap.size, 4, none⟩) (by simp)).trans (by rw [World.cell?_alloc_mark]; rfl)
  have hbw1 : Below w.heap.size w w1 := ((Below.refl _ _).alloc (Nat.le_refl _) _).trans (hb1.mono (by simp))
  have hlen1 : ls1.length ≤ 4 := by rw [hl1]; exact h41
  clear ho1 hB1 hb1 hl1 h41
  have hsz1 := hbw1.size
  generalize hB0 : (w.alloc (.cells #[.int .i64 k, .int .i64 M, .int .i64 N, .int .i64 R, .slice ao ns.length cap] 42)).heap.size = B at hF1
  have hB0' : B = w.heap.size + 1 := by rw [← hB0]; simp
  have hBw : B ≤ w1.heap.size := by have := World.block_lt_of_cell? w1 _ c4; simp at this; omega
  have HB0 : Hid (B = w.heap.size + 1) := hB0'
  clear hB0 hB0'
  go_wp2
  go_loopw [3, 11] (fun v i wr => ∃ (j : Nat) (ls : List (List UInt8)), j ≤ ns.length ∧ i = .int .i64 j ∧ Fields wr B v ls ∧ ls.length ≤ 4 + j ∧ ls.flatten = encH k M N R ++ encNs (ns.take j) ∧ Below w.heap.size w wr ∧ B ≤ wr.heap.size) (fun _ i _ => ns.length - (intOf i).toNat)
  case atStart => exact ⟨0, ls1, Nat.zero_le _, rfl, hF1, by omega, by rw [hf1]; simp [encNs], hbw1, hBw⟩
  case round =>
    obtain ⟨j, ls, hj, rfl, hF, hln, hfl, hb, hBr⟩ := hrel
    have hbs := hb.size
    have HL : Hid (ls.flatten = encH k M N R ++ encNs (ns.take j)) := hfl
    clear hfl
    by_cases hlt : j < ns.length
    · obtain ⟨b, o, rfl, hbl, hcl⟩ := hc (by omega)
      obtain ⟨e0, e1, e2⟩ := hcl j hlt
      replace e0 := (hb.cell (p := ⟨b, o + j * 3, none⟩) hbl).trans e0
      replace e1 := (hb.cell (p := ⟨b, o + j * 3 + 1, none⟩) hbl).trans e1
      replace e2 := (hb.cell (p := ⟨b, o + j * 3 + 2, none⟩) hbl).trans e2
      have HX : Hid (encNs (ns.take (j + 1)) = encNs (ns.take j) ++ encN ns[j]) := encNs_snoc ns j hlt
      obtain ⟨x0, x2, x4⟩ := hS.each _ (List.getElem_mem hlt)
      generalize ns[j] = x at *
      clear hcl hc hT c4
      go_wp2_with fail
      refine (wireNode_any x _ x0 x2 x4).mono ?_
      rintro e w2 ⟨v2, rfl, hB2, hb2⟩
      obtain ⟨a2, cp2, rfl, _⟩ := id hB2
      have hb2' : Below wr.heap.size wr w2 := ((Below.refl _ _).alloc (Nat.le_refl _) _).trans (hb2.mono (by simp))
      have hF2 := hF.below hb2'
      have hs2 := hb2'.size
      have hbb : Below w.heap.size w w2 := hb.trans (hb2'.mono hbs)
      clear hF hb2 hb2' e0 e1 e2
      obtain ⟨us, g1, g2, g3⟩ := hF2
      have G2 : Hid (ls.length = us.length) := g2
      clear g2
      go_wp2_with (at_builtin; refine wpList_append_own _ rfl (.tmp 15) (.tmp 18) 23 rfl B 24 i0 (.slice none 0 0) 1 24 Try.underlying23 hi hz0 hz1 hz2 rfl (by decide) _ _ _ rfl (g1.alloc _) ⟨w2.heap.size, 0, none⟩ 1 1 [.slice a2 (encN x).length cp2] rfl rfl ?c1 ?c2 ?c3 ?c4 ?c5 ?_)
      case c1 =>
        intro q u hq
        match q, hq with
        | 0, hq => simp at hq; subst hq; simp [Addr.add]
      case c2 =>
        intro u hu
        simp at hu
        subst hu
        rfl
      case c3 => unfold maxLen; omega
      case c4 => omega
      case c5 => simp; omega
      · intro v' w3 hown' hgrow _
        have hF3 := Fields.push (g1.alloc _) G2.out (fun q hq => by obtain ⟨u, h1, h2⟩ := g3 q hq; exact ⟨u, h1, h2.keep (keepA _ _)⟩) (hB2.keep (keepA _ _)) hown' hgrow
        have R := (hbb.alloc (by omega) _).grown hgrow (by simp; omega) (fun g hg => by have := (g1.lt g hg).1; have := HB0.out; omega)
        have hBw3 : B ≤ w3.heap.size := by have := hgrow.size; simp at this; omega
        clear g1 G2 g3 hown' hgrow hbb hB2 hb
        go_wp2
        go_roundw
        case rel => exact ⟨j + 1, ls ++ [encN x], by omega, by go_num, hF3, by simp; omega, by rw [List.flatten_append, HL.out, HX.out, List.append_assoc]; simp, R, hBw3⟩
        case measure => simp [intOf]; omega
    · have hjl : j = ns.length := by omega
      subst hjl
      have HE : Hid (ls.flatten = encM k M N R ns) := by
        have := HL.out
        rw [List.take_length] at this
        exact this
      have hen := encHN_le ns ns.length hS
      rw [List.take_length] at hen
      have hrows := hF.rows
      clear hF hc hT
      go_wp2_with fail
      refine (join_any ls _ _ hrows (by omega) (by rw [HE.out]; exact hen)).mono ?_
      rintro e w2 ⟨v', rfl, hown, hbel⟩
      go_wp2
      go_ret
      refine ⟨_, rfl, ?_, hb.trans (hbel.mono hbs)⟩
      rw [HE.out] at hown
      obtain ⟨o1, o2⟩ := hown
      refine ⟨o1, ?_⟩
      rcases o2 with o2 | ⟨g, cp, cur, q1, q2, q3⟩
      · exact .inl o2
      · exact .inr ⟨g, cp, cur, q1, by omega, q3⟩
end Go.Proofs.Ytlndinigbppafaa
