/-
  The walks of the program's wire: node.
-/
import Derived.Test.YtpdjdaipijjeeaaWireA
namespace Go.Proofs.Ytpdjdaipijjeeaa
open Go.RowKit

theorem byte_at (x : Int) (w : World) (b : Nat) (h0 : 0 ≤ x) (h1 : x ≤ 255) (hb : b = w.heap.size) : BytesAt (w.alloc (.cells #[.int .u8 x] 5)) (.slice (some ⟨b, 0, none⟩) 1 1) [b8 x] := by
  subst hb
  refine ⟨_, _, rfl, fun h => (by cases h), fun _ => ⟨_, _, _, _, rfl, heap_alloc_new w _, fun j hj => ?_⟩⟩
  match j, hj with
  | 0, _ => show some (Value.int .u8 x) = some (.int .u8 ((b8 x).toNat : Int)); rw [b8_nat x h0 h1]
theorem made_at (w : World) (s : ByteArray) (b n cap : Nat) (fr : Nat × Nat) (hb : b = w.heap.size) (hn : n = s.size) : BytesAt (w.alloc (.cells (bytesRow s cap) 5 fr)) (.slice (some ⟨b, 0, none⟩) n cap) s.data.toList := by
  subst hb hn
  exact BytesAt.made w s cap fr
theorem heap_new (w : World) (o : Obj) (b : Nat) (hb : b = w.heap.size) : (w.alloc o).heap[b]? = some o := by subst hb; exact heap_alloc_new w o
theorem heap_old (w : World) (o : Obj) (b : Nat) (x : Obj) (h : w.heap[b]? = some x) : (w.alloc o).heap[b]? = some x := by rw [Below.heap_alloc _ _ _ (lt_of_heap h)]; exact h
/-- Two slices of bytes in a new row. -/
theorem rows2 (w : World) (b : Nat) (u0 u1 : Value) (l0 l1 : List UInt8) (hb : b = w.heap.size) (h0 : BytesAt w u0 l0) (h1 : BytesAt w u1 l1) : RowsAt (w.alloc (.cells #[u0, u1] 24)) (.slice (some ⟨b, 0, none⟩) 2 2) [l0, l1] := by
  refine RowsAt.lit rfl (heap_new w _ b hb) fun j hj => ?_
  match j, hj with
  | 0, _ => exact ⟨u0, rfl, h0.keep ((KeepsT.refl _ w).alloc _)⟩
  | 1, _ => exact ⟨u1, rfl, h1.keep ((KeepsT.refl _ w).alloc _)⟩
theorem rows3 (w : World) (b : Nat) (u0 u1 u2 : Value) (l0 l1 l2 : List UInt8) (hb : b = w.heap.size) (h0 : BytesAt w u0 l0) (h1 : BytesAt w u1 l1) (h2 : BytesAt w u2 l2) : RowsAt (w.alloc (.cells #[u0, u1, u2] 24)) (.slice (some ⟨b, 0, none⟩) 3 3) [l0, l1, l2] := by
  refine RowsAt.lit rfl (heap_new w _ b hb) fun j hj => ?_
  match j, hj with
  | 0, _ => exact ⟨u0, rfl, h0.keep ((KeepsT.refl _ w).alloc _)⟩
  | 1, _ => exact ⟨u1, rfl, h1.keep ((KeepsT.refl _ w).alloc _)⟩
  | 2, _ => exact ⟨u2, rfl, h2.keep ((KeepsT.refl _ w).alloc _)⟩
theorem rows4 (w : World) (b : Nat) (u0 u1 u2 u3 : Value) (l0 l1 l2 l3 : List UInt8) (hb : b = w.heap.size) (h0 : BytesAt w u0 l0) (h1 : BytesAt w u1 l1) (h2 : BytesAt w u2 l2) (h3 : BytesAt w u3 l3) : RowsAt (w.alloc (.cells #[u0, u1, u2, u3] 24)) (.slice (some ⟨b, 0, none⟩) 4 4) [l0, l1, l2, l3] := by
  refine RowsAt.lit rfl (heap_new w _ b hb) fun j hj => ?_
  match j, hj with
  | 0, _ => exact ⟨u0, rfl, h0.keep ((KeepsT.refl _ w).alloc _)⟩
  | 1, _ => exact ⟨u1, rfl, h1.keep ((KeepsT.refl _ w).alloc _)⟩
  | 2, _ => exact ⟨u2, rfl, h2.keep ((KeepsT.refl _ w).alloc _)⟩
  | 3, _ => exact ⟨u3, rfl, h3.keep ((KeepsT.refl _ w).alloc _)⟩

/-- A new row, written out, is owned. -/
theorem owns_lit (w : World) (base b : Nat) (cur : Array Value) (t : TypeId) (n : Nat) (us : List Value) (hb : b = w.heap.size) (hbase : base ≤ b) (hn : n = cur.size) (hm : n ≤ maxLen) (hu : us = cur.toList) : (w.alloc (.cells cur t)).ownsRow base t 1 (.slice (some ⟨b, 0, none⟩) n n) n us := by
  subst hb hn hu
  refine ⟨by simp, .inr ⟨_, _, cur, rfl, hbase, heap_alloc_new w _, Nat.le_refl _, hm, by simp, ?_⟩⟩
  rw [List.take_of_length_le (by simp)]
theorem keepA {t : TypeId} (w : World) (o : Obj) : KeepsT t w (w.alloc o) := (KeepsT.refl t w).alloc o
theorem keepD {t : TypeId} (w : World) : KeepsT t w w.drew := (KeepsT.refl t w).drew

set_option maxRecDepth 100000 in
set_option maxHeartbeats 1000000 in
theorem wireNode_any (x : PN) (w : World) (hk : 0 ≤ x.kind ∧ x.kind ≤ 255) (hd : 0 ≤ x.dig ∧ x.dig ≤ 65535) (he : x.ev.size ≤ 255) :
    Calls Try.prog 70 #[.agg #[.int .i64 x.kind, .int .i64 x.dig, .string x.ev]] w fun e w' => ∃ v', e = .returned v' ∧ BytesAt w' v' (encN x) ∧ Below w.heap.size w w' := by
  obtain ⟨hk0, hk1⟩ := hk
  obtain ⟨hd0, hd1⟩ := hd
  have ex0 : (0 : Int) ≤ (x.ev.size : Int) := by omega
  have ex1 : (x.ev.size : Int) ≤ 255 := by omega
  have hcv := fun u s => @run_bytes_of_string Try.prog u 9 24 5 s Try.underlying9 Try.underlying24 Try.underlying5
  rcases (show x.kind = 0 ∨ x.kind = 1 ∨ (¬ x.kind = 0 ∧ ¬ x.kind = 1) by omega) with k0 | k1 | ⟨k0, k1⟩
  · have b0 : (x.kind == 0) = true := by simp [k0]
    have b1 : (x.kind == 1) = false := by simp [k0]
    have HE : Hid (encN x = [[b8 x.kind], two8 x.dig].flatten) := by simp [Hid, encN, k0]
    clear k0
    go_enter Try.func70, Try.ntmps70
    go_wp2_with (go_at_call 87; refine (wireTwo_any _ _ (by assumption) (by assumption)).mono ?_; rintro e w' ⟨rfl, rfl⟩)
    refine (join_any [[b8 x.kind], two8 x.dig] _ _ (rows2 _ _ _ _ _ _ (by simp) ((byte_at _ _ _ hk0 hk1 (by simp)).keep (keepA _ _)) (two8_at _ _ _ hd0 hd1 (by simp))) (by simp) (by simp [two8])).mono ?_
    rintro e w' ⟨v', rfl, hown, hbel⟩
    go_wp2
    go_ret
    exact ⟨_, rfl, by rw [HE.out]; exact BytesAt.of_owns hown, ((((((Below.refl _ _).alloc (Nat.le_refl _) _).alloc (by simp) _).alloc (by simp; omega) _).alloc (by simp; omega) _).trans (hbel.mono (by simp; omega)))⟩
  · have b0 : (x.kind == 0) = false := by simp [k1]
    have b1 : (x.kind == 1) = true := by simp [k1]
    have HE : Hid (encN x = [[b8 x.kind], [b8 x.ev.size], x.ev.data.toList].flatten) := by simp [Hid, encN, k1]
    clear k1
    go_enter Try.func70, Try.ntmps70
    go_wp2_with fail
    refine (join_any [[b8 x.kind], [b8 x.ev.size], x.ev.data.toList] _ _ ((rows3 _ _ _ _ _ _ _ _ (by simp) (((byte_at _ _ _ hk0 hk1 (by simp)).keep (keepA _ _)).keep (keepA _ _)) ((byte_at _ _ _ ex0 ex1 (by simp)).keep (keepA _ _)) (made_at _ _ _ _ _ _ (by simp) rfl)).keep (keepD _) (keepD _)) (by simp) (by rw [← HE.out]; have := encN_le x 255 he; omega)).mono ?_
    rintro e w' ⟨v', rfl, hown, hbel⟩
    go_wp2
    go_ret
    exact ⟨_, rfl, by rw [HE.out]; exact BytesAt.of_owns hown, ((((((((Below.refl _ _).alloc (Nat.le_refl _) _).alloc (by simp) _).alloc (by simp; omega) _).alloc (by simp; omega) _).alloc (by simp; omega) _).drew).trans (hbel.mono (by simp; omega)))⟩
  · have b0 : (x.kind == 0) = false := by simp [k0]
    have b1 : (x.kind == 1) = false := by simp [k1]
    have HE : Hid (encN x = [b8 x.kind]) := by simp [Hid, encN, k0, k1]
    clear k0 k1
    go_enter Try.func70, Try.ntmps70
    go_wp2
    go_ret
    exact ⟨_, rfl, by rw [HE.out]; exact byte_at _ _ _ hk0 hk1 (by simp), ((Below.refl _ _).alloc (Nat.le_refl _) _).alloc (by simp) _⟩

set_option maxRecDepth 100000 in
set_option maxHeartbeats 1000000 in
theorem wireHead_any (k M N R : Int) (T : Value) (w : World) (hk : 0 ≤ k ∧ k ≤ 255) (hm : 0 ≤ M ∧ M ≤ 65535) (hn : 0 ≤ N ∧ N ≤ 65535) (hr : 0 ≤ R ∧ R ≤ 65535) (h3 : k = 1 ∨ k = 2 ∨ k = 3) :
    Calls Try.prog 69 #[.agg #[.int .i64 k, .int .i64 M, .int .i64 N, .int .i64 R, T]] w fun e w' => ∃ (v' : Value) (us : List Value) (ls : List (List UInt8)), e = .returned v' ∧ w'.ownsRow w.heap.size 24 1 v' us.length us ∧ ls.flatten = encH k M N R ∧ ls.length = us.length ∧ us.length ≤ 4 ∧ (∀ j (h : j < ls.length), ∃ u, us[j]? = some u ∧ BytesAt w' u ls[j]) ∧ Below w.heap.size w w' := by
  obtain ⟨hk0, hk1⟩ := hk
  obtain ⟨hm0, hm1⟩ := hm
  obtain ⟨hn0, hn1⟩ := hn
  obtain ⟨hr0, hr1⟩ := hr
  rcases h3 with k1 | k2 | k3
  · have b0 : (k == 1) = true := by simp [k1]
    have HE : Hid (encH k M N R = [[b8 k], two8 N, two8 R].flatten) := by simp [Hid, encH, k1]
    clear k1
    go_enter Try.func69, Try.ntmps69
    go_wp2
    have hB := byte_at k (w.alloc (.cells #[.int .i64 k, .int .i64 M, .int .i64 N, .int .i64 R, T] 42)) (w.heap.size + 1) hk0 hk1 (by simp)
    have fN : ((w.alloc (.cells #[.int .i64 k, .int .i64 M, .int .i64 N, .int .i64 R, T] 42)).alloc (.cells #[.int .u8 k] 5)).cell? ⟨w.heap.size, 2, none⟩ = some (.int .i64 N) := by simp
    have fR : ((w.alloc (.cells #[.int .i64 k, .int .i64 M, .int .i64 N, .int .i64 R, T] 42)).alloc (.cells #[.int .u8 k] 5)).cell? ⟨w.heap.size, 3, none⟩ = some (.int .i64 R) := by simp
    have hW : Below w.heap.size w ((w.alloc (.cells #[.int .i64 k, .int .i64 M, .int .i64 N, .int .i64 R, T] 42)).alloc (.cells #[.int .u8 k] 5)) := ((Below.refl _ _).alloc (Nat.le_refl _) _).alloc (by simp) _
    generalize (w.alloc (.cells #[.int .i64 k, .int .i64 M, .int .i64 N, .int .i64 R, T] 42)).alloc (.cells #[.int .u8 k] 5) = W at hB fN fR hW ⊢
    have hWs := hW.size
    go_region_held3 (fun w' => w'.cell? ⟨w.heap.size, 2, none⟩ = some (.int .i64 N) ∧ w'.cell? ⟨w.heap.size, 3, none⟩ = some (.int .i64 R)) (exact ⟨cell_keep fN (by repeat (first | exact Below.refl _ _ | refine Below.drew ?_ | refine Below.alloc ?_ (by first | omega | (simp; omega) | simp) _)), cell_keep fR (by repeat (first | exact Below.refl _ _ | refine Below.drew ?_ | refine Below.alloc ?_ (by first | omega | (simp; omega) | simp) _))⟩)
      (first | (go_at_call 87; refine (wireTwo_any _ _ (by assumption) (by assumption)).mono ?_; rintro e w' ⟨rfl, rfl⟩))
    go_wp2
    go_ret
    refine ⟨_, [.slice (some ⟨w.heap.size + 1, 0, none⟩) 1 1, .slice (some ⟨W.heap.size, 0, none⟩) 2 2, .slice (some ⟨W.heap.size + 1, 0, none⟩) 2 2], [[b8 k], two8 N, two8 R], rfl, (owns_lit _ _ _ _ _ 3 _ (by simp) (by omega) rfl (by decide) rfl).drew, HE.out.symm, rfl, (by simp), fun j hj => ?_, ?_⟩
    · match j, hj with
      | 0, _ => exact ⟨_, rfl, ((((hB).keep (keepA _ _)).keep (keepA _ _)).keep (keepA _ _)).keep (keepD _)⟩
      | 1, _ => exact ⟨_, rfl, (((two8_at N W (W.heap.size) hn0 hn1 (by simp)).keep (keepA _ _)).keep (keepA _ _)).keep (keepD _)⟩
      | 2, _ => exact ⟨_, rfl, ((two8_at R (W.alloc (.cells #[.int .u8 (N / 256), .int .u8 (N % 256)] 5)) (W.heap.size + 1) hr0 hr1 (by simp)).keep (keepA _ _)).keep (keepD _)⟩
    · exact ((((hW).alloc (by first | omega | (simp; omega)) _).alloc (by first | omega | (simp; omega)) _).alloc (by first | omega | (simp; omega)) _).drew
  · have b0 : (k == 1) = false := by simp [k2]
    have b1 : (k == 2) = true := by simp [k2]
    have HE : Hid (encH k M N R = [[b8 k], two8 M, two8 N, two8 R].flatten) := by simp [Hid, encH, k2]
    clear k2
    go_enter Try.func69, Try.ntmps69
    go_wp2
    have hB := byte_at k (w.alloc (.cells #[.int .i64 k, .int .i64 M, .int .i64 N, .int .i64 R, T] 42)) (w.heap.size + 1) hk0 hk1 (by simp)
    have fM : ((w.alloc (.cells #[.int .i64 k, .int .i64 M, .int .i64 N, .int .i64 R, T] 42)).alloc (.cells #[.int .u8 k] 5)).cell? ⟨w.heap.size, 1, none⟩ = some (.int .i64 M) := by simp
    have fN : ((w.alloc (.cells #[.int .i64 k, .int .i64 M, .int .i64 N, .int .i64 R, T] 42)).alloc (.cells #[.int .u8 k] 5)).cell? ⟨w.heap.size, 2, none⟩ = some (.int .i64 N) := by simp
    have fR : ((w.alloc (.cells #[.int .i64 k, .int .i64 M, .int .i64 N, .int .i64 R, T] 42)).alloc (.cells #[.int .u8 k] 5)).cell? ⟨w.heap.size, 3, none⟩ = some (.int .i64 R) := by simp
    have hW : Below w.heap.size w ((w.alloc (.cells #[.int .i64 k, .int .i64 M, .int .i64 N, .int .i64 R, T] 42)).alloc (.cells #[.int .u8 k] 5)) := ((Below.refl _ _).alloc (Nat.le_refl _) _).alloc (by simp) _
    generalize (w.alloc (.cells #[.int .i64 k, .int .i64 M, .int .i64 N, .int .i64 R, T] 42)).alloc (.cells #[.int .u8 k] 5) = W at hB fM fN fR hW ⊢
    have hWs := hW.size
    go_region_held3 (fun w' => w'.cell? ⟨w.heap.size, 1, none⟩ = some (.int .i64 M) ∧ w'.cell? ⟨w.heap.size, 2, none⟩ = some (.int .i64 N) ∧ w'.cell? ⟨w.heap.size, 3, none⟩ = some (.int .i64 R)) (exact ⟨cell_keep fM (by repeat (first | exact Below.refl _ _ | refine Below.drew ?_ | refine Below.alloc ?_ (by first | omega | (simp; omega) | simp) _)), cell_keep fN (by repeat (first | exact Below.refl _ _ | refine Below.drew ?_ | refine Below.alloc ?_ (by first | omega | (simp; omega) | simp) _)), cell_keep fR (by repeat (first | exact Below.refl _ _ | refine Below.drew ?_ | refine Below.alloc ?_ (by first | omega | (simp; omega) | simp) _))⟩)
      (first | (go_at_call 87; refine (wireTwo_any _ _ (by assumption) (by assumption)).mono ?_; rintro e w' ⟨rfl, rfl⟩))
    go_wp2
    go_ret
    refine ⟨_, [.slice (some ⟨w.heap.size + 1, 0, none⟩) 1 1, .slice (some ⟨W.heap.size, 0, none⟩) 2 2, .slice (some ⟨W.heap.size + 1, 0, none⟩) 2 2, .slice (some ⟨W.heap.size + 1 + 1, 0, none⟩) 2 2], [[b8 k], two8 M, two8 N, two8 R], rfl, (owns_lit _ _ _ _ _ 4 _ (by simp) (by omega) rfl (by decide) rfl).drew, HE.out.symm, rfl, (by simp), fun j hj => ?_, ?_⟩
    · match j, hj with
      | 0, _ => exact ⟨_, rfl, (((((hB).keep (keepA _ _)).keep (keepA _ _)).keep (keepA _ _)).keep (keepA _ _)).keep (keepD _)⟩
      | 1, _ => exact ⟨_, rfl, ((((two8_at M W (W.heap.size) hm0 hm1 (by simp)).keep (keepA _ _)).keep (keepA _ _)).keep (keepA _ _)).keep (keepD _)⟩
      | 2, _ => exact ⟨_, rfl, (((two8_at N (W.alloc (.cells #[.int .u8 (M / 256), .int .u8 (M % 256)] 5)) (W.heap.size + 1) hn0 hn1 (by simp)).keep (keepA _ _)).keep (keepA _ _)).keep (keepD _)⟩
      | 3, _ => exact ⟨_, rfl, ((two8_at R ((W.alloc (.cells #[.int .u8 (M / 256), .int .u8 (M % 256)] 5)).alloc (.cells #[.int .u8 (N / 256), .int .u8 (N % 256)] 5)) (W.heap.size + 1 + 1) hr0 hr1 (by simp)).keep (keepA _ _)).keep (keepD _)⟩
    · exact (((((hW).alloc (by first | omega | (simp; omega)) _).alloc (by first | omega | (simp; omega)) _).alloc (by first | omega | (simp; omega)) _).alloc (by first | omega | (simp; omega)) _).drew
  · have b0 : (k == 1) = false := by simp [k3]
    have b1 : (k == 2) = false := by simp [k3]
    have HE : Hid (encH k M N R = [[b8 k], two8 M, two8 N].flatten) := by simp [Hid, encH, k3]
    clear k3
    go_enter Try.func69, Try.ntmps69
    go_wp2
    have hB := byte_at k (w.alloc (.cells #[.int .i64 k, .int .i64 M, .int .i64 N, .int .i64 R, T] 42)) (w.heap.size + 1) hk0 hk1 (by simp)
    have fM : ((w.alloc (.cells #[.int .i64 k, .int .i64 M, .int .i64 N, .int .i64 R, T] 42)).alloc (.cells #[.int .u8 k] 5)).cell? ⟨w.heap.size, 1, none⟩ = some (.int .i64 M) := by simp
    have fN : ((w.alloc (.cells #[.int .i64 k, .int .i64 M, .int .i64 N, .int .i64 R, T] 42)).alloc (.cells #[.int .u8 k] 5)).cell? ⟨w.heap.size, 2, none⟩ = some (.int .i64 N) := by simp
    have hW : Below w.heap.size w ((w.alloc (.cells #[.int .i64 k, .int .i64 M, .int .i64 N, .int .i64 R, T] 42)).alloc (.cells #[.int .u8 k] 5)) := ((Below.refl _ _).alloc (Nat.le_refl _) _).alloc (by simp) _
    generalize (w.alloc (.cells #[.int .i64 k, .int .i64 M, .int .i64 N, .int .i64 R, T] 42)).alloc (.cells #[.int .u8 k] 5) = W at hB fM fN hW ⊢
    have hWs := hW.size
    go_region_held3 (fun w' => w'.cell? ⟨w.heap.size, 1, none⟩ = some (.int .i64 M) ∧ w'.cell? ⟨w.heap.size, 2, none⟩ = some (.int .i64 N)) (exact ⟨cell_keep fM (by repeat (first | exact Below.refl _ _ | refine Below.drew ?_ | refine Below.alloc ?_ (by first | omega | (simp; omega) | simp) _)), cell_keep fN (by repeat (first | exact Below.refl _ _ | refine Below.drew ?_ | refine Below.alloc ?_ (by first | omega | (simp; omega) | simp) _))⟩)
      (first | (go_at_call 87; refine (wireTwo_any _ _ (by assumption) (by assumption)).mono ?_; rintro e w' ⟨rfl, rfl⟩))
    go_wp2
    go_ret
    refine ⟨_, [.slice (some ⟨w.heap.size + 1, 0, none⟩) 1 1, .slice (some ⟨W.heap.size, 0, none⟩) 2 2, .slice (some ⟨W.heap.size + 1, 0, none⟩) 2 2], [[b8 k], two8 M, two8 N], rfl, (owns_lit _ _ _ _ _ 3 _ (by simp) (by omega) rfl (by decide) rfl).drew, HE.out.symm, rfl, (by simp), fun j hj => ?_, ?_⟩
    · match j, hj with
      | 0, _ => exact ⟨_, rfl, ((((hB).keep (keepA _ _)).keep (keepA _ _)).keep (keepA _ _)).keep (keepD _)⟩
      | 1, _ => exact ⟨_, rfl, (((two8_at M W (W.heap.size) hm0 hm1 (by simp)).keep (keepA _ _)).keep (keepA _ _)).keep (keepD _)⟩
      | 2, _ => exact ⟨_, rfl, ((two8_at N (W.alloc (.cells #[.int .u8 (M / 256), .int .u8 (M % 256)] 5)) (W.heap.size + 1) hn0 hn1 (by simp)).keep (keepA _ _)).keep (keepD _)⟩
    · exact ((((hW).alloc (by first | omega | (simp; omega)) _).alloc (by first | omega | (simp; omega)) _).alloc (by first | omega | (simp; omega)) _).drew
end Go.Proofs.Ytpdjdaipijjeeaa
