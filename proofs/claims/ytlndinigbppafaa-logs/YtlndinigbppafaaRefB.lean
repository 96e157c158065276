/-
  The walk of the document's Bytes: a message's bytes.
-/
import Derived.Test.YtlndinigbppafaaRefA
namespace Go.Proofs.Ytlndinigbppafaa
open Go.RowKit

theorem str_eq {a b : ByteArray} (h : a = b) : Value.string a = .string b := by rw [h]
theorem head1 (k M N R : Int) (h : k = 1) : ({ data := #[b8 k] } ++ { data := (two8 N).toArray } ++ { data := (two8 R).toArray } : ByteArray) = ⟨(encH k M N R).toArray⟩ := by
  subst h; simp [encH, ByteArray.mk_append_mk, two8]
theorem head3 (k M N R : Int) (h : k = 3) : ({ data := #[b8 k] } ++ { data := (two8 M).toArray } ++ { data := (two8 N).toArray } : ByteArray) = ⟨(encH k M N R).toArray⟩ := by
  subst h; simp [encH, ByteArray.mk_append_mk, two8]
theorem head2 (k M N R : Int) (h1 : ¬ k = 1) (h3 : ¬ k = 3) : ({ data := #[b8 k] } ++ { data := (two8 M).toArray } ++ { data := (two8 N).toArray } ++ { data := (two8 R).toArray } : ByteArray) = ⟨(encH k M N R).toArray⟩ := by
  simp [encH, h1, h3, ByteArray.mk_append_mk, two8]

theorem node0 (l : List UInt8) (x : PN) (h : x.kind = 0) : ({ data := l.toArray } ++ { data := #[b8 x.kind] } ++ { data := (two8 x.dig).toArray } : ByteArray) = ⟨(l ++ encN x).toArray⟩ := by
  simp [encN, h, ByteArray.mk_append_mk, two8]
theorem node1 (l : List UInt8) (x : PN) (h : x.kind = 1) : ({ data := l.toArray } ++ { data := #[b8 x.kind] } ++ { data := #[b8 x.ev.size] } ++ x.ev : ByteArray) = ⟨(l ++ encN x).toArray⟩ := by
  have e : ({ data := l.toArray } ++ { data := #[b8 x.kind] } ++ { data := #[b8 x.ev.size] } : ByteArray) = ⟨(l ++ [b8 x.kind, b8 x.ev.size]).toArray⟩ := by
    simp [ByteArray.mk_append_mk]
  rw [e, mk_append, List.append_assoc]
  unfold encN
  rw [h, if_neg (by omega), if_pos rfl]
  rfl
theorem node2 (l : List UInt8) (x : PN) (h0 : ¬ x.kind = 0) (h1 : ¬ x.kind = 1) : ({ data := l.toArray } ++ { data := #[b8 x.kind] } : ByteArray) = ⟨(l ++ encN x).toArray⟩ := by
  simp [encN, h0, h1, ByteArray.mk_append_mk]

set_option maxRecDepth 100000 in
set_option maxHeartbeats 2000000 in
theorem refBytes_any (k M N R : Int) (T : Value) (ns : List PN) (w : World) (hT : NodesG w T ns) (hS : SmallM k M N R ns) :
    Calls Try.prog 52 #[.agg #[.int .i64 k, .int .i64 M, .int .i64 N, .int .i64 R, T]] w fun e w' => e = .returned (.string ⟨(encM k M N R ns).toArray⟩) ∧ Below w.heap.size w w' := by
  obtain ⟨ao, cap, rfl, _, hc⟩ := hT.cells
  obtain ⟨hk0, hk1⟩ := hS.k
  obtain ⟨hm0, hm1⟩ := hS.m
  obtain ⟨hn0, hn1⟩ := hS.n
  obtain ⟨hr0, hr1⟩ := hS.r
  have c1 := conv_one_at
  have hns := hS.len
  have cases3 : k = 1 ∨ k = 3 ∨ (¬ k = 1 ∧ ¬ k = 3) := by omega
  rcases cases3 with k1 | k3 | ⟨k1, k3⟩
  · have kb : (k != 1) = false := by simp [k1]
    have kc : (k != 3) = true := by simp [k1]
    have HE : Hid _ := head1 k M N R k1
    clear k1
    go_enter Try.func52, Try.ntmps52
    go_wp2_with (go_at_call 50; refine (two_any _ _ (by assumption) (by assumption)).mono ?_; rintro e w' ⟨rfl, rfl⟩)
    rw [HE.out]
    go_loopw [3, 4] (fun s i wr => ∃ j : Nat, j ≤ ns.length ∧ i = .int .i64 j ∧ s = .string ⟨(encH k M N R ++ encNs (ns.take j)).toArray⟩ ∧ Below (w.heap.size + 1) (w.alloc (.cells #[.int .i64 k, .int .i64 M, .int .i64 N, .int .i64 R, .slice ao ns.length cap] 42)) wr) (fun _ i _ => ns.length - (intOf i).toNat)
    case atStart => exact ⟨0, Nat.zero_le _, rfl, by simp [encNs], by repeat (first | exact Below.refl _ _ | refine Below.alloc ?_ (by simp) _)⟩
    case round =>
      obtain ⟨j, hj, rfl, rfl, hb⟩ := hrel
      have hbw : Below w.heap.size w wr := ((Below.refl _ _).alloc (Nat.le_refl _) _).trans (hb.mono (by omega))
      have hbs : w.heap.size + 1 ≤ wr.heap.size := by have := hb.size; simpa using this
      have hbx : wr.cell? ⟨w.heap.size, 4, none⟩ = some (.slice ao ns.length cap) := (hb.cell (p := ⟨w.heap.size, 4, none⟩) (by simp)).trans (by rw [World.cell?_alloc_mark]; rfl)
      have hsz := mk_size (encH k M N R ++ encNs (ns.take j))
      have hle := encHN_le ns j hS
      by_cases hlt : j < ns.length
      · obtain ⟨b, o, rfl, hbl, hcl⟩ := hc (by omega)
        obtain ⟨e0, e1, e2⟩ := hcl j hlt
        replace e0 := (hbw.cell (p := ⟨b, o + j * 3, none⟩) hbl).trans e0
        replace e1 := (hbw.cell (p := ⟨b, o + j * 3 + 1, none⟩) hbl).trans e1
        replace e2 := (hbw.cell (p := ⟨b, o + j * 3 + 2, none⟩) hbl).trans e2
        have HX : Hid (encH k M N R ++ encNs (ns.take (j + 1)) = (encH k M N R ++ encNs (ns.take j)) ++ encN ns[j]) := by rw [List.append_assoc, ← encNs_snoc ns j hlt]; exact rfl
        obtain ⟨⟨x0, x1⟩, ⟨x2, x3⟩, x4⟩ := hS.each _ (List.getElem_mem hlt)
        generalize encH k M N R ++ encNs (ns.take j) = L at *
        generalize ns[j] = x at *
        have h2l := two8_length x.dig
        have x5 : (0 : Int) ≤ (x.ev.size : Int) := by omega
        have x6 : (x.ev.size : Int) ≤ 255 := by omega
        clear hcl hc hT hS
        rcases (show x.kind = 0 ∨ x.kind = 1 ∨ (¬ x.kind = 0 ∧ ¬ x.kind = 1) by omega) with kx0 | kx1 | ⟨kx0, kx1⟩
        · have b0 : (x.kind == 0) = true := by simp [kx0]
          have b1 : (x.kind == 1) = false := by simp [kx0]
          have HN : Hid _ := node0 L x kx0
          clear kx0
          go_wp2_with (go_at_call 50; refine (two_any _ _ (by assumption) (by assumption)).mono ?_; rintro e w' ⟨rfl, rfl⟩)
          go_roundw
          case rel => exact ⟨j + 1, by omega, by go_num, by rw [HX.out, HN.out], by repeat (first | exact hb | refine Below.alloc ?_ (by first | omega | (simp; omega)) _ | refine Below.setCell ?_ (by first | omega | (simp; omega)) _)⟩
          case measure => simp [intOf]; omega
        · have b0 : (x.kind == 0) = false := by simp [kx1]
          have b1 : (x.kind == 1) = true := by simp [kx1]
          have HN : Hid _ := node1 L x kx1
          clear kx1
          go_wp2_with (go_at_call 50; refine (two_any _ _ (by assumption) (by assumption)).mono ?_; rintro e w' ⟨rfl, rfl⟩)
          go_roundw
          case rel => exact ⟨j + 1, by omega, by go_num, by rw [HX.out, HN.out], by repeat (first | exact hb | refine Below.alloc ?_ (by first | omega | (simp; omega)) _ | refine Below.setCell ?_ (by first | omega | (simp; omega)) _)⟩
          case measure => simp [intOf]; omega
        · have b0 : (x.kind == 0) = false := by simp [kx0]
          have b1 : (x.kind == 1) = false := by simp [kx1]
          have HN : Hid _ := node2 L x kx0 kx1
          clear kx0 kx1
          go_wp2_with (go_at_call 50; refine (two_any _ _ (by assumption) (by assumption)).mono ?_; rintro e w' ⟨rfl, rfl⟩)
          go_roundw
          case rel => exact ⟨j + 1, by omega, by go_num, by rw [HX.out, HN.out], by repeat (first | exact hb | refine Below.alloc ?_ (by first | omega | (simp; omega)) _ | refine Below.setCell ?_ (by first | omega | (simp; omega)) _)⟩
          case measure => simp [intOf]; omega
      · have hjl : j = ns.length := by omega
        subst hjl
        go_wp2
        go_ret
        exact ⟨by rw [List.take_length]; rfl, hbw⟩
  · have kb : (k != 1) = true := by simp [k3]
    have kc : (k != 3) = false := by simp [k3]
    have HE : Hid _ := head3 k M N R k3
    clear k3
    go_enter Try.func52, Try.ntmps52
    go_wp2_with (go_at_call 50; refine (two_any _ _ (by assumption) (by assumption)).mono ?_; rintro e w' ⟨rfl, rfl⟩)
    rw [HE.out]
    go_loopw [3, 4] (fun s i wr => ∃ j : Nat, j ≤ ns.length ∧ i = .int .i64 j ∧ s = .string ⟨(encH k M N R ++ encNs (ns.take j)).toArray⟩ ∧ Below (w.heap.size + 1) (w.alloc (.cells #[.int .i64 k, .int .i64 M, .int .i64 N, .int .i64 R, .slice ao ns.length cap] 42)) wr) (fun _ i _ => ns.length - (intOf i).toNat)
    case atStart => exact ⟨0, Nat.zero_le _, rfl, by simp [encNs], by repeat (first | exact Below.refl _ _ | refine Below.alloc ?_ (by simp) _)⟩
    case round =>
      obtain ⟨j, hj, rfl, rfl, hb⟩ := hrel
      have hbw : Below w.heap.size w wr := ((Below.refl _ _).alloc (Nat.le_refl _) _).trans (hb.mono (by omega))
      have hbs : w.heap.size + 1 ≤ wr.heap.size := by have := hb.size; simpa using this
      have hbx : wr.cell? ⟨w.heap.size, 4, none⟩ = some (.slice ao ns.length cap) := (hb.cell (p := ⟨w.heap.size, 4, none⟩) (by simp)).trans (by rw [World.cell?_alloc_mark]; rfl)
      have hsz := mk_size (encH k M N R ++ encNs (ns.take j))
      have hle := encHN_le ns j hS
      by_cases hlt : j < ns.length
      · obtain ⟨b, o, rfl, hbl, hcl⟩ := hc (by omega)
        obtain ⟨e0, e1, e2⟩ := hcl j hlt
        replace e0 := (hbw.cell (p := ⟨b, o + j * 3, none⟩) hbl).trans e0
        replace e1 := (hbw.cell (p := ⟨b, o + j * 3 + 1, none⟩) hbl).trans e1
        replace e2 := (hbw.cell (p := ⟨b, o + j * 3 + 2, none⟩) hbl).trans e2
        have HX : Hid (encH k M N R ++ encNs (ns.take (j + 1)) = (encH k M N R ++ encNs (ns.take j)) ++ encN ns[j]) := by rw [List.append_assoc, ← encNs_snoc ns j hlt]; exact rfl
        obtain ⟨⟨x0, x1⟩, ⟨x2, x3⟩, x4⟩ := hS.each _ (List.getElem_mem hlt)
        generalize encH k M N R ++ encNs (ns.take j) = L at *
        generalize ns[j] = x at *
        have h2l := two8_length x.dig
        have x5 : (0 : Int) ≤ (x.ev.size : Int) := by omega
        have x6 : (x.ev.size : Int) ≤ 255 := by omega
        clear hcl hc hT hS
        rcases (show x.kind = 0 ∨ x.kind = 1 ∨ (¬ x.kind = 0 ∧ ¬ x.kind = 1) by omega) with kx0 | kx1 | ⟨kx0, kx1⟩
        · have b0 : (x.kind == 0) = true := by simp [kx0]
          have b1 : (x.kind == 1) = false := by simp [kx0]
          have HN : Hid _ := node0 L x kx0
          clear kx0
          go_wp2_with (go_at_call 50; refine (two_any _ _ (by assumption) (by assumption)).mono ?_; rintro e w' ⟨rfl, rfl⟩)
          go_roundw
          case rel => exact ⟨j + 1, by omega, by go_num, by rw [HX.out, HN.out], by repeat (first | exact hb | refine Below.alloc ?_ (by first | omega | (simp; omega)) _ | refine Below.setCell ?_ (by first | omega | (simp; omega)) _)⟩
          case measure => simp [intOf]; omega
        · have b0 : (x.kind == 0) = false := by simp [kx1]
          have b1 : (x.kind == 1) = true := by simp [kx1]
          have HN : Hid _ := node1 L x kx1
          clear kx1
          go_wp2_with (go_at_call 50; refine (two_any _ _ (by assumption) (by assumption)).mono ?_; rintro e w' ⟨rfl, rfl⟩)
          go_roundw
          case rel => exact ⟨j + 1, by omega, by go_num, by rw [HX.out, HN.out], by repeat (first | exact hb | refine Below.alloc ?_ (by first | omega | (simp; omega)) _ | refine Below.setCell ?_ (by first | omega | (simp; omega)) _)⟩
          case measure => simp [intOf]; omega
        · have b0 : (x.kind == 0) = false := by simp [kx0]
          have b1 : (x.kind == 1) = false := by simp [kx1]
          have HN : Hid _ := node2 L x kx0 kx1
          clear kx0 kx1
          go_wp2_with (go_at_call 50; refine (two_any _ _ (by assumption) (by assumption)).mono ?_; rintro e w' ⟨rfl, rfl⟩)
          go_roundw
          case rel => exact ⟨j + 1, by omega, by go_num, by rw [HX.out, HN.out], by repeat (first | exact hb | refine Below.alloc ?_ (by first | omega | (simp; omega)) _ | refine Below.setCell ?_ (by first | omega | (simp; omega)) _)⟩
          case measure => simp [intOf]; omega
      · have hjl : j = ns.length := by omega
        subst hjl
        go_wp2
        go_ret
        exact ⟨by rw [List.take_length]; rfl, hbw⟩
  · have kb : (k != 1) = true := by simp [k1]
    have kc : (k != 3) = true := by simp [k3]
    have HE : Hid _ := head2 k M N R k1 k3
    clear k1 k3
    go_enter Try.func52, Try.ntmps52
    go_wp2_with (go_at_call 50; refine (two_any _ _ (by assumption) (by assumption)).mono ?_; rintro e w' ⟨rfl, rfl⟩)
    rw [HE.out]
    go_loopw [3, 4] (fun s i wr => ∃ j : Nat, j ≤ ns.length ∧ i = .int .i64 j ∧ s = .string ⟨(encH k M N R ++ encNs (ns.take j)).toArray⟩ ∧ Below (w.heap.size + 1) (w.alloc (.cells #[.int .i64 k, .int .i64 M, .int .i64 N, .int .i64 R, .slice ao ns.length cap] 42)) wr) (fun _ i _ => ns.length - (intOf i).toNat)
    case atStart => exact ⟨0, Nat.zero_le _, rfl, by simp [encNs], by repeat (first | exact Below.refl _ _ | refine Below.alloc ?_ (by simp) _)⟩
    case round =>
      obtain ⟨j, hj, rfl, rfl, hb⟩ := hrel
      have hbw : Below w.heap.size w wr := ((Below.refl _ _).alloc (Nat.le_refl _) _).trans (hb.mono (by omega))
      have hbs : w.heap.size + 1 ≤ wr.heap.size := by have := hb.size; simpa using this
      have hbx : wr.cell? ⟨w.heap.size, 4, none⟩ = some (.slice ao ns.length cap) := (hb.cell (p := ⟨w.heap.size, 4, none⟩) (by simp)).trans (by rw [World.cell?_alloc_mark]; rfl)
      have hsz := mk_size (encH k M N R ++ encNs (ns.take j))
      have hle := encHN_le ns j hS
      by_cases hlt : j < ns.length
      · obtain ⟨b, o, rfl, hbl, hcl⟩ := hc (by omega)
        obtain ⟨e0, e1, e2⟩ := hcl j hlt
        replace e0 := (hbw.cell (p := ⟨b, o + j * 3, none⟩) hbl).trans e0
        replace e1 := (hbw.cell (p := ⟨b, o + j * 3 + 1, none⟩) hbl).trans e1
        replace e2 := (hbw.cell (p := ⟨b, o + j * 3 + 2, none⟩) hbl).trans e2
        have HX : Hid (encH k M N R ++ encNs (ns.take (j + 1)) = (encH k M N R ++ encNs (ns.take j)) ++ encN ns[j]) := by rw [List.append_assoc, ← encNs_snoc ns j hlt]; exact rfl
        obtain ⟨⟨x0, x1⟩, ⟨x2, x3⟩, x4⟩ := hS.each _ (List.getElem_mem hlt)
        generalize encH k M N R ++ encNs (ns.take j) = L at *
        generalize ns[j] = x at *
        have h2l := two8_length x.dig
        have x5 : (0 : Int) ≤ (x.ev.size : Int) := by omega
        have x6 : (x.ev.size : Int) ≤ 255 := by omega
        clear hcl hc hT hS
        rcases (show x.kind = 0 ∨ x.kind = 1 ∨ (¬ x.kind = 0 ∧ ¬ x.kind = 1) by omega) with kx0 | kx1 | ⟨kx0, kx1⟩
        · have b0 : (x.kind == 0) = true := by simp [kx0]
          have b1 : (x.kind == 1) = false := by simp [kx0]
          have HN : Hid _ := node0 L x kx0
          clear kx0
          go_wp2_with (go_at_call 50; refine (two_any _ _ (by assumption) (by assumption)).mono ?_; rintro e w' ⟨rfl, rfl⟩)
          go_roundw
          case rel => exact ⟨j + 1, by omega, by go_num, by rw [HX.out, HN.out], by repeat (first | exact hb | refine Below.alloc ?_ (by first | omega | (simp; omega)) _ | refine Below.setCell ?_ (by first | omega | (simp; omega)) _)⟩
          case measure => simp [intOf]; omega
        · have b0 : (x.kind == 0) = false := by simp [kx1]
          have b1 : (x.kind == 1) = true := by simp [kx1]
          have HN : Hid _ := node1 L x kx1
          clear kx1
          go_wp2_with (go_at_call 50; refine (two_any _ _ (by assumption) (by assumption)).mono ?_; rintro e w' ⟨rfl, rfl⟩)
          go_roundw
          case rel => exact ⟨j + 1, by omega, by go_num, by rw [HX.out, HN.out], by repeat (first | exact hb | refine Below.alloc ?_ (by first | omega | (simp; omega)) _ | refine Below.setCell ?_ (by first | omega | (simp; omega)) _)⟩
          case measure => simp [intOf]; omega
        · have b0 : (x.kind == 0) = false := by simp [kx0]
          have b1 : (x.kind == 1) = false := by simp [kx1]
          have HN : Hid _ := node2 L x kx0 kx1
          clear kx0 kx1
          go_wp2_with (go_at_call 50; refine (two_any _ _ (by assumption) (by assumption)).mono ?_; rintro e w' ⟨rfl, rfl⟩)
          go_roundw
          case rel => exact ⟨j + 1, by omega, by go_num, by rw [HX.out, HN.out], by repeat (first | exact hb | refine Below.alloc ?_ (by first | omega | (simp; omega)) _ | refine Below.setCell ?_ (by first | omega | (simp; omega)) _)⟩
          case measure => simp [intOf]; omega
      · have hjl : j = ns.length := by omega
        subst hjl
        go_wp2
        go_ret
        exact ⟨by rw [List.take_length]; rfl, hbw⟩
end Go.Proofs.Ytlndinigbppafaa
