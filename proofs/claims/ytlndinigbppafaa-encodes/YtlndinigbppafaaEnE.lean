/-
  The walks of the program's Encode: what is too great.
-/
import Derived.Test.YtlndinigbppafaaWire
import Derived.Handy
namespace Go.Proofs.Ytlndinigbppafaa
open Go.RowKit

/-- Is an event too long? -/
def bigB (ns : List PN) : Bool := ns.any (fun x => decide (50 < x.ev.size))

set_option maxRecDepth 100000 in
set_option maxHeartbeats 1000000 in
theorem bigLit_any (x : PN) (w : World) :
    Calls Try.prog 85 #[.agg #[.int .i64 x.kind, .int .i64 x.dig, .string x.ev]] w fun e w' => e = .returned (.bool (decide (50 < x.ev.size))) ∧ Below w.heap.size w w' := by
  go_enter Try.func85, Try.ntmps85
  go_wp2
  go_ret
  refine ⟨?_, (Below.refl _ _).alloc (Nat.le_refl _) _⟩
  show Ending.returned (Value.bool (decide ((50 : Int) < (x.ev.size : Int)))) = _
  rw [show decide ((50 : Int) < (x.ev.size : Int)) = decide (50 < x.ev.size) from decide_eq_decide.2 (by omega)]

set_option maxRecDepth 100000 in
set_option maxHeartbeats 1000000 in
theorem indexFunc_any (ns : List PN) (T : Value) (w : World) (hT : NodesG w T ns) (hn : ns.length ≤ 4000) :
    Calls Try.prog 101 #[T, .func (.func 85) #[] #[]] w fun e w' => ∃ r : Int, e = .returned (.int .i64 r) ∧ bigB ns = decide (0 ≤ r) ∧ -1 ≤ r ∧ r ≤ 4000 ∧ Below w.heap.size w w' := by
  obtain ⟨ao, cap, rfl, _, hc⟩ := hT.cells
  go_enter Try.func101, Try.ntmps101
  go_wp2
  go_loopw [8] (fun i wr => ∃ j : Nat, j ≤ ns.length ∧ i = .int .i64 j ∧ Hid (bigB (ns.take j) = false) ∧ Below w.heap.size w wr) (fun i _ => ns.length - (intOf i).toNat)
  case atStart => exact ⟨0, Nat.zero_le _, rfl, rfl, Below.refl _ _⟩
  case round =>
    obtain ⟨j, hj, rfl, hall, hb⟩ := hrel
    by_cases hlt : j < ns.length
    · obtain ⟨b, o, rfl, hbl, hcl⟩ := hc (by omega)
      obtain ⟨e0, e1, e2⟩ := hcl j hlt
      replace e0 := (hb.cell (p := ⟨b, o + j * 3, none⟩) hbl).trans e0
      replace e1 := (hb.cell (p := ⟨b, o + j * 3 + 1, none⟩) hbl).trans e1
      replace e2 := (hb.cell (p := ⟨b, o + j * 3 + 2, none⟩) hbl).trans e2
      have HB : Hid (bigB (ns.take (j + 1)) = decide (50 < ns[j].ev.size)) := by
        have h := hall.out
        unfold bigB at h
        show _ = _
        unfold bigB
        rw [take_snoc ns j hlt, List.any_append, h]
        simp
      have HM : Hid (50 < ns[j].ev.size → bigB ns = true) := fun h => by
        unfold bigB
        rw [List.any_eq_true]
        exact ⟨ns[j], List.getElem_mem hlt, decide_eq_true h⟩
      generalize ns[j] = x at *
      clear hcl hc hT
      go_wp2_with fail
      refine (bigLit_any x _).mono ?_
      rintro e w2 ⟨rfl, hb2⟩
      have hb02 := hb.trans (hb2.mono hb.size)
      by_cases hbig : 50 < x.ev.size
      · rw [decide_eq_true hbig]
        go_wp2
        go_ret
        exact ⟨j, rfl, by rw [HM.out hbig, decide_eq_true (by omega)], by omega, by omega, hb02⟩
      · rw [decide_eq_false hbig] at HB ⊢
        go_wp2
        go_roundw
        case rel => exact ⟨j + 1, by omega, by go_num, HB, hb02⟩
        case measure => simp [intOf]; omega
    · have hjl : j = ns.length := by omega
      subst hjl
      rw [List.take_length] at hall
      go_wp2
      go_ret
      exact ⟨-1, rfl, by rw [hall.out]; rfl, by omega, by omega, hb⟩

set_option maxRecDepth 100000 in
set_option maxHeartbeats 1000000 in
theorem containsFunc_any (ns : List PN) (T : Value) (w : World) (hT : NodesG w T ns) (hn : ns.length ≤ 4000) :
    Calls Try.prog 84 #[T, .func (.func 85) #[] #[]] w fun e w' => e = .returned (.bool (bigB ns)) ∧ Below w.heap.size w w' := by
  go_enter Try.func84, Try.ntmps84
  go_wp2_with fail
  refine (indexFunc_any ns T _ hT hn).mono ?_
  rintro e w1 ⟨r, rfl, hr, _, _, hb⟩
  go_wp2
  go_ret
  exact ⟨by rw [hr]; rfl, hb⟩

set_option maxRecDepth 100000 in
set_option maxHeartbeats 1000000 in
theorem tooGreat_any (k M N R : Int) (ns : List PN) (T : Value) (w : World) (hT : NodesG w T ns) :
    Calls Try.prog 66 #[.agg #[.int .i64 k, .int .i64 M, .int .i64 N, .int .i64 R, T]] w fun e w' => e = .returned (.bool (decide (4000 < ns.length) || bigB ns)) ∧ Below w.heap.size w w' := by
  obtain ⟨ao, cap, rfl, _⟩ := id hT
  have hA : Below w.heap.size w (w.alloc (.cells #[.int .i64 k, .int .i64 M, .int .i64 N, .int .i64 R, .slice ao ns.length cap] 42)) := (Below.refl _ _).alloc (Nat.le_refl _) _
  by_cases hl : 4000 < ns.length
  · go_enter Try.func66, Try.ntmps66
    go_wp2
    go_ret
    exact ⟨by first | rfl | (rw [decide_eq_true hl]; rfl) | (simp [hl]), hA⟩
  · go_enter Try.func66, Try.ntmps66
    go_wp2_with fail
    refine (containsFunc_any ns _ _ (hT.keep (keepA _ _)) (by omega)).mono ?_
    rintro e w1 ⟨rfl, hb1⟩
    go_wp2
    go_ret
    refine ⟨?_, hA.trans (hb1.mono hA.size)⟩
    show Ending.returned (Value.bool (decide ((4000 : Int) < (ns.length : Int)) || bigB ns)) = _
    first
      | rfl
      | rw [show decide ((4000 : Int) < (ns.length : Int)) = decide (4000 < ns.length) from decide_eq_decide.2 (by omega)]
      | (rw [decide_eq_false (by omega)]; rfl)
end Go.Proofs.Ytlndinigbppafaa

/-
  The walks of the program's Encode: two bytes of any number.
-/
namespace Go.Proofs.Ytlndinigbppafaa
open Go.RowKit

set_option maxRecDepth 100000 in
set_option maxHeartbeats 400000 in
theorem wireTwoG (n : Int) (w : World) :
    Calls Try.prog 87 #[.int .i64 n] w fun e w' => e = .returned (.slice (some ⟨w.heap.size, 0, none⟩) 2 2) ∧ w' = w.alloc (.cells #[.int .u8 (n / 256 % 256), .int .u8 (n % 256)] 5) := by
  go_enter Try.func87, Try.ntmps87
  go_wp2
  go_ret
  exact ⟨rfl, rfl⟩
theorem two8_atG (n : Int) (w : World) (b : Nat) (hb : b = w.heap.size) : BytesAt (w.alloc (.cells #[.int .u8 (n / 256 % 256), .int .u8 (n % 256)] 5)) (.slice (some ⟨b, 0, none⟩) 2 2) (two8 n) := by
  subst hb
  refine ⟨_, _, rfl, fun h => (by cases h), fun _ => ⟨_, _, _, _, rfl, heap_alloc_new w _, fun j hj => ?_⟩⟩
  have e1 := b8_nat (n / 256 % 256) (by omega) (by omega)
  have e2 := b8_nat (n % 256) (by omega) (by omega)
  unfold b8 at e1 e2
  match j, hj with
  | 0, _ => show some (Value.int .u8 (n / 256 % 256)) = some (.int .u8 ((UInt8.ofNat (n / 256 % 256).toNat).toNat : Int)); rw [e1]
  | 1, _ => show some (Value.int .u8 (n % 256)) = some (.int .u8 ((UInt8.ofNat (n % 256).toNat).toNat : Int)); rw [e2]
end Go.Proofs.Ytlndinigbppafaa

/-
  The walks of the program's Encode: the bytes of any node.
-/
namespace Go.Proofs.Ytlndinigbppafaa
open Go.RowKit

/-- A number's lowest byte. -/
def b8g (x : Int) : UInt8 := UInt8.ofNat (x % 256).toNat
theorem b8g_b8 (x : Int) (h0 : 0 ≤ x) (h1 : x ≤ 255) : b8g x = b8 x := by
  unfold b8g b8
  rw [Int.emod_eq_of_lt h0 (by omega)]
theorem byte_atG (x : Int) (w : World) (b : Nat) (hb : b = w.heap.size) : BytesAt (w.alloc (.cells #[.int .u8 (x % 256)] 5)) (.slice (some ⟨b, 0, none⟩) 1 1) [b8g x] := by
  subst hb
  refine ⟨_, _, rfl, fun h => (by cases h), fun _ => ⟨_, _, _, _, rfl, heap_alloc_new w _, fun j hj => ?_⟩⟩
  have e1 := b8_nat (x % 256) (by omega) (by omega)
  unfold b8 at e1
  match j, hj with
  | 0, _ => show some (Value.int .u8 (x % 256)) = some (.int .u8 ((UInt8.ofNat (x % 256).toNat).toNat : Int)); rw [e1]
/-- A node's bytes, whatever its numbers. -/
def encNg (x : PN) : List UInt8 :=
  b8g x.kind :: ((if x.kind = 0 then two8 x.dig else []) ++ (if x.kind = 1 then b8 x.ev.size :: x.ev.data.toList else []))
theorem encNg_le (x : PN) (m : Nat) (h : x.ev.size ≤ m) : (encNg x).length ≤ 4 + m := by
  have e : x.ev.data.toList.length = x.ev.size := by rw [Array.length_toList]; rfl
  unfold encNg
  split <;> split <;> simp [two8_length] <;> omega
theorem encNg_encN (x : PN) (h0 : 0 ≤ x.kind) (h1 : x.kind ≤ 255) : encNg x = encN x := by
  unfold encNg encN
  rw [b8g_b8 _ h0 h1]

set_option maxRecDepth 100000 in
set_option maxHeartbeats 1000000 in
theorem nodeG (x : PN) (w : World) (he : x.ev.size ≤ 255) :
    Calls Try.prog 70 #[.agg #[.int .i64 x.kind, .int .i64 x.dig, .string x.ev]] w fun e w' => ∃ v', e = .returned v' ∧ BytesAt w' v' (encNg x) ∧ Below w.heap.size w w' := by
  have ex0 : (0 : Int) ≤ (x.ev.size : Int) := by omega
  have ex1 : (x.ev.size : Int) ≤ 255 := by omega
  have hcv := fun u s => @run_bytes_of_string Try.prog u 9 24 5 s Try.underlying9 Try.underlying24 Try.underlying5
  rcases (show x.kind = 0 ∨ x.kind = 1 ∨ (¬ x.kind = 0 ∧ ¬ x.kind = 1) by omega) with k0 | k1 | ⟨k0, k1⟩
  · have b0 : (x.kind == 0) = true := by simp [k0]
    have b1 : (x.kind == 1) = false := by simp [k0]
    have HE : Hid (encNg x = [[b8g x.kind], two8 x.dig].flatten) := by simp [Hid, encNg, k0]
    clear k0
    go_enter Try.func70, Try.ntmps70
    go_wp2_with (go_at_call 87; refine (wireTwoG _ _).mono ?_; rintro e w' ⟨rfl, rfl⟩)
    refine (join_any [[b8g x.kind], two8 x.dig] _ _ (rows2 _ _ _ _ _ _ (by simp) ((byte_atG _ _ _ (by simp)).keep (keepA _ _)) (two8_atG _ _ _ (by simp))) (by simp) (by simp [two8])).mono ?_
    rintro e w' ⟨v', rfl, hown, hbel⟩
    go_wp2
    go_ret
    exact ⟨_, rfl, by rw [HE.out]; exact BytesAt.of_owns hown, ((((((Below.refl _ _).alloc (Nat.le_refl _) _).alloc (by simp) _).alloc (by simp; omega) _).alloc (by simp; omega) _).trans (hbel.mono (by simp; omega)))⟩
  · have b0 : (x.kind == 0) = false := by simp [k1]
    have b1 : (x.kind == 1) = true := by simp [k1]
    have HE : Hid (encNg x = [[b8g x.kind], [b8 x.ev.size], x.ev.data.toList].flatten) := by simp [Hid, encNg, k1]
    clear k1
    go_enter Try.func70, Try.ntmps70
    go_wp2_with fail
    refine (join_any [[b8g x.kind], [b8 x.ev.size], x.ev.data.toList] _ _ ((rows3 _ _ _ _ _ _ _ _ (by simp) (((byte_atG _ _ _ (by simp)).keep (keepA _ _)).keep (keepA _ _)) ((byte_at _ _ _ ex0 ex1 (by simp)).keep (keepA _ _)) (made_at _ _ _ _ _ _ (by simp) rfl)).keep (keepD _) (keepD _)) (by simp) (by rw [← HE.out]; have := encNg_le x 255 he; omega)).mono ?_
    rintro e w' ⟨v', rfl, hown, hbel⟩
    go_wp2
    go_ret
    exact ⟨_, rfl, by rw [HE.out]; exact BytesAt.of_owns hown, ((((((((Below.refl _ _).alloc (Nat.le_refl _) _).alloc (by simp) _).alloc (by simp; omega) _).alloc (by simp; omega) _).alloc (by simp; omega) _).drew).trans (hbel.mono (by simp; omega)))⟩
  · have b0 : (x.kind == 0) = false := by simp [k0]
    have b1 : (x.kind == 1) = false := by simp [k1]
    have HE : Hid (encNg x = [b8g x.kind]) := by simp [Hid, encNg, k0, k1]
    clear k0 k1
    go_enter Try.func70, Try.ntmps70
    go_wp2
    go_ret
    exact ⟨_, rfl, by rw [HE.out]; exact byte_atG _ _ _ (by simp), ((Below.refl _ _).alloc (Nat.le_refl _) _).alloc (by simp) _⟩

end Go.Proofs.Ytlndinigbppafaa

/-
  The walks of the program's Encode: the bytes of any value.
-/
namespace Go.Proofs.Ytlndinigbppafaa
open Go.RowKit

/-- The bytes ahead of the tree, whatever the numbers. -/
def encHg (k M N R : Int) : List UInt8 := b8g k :: (if k = 1 then two8 N ++ two8 R else if k = 2 then two8 M ++ (two8 N ++ two8 R) else two8 M ++ two8 N)
def encNsg (ns : List PN) : List UInt8 := (ns.map encNg).flatten
def encMg (k M N R : Int) (ns : List PN) : List UInt8 := encHg k M N R ++ encNsg ns
theorem encNsg_snoc (ns : List PN) (k : Nat) (h : k < ns.length) : encNsg (ns.take (k + 1)) = encNsg (ns.take k) ++ encNg ns[k] := by
  unfold encNsg
  rw [take_snoc ns k h, List.map_append, List.flatten_append]
  simp only [List.map_cons, List.map_nil, List.flatten_cons, List.flatten_nil, List.append_nil]
theorem encNsg_le (ns : List PN) (h : ∀ x ∈ ns, x.ev.size ≤ 255) : (encNsg ns).length ≤ ns.length * 259 := by
  induction ns with
  | nil => simp [encNsg]
  | cons x ns ih =>
    have h1 := encNg_le x 255 (h x (by simp))
    have h2 := ih (fun y hy => h y (by simp [hy]))
    have e : encNsg (x :: ns) = encNg x ++ encNsg ns := by unfold encNsg; rw [List.map_cons, List.flatten_cons]
    rw [e, List.length_append, List.length_cons]; omega
theorem encHg_le (k M N R : Int) : (encHg k M N R).length ≤ 7 := by
  unfold encHg
  split
  · simp [two8_length]
  · split <;> simp [two8_length]
theorem encMg_le (k M N R : Int) (ns : List PN) (hl : ns.length ≤ 4000) (h : ∀ x ∈ ns, x.ev.size ≤ 255) : (encMg k M N R ns).length ≤ 1000000000 := by
  have h1 := encHg_le k M N R
  have h2 := encNsg_le ns h
  unfold encMg
  rw [List.length_append]
  omega

set_option maxRecDepth 100000 in
set_option maxHeartbeats 1000000 in
theorem headG (k M N R : Int) (T : Value) (w : World) :
    Calls Try.prog 69 #[.agg #[.int .i64 k, .int .i64 M, .int .i64 N, .int .i64 R, T]] w fun e w' => ∃ (v' : Value) (us : List Value) (ls : List (List UInt8)), e = .returned v' ∧ w'.ownsRow w.heap.size 24 1 v' us.length us ∧ ls.flatten = encHg k M N R ∧ ls.length = us.length ∧ us.length ≤ 4 ∧ (∀ j (h : j < ls.length), ∃ u, us[j]? = some u ∧ BytesAt w' u ls[j]) ∧ Below w.heap.size w w' := by
  rcases (show k = 1 ∨ k = 2 ∨ (¬ k = 1 ∧ ¬ k = 2) by omega) with k1 | k2 | k3
  · have b0 : (k == 1) = true := by simp [k1]
    have HE : Hid (encHg k M N R = [[b8g k], two8 N, two8 R].flatten) := by simp [Hid, encHg, k1]
    clear k1
    go_enter Try.func69, Try.ntmps69
    go_wp2
    have hB := byte_atG k (w.alloc (.cells #[.int .i64 k, .int .i64 M, .int .i64 N, .int .i64 R, T] 42)) (w.heap.size + 1) (by simp)
    have fN : ((w.alloc (.cells #[.int .i64 k, .int .i64 M, .int .i64 N, .int .i64 R, T] 42)).alloc (.cells #[.int .u8 (k % 256)] 5)).cell? ⟨w.heap.size, 2, none⟩ = some (.int .i64 N) := by simp
    have fR : ((w.alloc (.cells #[.int .i64 k, .int .i64 M, .int .i64 N, .int .i64 R, T] 42)).alloc (.cells #[.int .u8 (k % 256)] 5)).cell? ⟨w.heap.size, 3, none⟩ = some (.int .i64 R) := by simp
    have hW : Below w.heap.size w ((w.alloc (.cells #[.int .i64 k, .int .i64 M, .int .i64 N, .int .i64 R, T] 42)).alloc (.cells #[.int .u8 (k % 256)] 5)) := ((Below.refl _ _).alloc (Nat.le_refl _) _).alloc (by simp) _
    generalize (w.alloc (.cells #[.int .i64 k, .int .i64 M, .int .i64 N, .int .i64 R, T] 42)).alloc (.cells #[.int .u8 (k % 256)] 5) = W at hB fN fR hW ⊢
    have hWs := hW.size
    go_region_held3 (fun w' => w'.cell? ⟨w.heap.size, 2, none⟩ = some (.int .i64 N) ∧ w'.cell? ⟨w.heap.size, 3, none⟩ = some (.int .i64 R)) (exact ⟨cell_keep fN (by repeat (first | exact Below.refl _ _ | refine Below.drew ?_ | refine Below.alloc ?_ (by first | omega | (simp; omega) | simp) _)), cell_keep fR (by repeat (first | exact Below.refl _ _ | refine Below.drew ?_ | refine Below.alloc ?_ (by first | omega | (simp; omega) | simp) _))⟩)
      (first | (go_at_call 87; refine (wireTwoG _ _).mono ?_; rintro e w' ⟨rfl, rfl⟩))
    go_wp2
    go_ret
    refine ⟨_, [.slice (some ⟨w.heap.size + 1, 0, none⟩) 1 1, .slice (some ⟨W.heap.size, 0, none⟩) 2 2, .slice (some ⟨W.heap.size + 1, 0, none⟩) 2 2], [[b8g k], two8 N, two8 R], rfl, (owns_lit _ _ _ _ _ 3 _ (by simp) (by omega) rfl (by decide) rfl).drew, HE.out.symm, rfl, (by simp), fun j hj => ?_, ?_⟩
    · match j, hj with
      | 0, _ => exact ⟨_, rfl, ((((hB).keep (keepA _ _)).keep (keepA _ _)).keep (keepA _ _)).keep (keepD _)⟩
      | 1, _ => exact ⟨_, rfl, (((two8_atG N W (W.heap.size) (by simp)).keep (keepA _ _)).keep (keepA _ _)).keep (keepD _)⟩
      | 2, _ => exact ⟨_, rfl, ((two8_atG R (W.alloc (.cells #[.int .u8 (N / 256 % 256), .int .u8 (N % 256)] 5)) (W.heap.size + 1) (by simp)).keep (keepA _ _)).keep (keepD _)⟩
    · exact ((((hW).alloc (by first | omega | (simp; omega)) _).alloc (by first | omega | (simp; omega)) _).alloc (by first | omega | (simp; omega)) _).drew
  · have b0 : (k == 1) = false := by simp [k2]
    have b1 : (k == 2) = true := by simp [k2]
    have HE : Hid (encHg k M N R = [[b8g k], two8 M, two8 N, two8 R].flatten) := by simp [Hid, encHg, k2]
    clear k2
    go_enter Try.func69, Try.ntmps69
    go_wp2
    have hB := byte_atG k (w.alloc (.cells #[.int .i64 k, .int .i64 M, .int .i64 N, .int .i64 R, T] 42)) (w.heap.size + 1) (by simp)
    have fM : ((w.alloc (.cells #[.int .i64 k, .int .i64 M, .int .i64 N, .int .i64 R, T] 42)).alloc (.cells #[.int .u8 (k % 256)] 5)).cell? ⟨w.heap.size, 1, none⟩ = some (.int .i64 M) := by simp
    have fN : ((w.alloc (.cells #[.int .i64 k, .int .i64 M, .int .i64 N, .int .i64 R, T] 42)).alloc (.cells #[.int .u8 (k % 256)] 5)).cell? ⟨w.heap.size, 2, none⟩ = some (.int .i64 N) := by simp
    have fR : ((w.alloc (.cells #[.int .i64 k, .int .i64 M, .int .i64 N, .int .i64 R, T] 42)).alloc (.cells #[.int .u8 (k % 256)] 5)).cell? ⟨w.heap.size, 3, none⟩ = some (.int .i64 R) := by simp
    have hW : Below w.heap.size w ((w.alloc (.cells #[.int .i64 k, .int .i64 M, .int .i64 N, .int .i64 R, T] 42)).alloc (.cells #[.int .u8 (k % 256)] 5)) := ((Below.refl _ _).alloc (Nat.le_refl _) _).alloc (by simp) _
    generalize (w.alloc (.cells #[.int .i64 k, .int .i64 M, .int .i64 N, .int .i64 R, T] 42)).alloc (.cells #[.int .u8 (k % 256)] 5) = W at hB fM fN fR hW ⊢
    have hWs := hW.size
    go_region_held3 (fun w' => w'.cell? ⟨w.heap.size, 1, none⟩ = some (.int .i64 M) ∧ w'.cell? ⟨w.heap.size, 2, none⟩ = some (.int .i64 N) ∧ w'.cell? ⟨w.heap.size, 3, none⟩ = some (.int .i64 R)) (exact ⟨cell_keep fM (by repeat (first | exact Below.refl _ _ | refine Below.drew ?_ | refine Below.alloc ?_ (by first | omega | (simp; omega) | simp) _)), cell_keep fN (by repeat (first | exact Below.refl _ _ | refine Below.drew ?_ | refine Below.alloc ?_ (by first | omega | (simp; omega) | simp) _)), cell_keep fR (by repeat (first | exact Below.refl _ _ | refine Below.drew ?_ | refine Below.alloc ?_ (by first | omega | (simp; omega) | simp) _))⟩)
      (first | (go_at_call 87; refine (wireTwoG _ _).mono ?_; rintro e w' ⟨rfl, rfl⟩))
    go_wp2
    go_ret
    refine ⟨_, [.slice (some ⟨w.heap.size + 1, 0, none⟩) 1 1, .slice (some ⟨W.heap.size, 0, none⟩) 2 2, .slice (some ⟨W.heap.size + 1, 0, none⟩) 2 2, .slice (some ⟨W.heap.size + 1 + 1, 0, none⟩) 2 2], [[b8g k], two8 M, two8 N, two8 R], rfl, (owns_lit _ _ _ _ _ 4 _ (by simp) (by omega) rfl (by decide) rfl).drew, HE.out.symm, rfl, (by simp), fun j hj => ?_, ?_⟩
    · match j, hj with
      | 0, _ => exact ⟨_, rfl, (((((hB).keep (keepA _ _)).keep (keepA _ _)).keep (keepA _ _)).keep (keepA _ _)).keep (keepD _)⟩
      | 1, _ => exact ⟨_, rfl, ((((two8_atG M W (W.heap.size) (by simp)).keep (keepA _ _)).keep (keepA _ _)).keep (keepA _ _)).keep (keepD _)⟩
      | 2, _ => exact ⟨_, rfl, (((two8_atG N (W.alloc (.cells #[.int .u8 (M / 256 % 256), .int .u8 (M % 256)] 5)) (W.heap.size + 1) (by simp)).keep (keepA _ _)).keep (keepA _ _)).keep (keepD _)⟩
      | 3, _ => exact ⟨_, rfl, ((two8_atG R ((W.alloc (.cells #[.int .u8 (M / 256 % 256), .int .u8 (M % 256)] 5)).alloc (.cells #[.int .u8 (N / 256 % 256), .int .u8 (N % 256)] 5)) (W.heap.size + 1 + 1) (by simp)).keep (keepA _ _)).keep (keepD _)⟩
    · exact (((((hW).alloc (by first | omega | (simp; omega)) _).alloc (by first | omega | (simp; omega)) _).alloc (by first | omega | (simp; omega)) _).alloc (by first | omega | (simp; omega)) _).drew
  · have b0 : (k == 1) = false := by simp [k3.1]
    have b1 : (k == 2) = false := by simp [k3.2]
    have HE : Hid (encHg k M N R = [[b8g k], two8 M, two8 N].flatten) := by simp [Hid, encHg, k3.1, k3.2]
    clear k3
    go_enter Try.func69, Try.ntmps69
    go_wp2
    have hB := byte_atG k (w.alloc (.cells #[.int .i64 k, .int .i64 M, .int .i64 N, .int .i64 R, T] 42)) (w.heap.size + 1) (by simp)
    have fM : ((w.alloc (.cells #[.int .i64 k, .int .i64 M, .int .i64 N, .int .i64 R, T] 42)).alloc (.cells #[.int .u8 (k % 256)] 5)).cell? ⟨w.heap.size, 1, none⟩ = some (.int .i64 M) := by simp
    have fN : ((w.alloc (.cells #[.int .i64 k, .int .i64 M, .int .i64 N, .int .i64 R, T] 42)).alloc (.cells #[.int .u8 (k % 256)] 5)).cell? ⟨w.heap.size, 2, none⟩ = some (.int .i64 N) := by simp
    have hW : Below w.heap.size w ((w.alloc (.cells #[.int .i64 k, .int .i64 M, .int .i64 N, .int .i64 R, T] 42)).alloc (.cells #[.int .u8 (k % 256)] 5)) := ((Below.refl _ _).alloc (Nat.le_refl _) _).alloc (by simp) _
    generalize (w.alloc (.cells #[.int .i64 k, .int .i64 M, .int .i64 N, .int .i64 R, T] 42)).alloc (.cells #[.int .u8 (k % 256)] 5) = W at hB fM fN hW ⊢
    have hWs := hW.size
    go_region_held3 (fun w' => w'.cell? ⟨w.heap.size, 1, none⟩ = some (.int .i64 M) ∧ w'.cell? ⟨w.heap.size, 2, none⟩ = some (.int .i64 N)) (exact ⟨cell_keep fM (by repeat (first | exact Below.refl _ _ | refine Below.drew ?_ | refine Below.alloc ?_ (by first | omega | (simp; omega) | simp) _)), cell_keep fN (by repeat (first | exact Below.refl _ _ | refine Below.drew ?_ | refine Below.alloc ?_ (by first | omega | (simp; omega) | simp) _))⟩)
      (first | (go_at_call 87; refine (wireTwoG _ _).mono ?_; rintro e w' ⟨rfl, rfl⟩))
    go_wp2
    go_ret
    refine ⟨_, [.slice (some ⟨w.heap.size + 1, 0, none⟩) 1 1, .slice (some ⟨W.heap.size, 0, none⟩) 2 2, .slice (some ⟨W.heap.size + 1, 0, none⟩) 2 2], [[b8g k], two8 M, two8 N], rfl, (owns_lit _ _ _ _ _ 3 _ (by simp) (by omega) rfl (by decide) rfl).drew, HE.out.symm, rfl, (by simp), fun j hj => ?_, ?_⟩
    · match j, hj with
      | 0, _ => exact ⟨_, rfl, ((((hB).keep (keepA _ _)).keep (keepA _ _)).keep (keepA _ _)).keep (keepD _)⟩
      | 1, _ => exact ⟨_, rfl, (((two8_atG M W (W.heap.size) (by simp)).keep (keepA _ _)).keep (keepA _ _)).keep (keepD _)⟩
      | 2, _ => exact ⟨_, rfl, ((two8_atG N (W.alloc (.cells #[.int .u8 (M / 256 % 256), .int .u8 (M % 256)] 5)) (W.heap.size + 1) (by simp)).keep (keepA _ _)).keep (keepD _)⟩
    · exact ((((hW).alloc (by first | omega | (simp; omega)) _).alloc (by first | omega | (simp; omega)) _).alloc (by first | omega | (simp; omega)) _).drew

set_option maxRecDepth 100000 in
set_option maxHeartbeats 1000000 in
theorem writeG (k M N R : Int) (T : Value) (ns : List PN) (w : World) (hT : NodesG w T ns) (hl : ns.length ≤ 4000) (he : ∀ x ∈ ns, x.ev.size ≤ 255) :
    Calls Try.prog 53 #[.agg #[.int .i64 k, .int .i64 M, .int .i64 N, .int .i64 R, T]] w fun e w' => ∃ v', e = .returned v' ∧ w'.ownsRow w.heap.size 5 1 v' (encMg k M N R ns).length (bytes8 (encMg k M N R ns)) ∧ Below w.heap.size w w' := by
  obtain ⟨ao, cap, rfl, _, hc⟩ := hT.cells
  obtain ⟨i0, hi, hz0, hz1, hz2⟩ := info_parts Try.infoBytes2
  have hns : ns.length ≤ 1000000 := by omega
  have HS : Hid _ := he
  clear he
  go_enter Try.func53, Try.ntmps53
  go_wp2_with fail
  refine (headG k M N R _ _).mono ?_
  rintro e w1 ⟨v1, us1, ls1, rfl, ho1, hf1, hl1, h41, hB1, hb1⟩
  have hF1 : Fields w1 (w.alloc (.cells #[.int .i64 k, .int .i64 M, .int .i64 N, .int .i64 R, .slice ao ns.length cap] 42)).heap.size v1 ls1 := ⟨us1, by rw [hl1]; exact ho1, hl1, hB1⟩
  have c4 : w1.cell? ⟨w.heap.size, 4, none⟩ = some (.slice ao ns.length cap) := (hb1.cell (p := ⟨w.heap.size, 4, none⟩) (by simp)).trans (by rw [World.cell?_alloc_mark]; rfl)
  have hbw1 : Below w.heap.size w w1 := ((Below.refl _ _).alloc (Nat.le_refl _) _).trans (hb1.mono (by simp))
  have hlen1 : ls1.length ≤ 4 := by rw [hl1]; exact h41
  clear ho1 hB1 hb1 hl1 h41
  have hsz1 := hbw1.size
  generalize hB0 : (w.alloc (.cells #[.int .i64 k, .int .i64 M, .int .i64 N, .int .i64 R, .slice ao ns.length cap] 42)).heap.size = B at hF1
  have hB0' : B = w.heap.size + 1 := by rw [← hB0]; simp
  have hBw : B ≤ w1.heap.size := by have := World.block_lt_of_cell? w1 _ c4; simp at this; omega
  have HB0 : Hid (B = w.heap.size + 1) := hB0'
  clear hB0 hB0'
  go_wp2
  go_loopw [3, 11] (fun v i wr => ∃ (j : Nat) (ls : List (List UInt8)), j ≤ ns.length ∧ i = .int .i64 j ∧ Fields wr B v ls ∧ ls.length ≤ 4 + j ∧ ls.flatten = encHg k M N R ++ encNsg (ns.take j) ∧ Below w.heap.size w wr ∧ B ≤ wr.heap.size) (fun _ i _ => ns.length - (intOf i).toNat)
  case atStart => exact ⟨0, ls1, Nat.zero_le _, rfl, hF1, by omega, by rw [hf1]; simp [encNsg], hbw1, hBw⟩
  case round =>
    obtain ⟨j, ls, hj, rfl, hF, hln, hfl, hb, hBr⟩ := hrel
    have hbs := hb.size
    have HL : Hid (ls.flatten = encHg k M N R ++ encNsg (ns.take j)) := hfl
    clear hfl
    by_cases hlt : j < ns.length
    · obtain ⟨b, o, rfl, hbl, hcl⟩ := hc (by omega)
      obtain ⟨e0, e1, e2⟩ := hcl j hlt
      replace e0 := (hb.cell (p := ⟨b, o + j * 3, none⟩) hbl).trans e0
      replace e1 := (hb.cell (p := ⟨b, o + j * 3 + 1, none⟩) hbl).trans e1
      replace e2 := (hb.cell (p := ⟨b, o + j * 3 + 2, none⟩) hbl).trans e2
      have HX : Hid (encNsg (ns.take (j + 1)) = encNsg (ns.take j) ++ encNg ns[j]) := encNsg_snoc ns j hlt
      have x4 := HS.out _ (List.getElem_mem hlt)
      generalize ns[j] = x at *
      clear hcl hc hT c4
      go_wp2_with fail
      refine (nodeG x _ x4).mono ?_
      rintro e w2 ⟨v2, rfl, hB2, hb2⟩
      obtain ⟨a2, cp2, rfl, _⟩ := id hB2
      have hb2' : Below wr.heap.size wr w2 := ((Below.refl _ _).alloc (Nat.le_refl _) _).trans (hb2.mono (by simp))
      have hF2 := hF.below hb2'
      have hs2 := hb2'.size
      have hbb : Below w.heap.size w w2 := hb.trans (hb2'.mono hbs)
      clear hF hb2 hb2' e0 e1 e2
      obtain ⟨us, g1, g2, g3⟩ := hF2
      have G2 : Hid (ls.length = us.length) := g2
      clear g2
      go_wp2_with (at_builtin; refine wpList_append_own _ rfl (.tmp 15) (.tmp 18) 23 rfl B 24 i0 (.slice none 0 0) 1 24 Try.underlying23 hi hz0 hz1 hz2 rfl (by decide) _ _ _ rfl (g1.alloc _) ⟨w2.heap.size, 0, none⟩ 1 1 [.slice a2 (encNg x).length cp2] rfl rfl ?c1 ?c2 ?c3 ?c4 ?c5 ?_)
      case c1 =>
        intro q u hq
        match q, hq with
        | 0, hq => simp at hq; subst hq; simp [Addr.add]
      case c2 =>
        intro u hu
        simp at hu
        subst hu
        rfl
      case c3 => unfold maxLen; omega
      case c4 => omega
      case c5 => simp; omega
      · intro v' w3 hown' hgrow _
        have hF3 := Fields.push (g1.alloc _) G2.out (fun q hq => by obtain ⟨u, h1, h2⟩ := g3 q hq; exact ⟨u, h1, h2.keep (keepA _ _)⟩) (hB2.keep (keepA _ _)) hown' hgrow
        have R := (hbb.alloc (by omega) _).grown hgrow (by simp; omega) (fun g hg => by have := (g1.lt g hg).1; have := HB0.out; omega)
        have hBw3 : B ≤ w3.heap.size := by have := hgrow.size; simp at this; omega
        clear g1 G2 g3 hown' hgrow hbb hB2 hb
        go_wp2
        go_roundw
        case rel => exact ⟨j + 1, ls ++ [encNg x], by omega, by go_num, hF3, by simp; omega, by rw [List.flatten_append, HL.out, HX.out, List.append_assoc]; simp, R, hBw3⟩
        case measure => simp [intOf]; omega
    · have hjl : j = ns.length := by omega
      subst hjl
      have HE : Hid (ls.flatten = encMg k M N R ns) := by
        have := HL.out
        rw [List.take_length] at this
        exact this
      have hen := encMg_le k M N R ns hl HS.out
      have hrows := hF.rows
      clear hF hc hT
      go_wp2_with fail
      refine (join_any ls _ _ hrows (by omega) (by rw [HE.out]; exact hen)).mono ?_
      rintro e w2 ⟨v', rfl, hown, hbel⟩
      go_wp2
      go_ret
      refine ⟨_, rfl, ?_, hb.trans (hbel.mono hbs)⟩
      rw [HE.out] at hown
      obtain ⟨o1, o2⟩ := hown
      refine ⟨o1, ?_⟩
      rcases o2 with o2 | ⟨g, cp, cur, q1, q2, q3⟩
      · exact .inl o2
      · exact .inr ⟨g, cp, cur, q1, by omega, q3⟩
end Go.Proofs.Ytlndinigbppafaa
