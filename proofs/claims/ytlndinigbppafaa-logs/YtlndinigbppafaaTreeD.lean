/-
  The walks of the program's tree: a node with two below it.
-/
import Derived.Test.YtlndinigbppafaaTreeA
namespace Go.Proofs.Ytlndinigbppafaa
open Go.RowKit

set_option maxRecDepth 100000 in
set_option maxHeartbeats 400000 in
theorem newTwo_dig (P D g h : Int) (V U : Value) (w : World) (hV : Digs V g) (hU : Digs U h) (hg : 0 ≤ g ∧ g ≤ 65535) (hh : 0 ≤ h ∧ h ≤ 65535) :
    Calls Try.prog 93 #[.agg #[.int .i64 P, .int .i64 D], V, U] w fun e w' => e = .returned (.agg #[.int .i64 P, .int .i64 D, .int .i64 (sm (1 :: (two8 g ++ two8 h))), V, U]) ∧ Below w.heap.size w w' := by
  have HS : Hid (sm (1 :: (two8 g ++ two8 h)) = sm [[b8 1], two8 g, two8 h].flatten) := by
    show sm (1 :: (two8 g ++ two8 h)) = _
    simp [b8]
  obtain ⟨ti, ai, -, rfl, -⟩ := id hV
  obtain ⟨tj, aj, -, rfl, -⟩ := id hU
  go_enter Try.func93, Try.ntmps93
  go_wp2_with fail
  have g0 := heap_old (w.alloc (.cells #[.int .i64 P, .int .i64 D] 118)) (.cells #[.int .i64 0, .int .i64 0, .int .i64 0, .nilIface, .nilIface] 143) w.heap.size _ (heap_new w _ _ rfl)
  have g1 := heap_new (w.alloc (.cells #[.int .i64 P, .int .i64 D] 118)) (.cells #[.int .i64 0, .int .i64 0, .int .i64 0, .nilIface, .nilIface] 143) (w.heap.size + 1) (by simp)
  have hW : Below w.heap.size w ((w.alloc (.cells #[.int .i64 P, .int .i64 D] 118)).alloc (.cells #[.int .i64 0, .int .i64 0, .int .i64 0, .nilIface, .nilIface] 143)) := ((Below.refl _ _).alloc (Nat.le_refl _) _).alloc (by simp) _
  generalize (w.alloc (.cells #[.int .i64 P, .int .i64 D] 118)).alloc (.cells #[.int .i64 0, .int .i64 0, .int .i64 0, .nilIface, .nilIface] 143) = W at g0 g1 hW ⊢
  refine (twoParts_any _ _ g h _ hV hU hg hh).mono ?_
  rintro e w1 ⟨v1, rfl, hR, hb1⟩
  have k0 := heap_keep g0 hb1
  have k1 := heap_keep g1 hb1
  have hw1 := hW.trans (hb1.mono hW.size)
  clear g0 g1 hW hb1
  go_wp2_with fail
  refine (sumOf_any [[b8 1], two8 g, two8 h] _ _ hR (by simp) (by intro l hl; simp at hl; rcases hl with rfl | rfl | rfl <;> simp [two8])).mono ?_
  rintro e w2 ⟨rfl, rfl⟩
  rw [← HS.out]
  clear hR
  obtain ⟨c0, c1⟩ := box2 k0
  obtain ⟨⟨r0, r1, r2, r3, r4⟩, z0, z1, z2, z3, z4⟩ := box5 k1
  go_wp2
  refine bodyPost_ret (v := .agg #[.int .i64 P, .int .i64 D, .int .i64 (sm (1 :: (two8 g ++ two8 h))), .iface ti ai, .iface tj aj]) (by simp [results, Try.results93, go_sem, r0, r1, r2, r3, r4]) rfl ⟨rfl, ?_⟩
  have hs2 := hw1.size
  repeat (first | exact hw1 | refine Below.setCell ?_ (by simp) _)
theorem newTwo_any (P D g h : Int) (V U : Value) (w : World) (hV : NodeV g V) (hU : NodeV h U) (hg : 0 ≤ g ∧ g ≤ 65535) (hh : 0 ≤ h ∧ h ≤ 65535) :
    Calls Try.prog 93 #[.agg #[.int .i64 P, .int .i64 D], V, U] w fun e w' => e = .returned (.agg #[.int .i64 P, .int .i64 D, .int .i64 (sm (1 :: (two8 g ++ two8 h))), V, U]) ∧ Below w.heap.size w w' := newTwo_dig P D g h V U w hV.digs hU.digs hg hh
end Go.Proofs.Ytlndinigbppafaa
