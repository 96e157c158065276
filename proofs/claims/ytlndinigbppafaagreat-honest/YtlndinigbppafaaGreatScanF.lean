/-
  The walk of the document's reader at a node with nodes below it.
-/
import Derived.Test.YtlndinigbppafaaGreatScanE
namespace Go.Proofs.YtlndinigbppafaaGreat
open Go.RowKit

/-- What comes of a node: the nodes, or an error. -/
def OutIs (rd : Except (Int × Nat) (List PN × Nat)) (q : Int) (ns : List PN) (a' : Nat) (e' q' : Int) (ns' : List PN) : Prop :=
  match rd with
  | .ok (l, x) => a' = x ∧ e' = 0 ∧ q' = q ∧ ns' = ns ++ l
  | .error (e, x) => e' ≠ 0 ∧ e' = e ∧ q' = x ∧ ns.length ≤ ns'.length
def NodeOut (w w' : World) (b0 B : Nat) (s : ByteArray) (q : Int) (V : Value) (ns : List PN) (rd : Except (Int × Nat) (List PN × Nat)) : Prop :=
  ∃ V' a' e' q' ns', Kept w w' B V V' ∧ ScanAt w' b0 B s (a' : Nat) e' q' V' ns' ∧ OutIs rd q ns a' e' q' ns'
theorem OutIs.len {rd : Except (Int × Nat) (List PN × Nat)} {q : Int} {ns : List PN} {a' : Nat} {e' q' : Int} {ns' : List PN} (h : OutIs rd q ns a' e' q' ns') : ns.length ≤ ns'.length := by
  cases rd with
  | error x => exact h.2.2.2
  | ok x => rw [h.2.2.2, List.length_append]; omega
theorem set_mid (ns l : List PN) (x : PN) : (ns ++ [x] ++ l).set ns.length x = ns ++ x :: l := by simp
def goAlone (rd : Except (Int × Nat) (List PN × Nat)) : Except (Int × Nat) (List PN × Nat) :=
  match rd with
  | .error e => .error e
  | .ok (l, a') => .ok (⟨3, 0, ByteArray.empty⟩ :: l, a')
def goTwo (rd : Except (Int × Nat) (List PN × Nat)) (rf : Nat → Except (Int × Nat) (List PN × Nat)) : Except (Int × Nat) (List PN × Nat) :=
  match rd with
  | .error e => .error e
  | .ok (l, a') =>
    match rf a' with
    | .error e => .error e
    | .ok (r, a'') => .ok (⟨2, 0, ByteArray.empty⟩ :: (l ++ r), a'')
theorem OutIs.alone {rd : Except (Int × Nat) (List PN × Nat)} {q : Int} {ns : List PN} {a' : Nat} {e' q' : Int} {ns' : List PN} (h : OutIs rd q (ns ++ [⟨3, 0, ⟨#[]⟩⟩]) a' e' q' ns') :
    OutIs (goAlone rd) q ns a' e' q' (ns'.set ns.length ⟨3, 0, ⟨#[]⟩⟩) := by
  have hl := h.len
  cases rd with
  | error y => exact ⟨h.1, h.2.1, h.2.2.1, by rw [List.length_set]; simp at hl; omega⟩
  | ok y =>
    refine ⟨h.1, h.2.1, h.2.2.1, ?_⟩
    rw [h.2.2.2]; exact set_mid ns y.1 _
theorem OutIs.twoBad {y : Int × Nat} (rf : Nat → Except (Int × Nat) (List PN × Nat)) {q : Int} {ns : List PN} {a' : Nat} {e' q' : Int} {ns' : List PN} (h : OutIs (.error y) q (ns ++ [⟨2, 0, ⟨#[]⟩⟩]) a' e' q' ns') :
    OutIs (goTwo (.error y) rf) q ns a' e' q' (ns'.set ns.length ⟨2, 0, ⟨#[]⟩⟩) := by
  have hl := h.len
  exact ⟨h.1, h.2.1, h.2.2.1, by rw [List.length_set]; simp at hl; omega⟩
theorem OutIs.twoGood {l : List PN} {a1 : Nat} (rf : Nat → Except (Int × Nat) (List PN × Nat)) {q : Int} {ns : List PN} {a' : Nat} {e' q' : Int} {ns' : List PN} (h : OutIs (rf a1) q (ns ++ [⟨2, 0, ⟨#[]⟩⟩] ++ l) a' e' q' ns') :
    OutIs (goTwo (.ok (l, a1)) rf) q ns a' e' q' (ns'.set ns.length ⟨2, 0, ⟨#[]⟩⟩) := by
  have hl := h.len
  show OutIs (match rf a1 with | .error e => .error e | .ok (r, a'') => .ok (⟨2, 0, ByteArray.empty⟩ :: (l ++ r), a'')) q ns a' e' q' _
  revert h
  cases rf a1 with
  | error y => intro h; exact ⟨h.1, h.2.1, h.2.2.1, by rw [List.length_set]; simp at hl; omega⟩
  | ok y =>
    intro h
    refine ⟨h.1, h.2.1, h.2.2.1, ?_⟩
    rw [h.2.2.2, List.append_assoc]
    exact set_mid ns (l ++ y.1) _

theorem Kept.trans {w w' w'' : World} {B : Nat} {V V' V'' : Value} (h : Kept w w' B V V') (h' : Kept w' w'' B V' V'') : Kept w w'' B V V'' := by
  obtain ⟨hF, hat⟩ := h
  obtain ⟨hF', hat'⟩ := h'
  have s1 := hF.size
  refine ⟨⟨hF'.os.trans hF.os, hF'.tape.trans hF.tape, hF'.output.trans hF.output, Nat.le_trans hF.size hF'.size, fun k hk hB hr => ?_⟩, ?_⟩
  · rw [hF'.block k (by omega) hB (fun e => ?_), hF.block k hk hB hr]
    rcases hat with e' | ⟨g, e', hg⟩
    · exact hr (by rw [e, e'])
    · rw [e'] at e; cases e; omega
  · rcases hat' with e' | ⟨g, e', hg⟩
    · rw [e']; exact hat
    · exact .inr ⟨g, e', by omega⟩
theorem Kept.first {w w' w'' : World} {B : Nat} {V V' : Value} (h : Frame2 w w' B none) (h' : Kept w' w'' B V V') : Kept w w'' B V V' := by
  obtain ⟨hF', hat'⟩ := h'
  have s1 := h.size
  refine ⟨⟨hF'.os.trans h.os, hF'.tape.trans h.tape, hF'.output.trans h.output, Nat.le_trans h.size hF'.size, fun k hk hB hr => ?_⟩, ?_⟩
  · rw [hF'.block k (by omega) hB hr, h.block k hk hB (by simp)]
  · rcases hat' with e' | ⟨g, e', hg⟩
    · exact .inl e'
    · exact .inr ⟨g, e', by omega⟩
theorem Kept.put {w w' w'' : World} {B g n cap : Nat} {V : Value} (h : Kept w w' B V (.slice (some ⟨g, 0, none⟩) n cap)) (h' : Frame2 w' w'' B (some g)) : Kept w w'' B V (.slice (some ⟨g, 0, none⟩) n cap) :=
  h.trans ⟨h', .inl rfl⟩

set_option maxRecDepth 100000 in
set_option maxHeartbeats 1000000 in
theorem node_alone (w : World) (b0 B : Nat) (s : ByteArray) (a : Nat) (q : Int) (V : Value) (ns : List PN) (k M N R : Int) (T : Value) (p d : Nat) (rd : Except (Int × Nat) (List PN × Nat)) (hC : ∀ (w : World) (V : Value) (ns : List PN), ScanAt w b0 B s (a + 1 : Nat) 0 q V ns → b0 ≤ w.heap.size → ns.length ≤ a + 1 → Calls Tryz.prog 104 #[.pointer (some ⟨B, 0, none⟩), .agg #[.int .i64 k, .int .i64 M, .int .i64 N, .int .i64 R, T], .int .i64 p, .int .i64 d] w fun r w' => r = .returned (.tuple #[]) ∧ NodeOut w w' b0 B s q V ns rd) (h : ScanAt w b0 B s a 0 q V ns) (ha : a < s.size) (hk : (s[a].toNat : Int) = 3) (hk2 : kindOf k M N p (d + 1) = 3) (hs : s.size ≤ 4000) (hd : d + 1 ≤ 16) (hp : p ≤ 1000000) (hn : ns.length ≤ a) (hb0 : b0 ≤ w.heap.size) :
    Calls Tryz.prog 104 #[.pointer (some ⟨B, 0, none⟩), .agg #[.int .i64 k, .int .i64 M, .int .i64 N, .int .i64 R, T], .int .i64 p, .int .i64 ((d + 1 : Nat) : Int)] w fun r w' => r = .returned (.tuple #[]) ∧
      NodeOut w w' b0 B s q V ns (goAlone rd) := by
  have HC := Hid.out (show Hid _ from hC)
  clear hC
  obtain ⟨i0, hi, hz0, hz1, hz2⟩ := info_parts Tryz.infoNode
  obtain ⟨c0, c1, c2, c3, c4⟩ := h.cell
  have hB := lt_of_heap h.2.1
  have hA : Below w.heap.size w (w.alloc (.cells #[.int .i64 k, .int .i64 M, .int .i64 N, .int .i64 R, T] 63)) := (Below.refl _ _).alloc (Nat.le_refl _) _
  go_enter Tryz.func104, Tryz.ntmps104
  go_wp2_with fail
  refine (next_ok _ _ _ _ _ _ _ _ (h.below hA) ha hs).mono ?_
  rintro r w1 ⟨rfl, h1, hF1⟩
  have hM1 := msg_frame (msg_new w k M N R T) hF1 (by omega) (by simp)
  obtain ⟨m0, m1, m2, m3, m4⟩ := id hM1
  have hF := (Frame2.of_below B none hA).trans hF1
  clear hA hF1
  obtain ⟨d0, d1, d2, d3, d4⟩ := h1.cell
  rw [hk]
  go_wp2_with fail
  refine (kind_any k M N R T p (d + 1) w1 hd hp).mono ?_
  rintro r w2 ⟨rfl, hb2⟩
  rw [hk2]
  have h2 := h1.below hb2
  obtain ⟨f0, f1, f2, f3, f4⟩ := h2.cell
  obtain ⟨ao, cap, rfl, _⟩ := id (NodesAt.of_owns h2.2.2)
  have hB2 := lt_of_heap h2.2.1
  go_wp2
  have h3 := h2.below ((Below.refl _ _).alloc (Nat.le_refl _) (.cells #[.int .i64 3, .int .i64 0, .string ⟨#[]⟩] 116))
  have hN3 : NAt (w2.alloc (.cells #[.int .i64 3, .int .i64 0, .string ⟨#[]⟩] 116)) w2.heap.size ⟨3, 0, ⟨#[]⟩⟩ := heap_alloc_new _ _
  have hF3 := (hF.then hb2).then ((Below.refl _ _).alloc (Nat.le_refl _) (.cells #[.int .i64 3, .int .i64 0, .string ⟨#[]⟩] 116))
  have hM3 := msg_keep (msg_keep hM1 hb2) ((Below.refl _ _).alloc (Nat.le_refl _) (.cells #[.int .i64 3, .int .i64 0, .string ⟨#[]⟩] 116))
  have hVm : (Value.slice ao ns.length cap).ownBlock ≠ some w.heap.size := fun x => by have := (h.row_lt _ x).1; omega
  have hVH : (Value.slice ao ns.length cap).ownBlock ≠ some w2.heap.size := fun x => by have := (h2.row_lt _ x).1; omega
  have hHw : w.heap.size ≤ w2.heap.size := (hF.then hb2).size
  generalize (w2.alloc (.cells #[.int .i64 3, .int .i64 0, .string ⟨#[]⟩] 116)) = w3 at *
  generalize w2.heap.size = H at *
  have hH3 := lt_of_heap hN3
  have c3' := h3.cell
  obtain ⟨g0, g1, g2, g3, g4⟩ := c3'
  obtain ⟨n0, n1, n2⟩ := hN3.cell
  have hne := h3.row_ne
  have hB3 := lt_of_heap h3.2.1
  clear hM1
  clear c0 c1 c2 c3 c4 m0 m1 m2 m3 m4 d0 d1 d2 d3 d4 f0 f1 f2 f3 f4 hF hb2 h1 h2
  go_region_law (first
    | (refine step_append_lies _ rfl (.tmp 53) (.tmp 55) 61 rfl b0 116 i0 (.agg #[.int .i64 0, .int .i64 0, .string ByteArray.empty]) 3 32 Tryz.underlying61 hi hz0 hz1 hz2 rfl (by decide) (.slice ao ns.length cap) ns.length (cellsN ns) (by simp [Act.eval]) (h3.below ((Below.refl _ _).drew) |>.2.2.alloc _) ⟨w3.heap.size, 0, none⟩ 1 1 (cellsN [⟨3, 0, ⟨#[]⟩⟩]) (by simp [Act.eval]) rfl (World.news_of_block (heap_alloc_new w3.drew _)) (cellsN_one _) (by decide) (by unfold maxLen; omega) (by omega) (by simp; omega) _ rfl ?_; intro gg cap2 w4 hown4 hgrow4 hat4 hlt4; have c4 : w4.cell? ⟨B, 4, none⟩ = some (.slice ao ns.length cap) := (hgrow4.cell_far ⟨B, 4, none⟩ (by simp; omega) (fun e => hne e.symm)).trans (cell_keep g4 ((Below.refl _ _).drew.alloc (Nat.le_refl _) _)); have z4 : w4.frozen? ⟨B, 4, none⟩ = false := (hgrow4.frozen_far ⟨B, 4, none⟩ (by simp; omega) (fun e => hne e.symm)).trans (frozen_keep g4 (h3.frozen 4) ((Below.refl _ _).drew.alloc (Nat.le_refl _) _))))
  all_goals
    obtain ⟨h5, hK5⟩ := scan_appended (x := ⟨3, 0, ⟨#[]⟩⟩) h3 hown4 hgrow4 hat4
    have hN5 : NAt (w4.setCell ⟨B, 4, none⟩ (.slice (some ⟨gg, 0, none⟩) (ns.length + 1) cap2)) H ⟨3, 0, ⟨#[]⟩⟩ := hN3.frame hK5.1 (by omega) (fun e => hVH e.symm)
    have hVH5 : (Value.slice (some ⟨gg, 0, none⟩) (ns.length + 1) cap2).ownBlock ≠ some H := by
      rcases hK5.2 with e | ⟨g', e, hg'⟩
      · rw [e]; exact hVH
      · rw [e]; intro x; cases x; omega
    have hM5 := msg_frame hM3 hK5.1 (show w.heap.size ≠ B by omega) (fun e => hVm e.symm)
    have hlt5 : H < (w4.setCell ⟨B, 4, none⟩ (.slice (some ⟨gg, 0, none⟩) (ns.length + 1) cap2)).heap.size := lt_of_heap hN5
    clear hown4 hgrow4 hat4 c4 z4 g0 g1 g2 g3 g4 n0 n1 n2 hne hlt4
    generalize w4.setCell ⟨B, 4, none⟩ (.slice (some ⟨gg, 0, none⟩) (ns.length + 1) cap2) = w5 at *
    have hB5 := lt_of_heap h5.2.1
    obtain ⟨c0, c1, c2, c3, c4⟩ := h5.cell
    obtain ⟨n0, n1, n2⟩ := hN5.cell
  all_goals obtain ⟨m0, m1, m2, m3, m4⟩ := id hM5
  all_goals go_wp2_with fail
  all_goals
    refine (HC w5 _ _ h5 (by have := hF3.size; have := hK5.1.size; omega) (by simp; omega)).mono ?_
    rintro r w6 ⟨rfl, V6, a6, e6, q6, ns6, hK6, h6, ho6⟩
    have hl6 := ho6.len
    rw [List.length_append, List.length_singleton] at hl6
    obtain ⟨g6, cap6, rfl, hg6, hgl6⟩ := h6.2.2.form (by omega)
    have hN6 : NAt w6 H ⟨3, 0, ⟨#[]⟩⟩ := hN5.frame hK6.1 (by omega) (fun e => hVH5 e.symm)
    clear c0 c1 c2 c3 c4 n0 n1 n2 m0 m1 m2 m3 m4
    obtain ⟨c0, c1, c2, c3, c4⟩ := h6.cell
    obtain ⟨n0, n1, n2⟩ := hN6.cell
    obtain ⟨⟨u0, p0⟩, ⟨u1, p1⟩, ⟨u2, p2⟩, pz⟩ := h6.at g6 ns6.length cap6 rfl ns.length (by omega)
    have z0 := pz (ns.length * 3)
    have z1 := pz (ns.length * 3 + 1)
    have z2 := pz (ns.length * 3 + 2)
  all_goals go_wp2
  all_goals go_region
  all_goals
    obtain ⟨h8, hF8⟩ := scan_put h6 ⟨3, 0, ⟨#[]⟩⟩ ns.length (by omega)
  all_goals go_returns
  all_goals exact ⟨rfl, _, _, _, _, _, ((Kept.first hF3 hK5).trans hK6).put hF8, h8, ho6.alone⟩
end Go.Proofs.YtlndinigbppafaaGreat
