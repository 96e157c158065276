/-
  The walk of the document's reader at a node with two nodes below it.
-/
import Derived.Test.YtlndinigbppafaaGreatScanG
import Derived.StillTailTactics
import Derived.Test.YtlndinigbppafaaGreatDec
namespace Go.Proofs.YtlndinigbppafaaGreat
open Go.RowKit

set_option maxRecDepth 100000 in
set_option maxHeartbeats 4000000 in
theorem two_good (w : World) (b0 B : Nat) (s : ByteArray) (a : Nat) (q : Int) (V : Value) (ns : List PN) (k M N R : Int) (T : Value) (p d : Nat) (rf : Nat → Except (Int × Nat) (List PN × Nat)) (l : List PN) (a1 : Nat) (ha1 : a + 1 + l.length ≤ a1) (hC2 : ∀ (w : World) (V : Value) (ns : List PN), ScanAt w b0 B s a1 0 q V ns → b0 ≤ w.heap.size → ns.length ≤ a1 → Calls Tryz.prog 104 #[.pointer (some ⟨B, 0, none⟩), .agg #[.int .i64 k, .int .i64 M, .int .i64 N, .int .i64 R, T], .int .i64 ((p + pw d : Nat) : Int), .int .i64 d] w fun r w' => r = .returned (.tuple #[]) ∧ NodeOut w w' b0 B s q V ns (rf a1)) (hC : ∀ (w : World) (V : Value) (ns : List PN), ScanAt w b0 B s (a + 1 : Nat) 0 q V ns → b0 ≤ w.heap.size → ns.length ≤ a + 1 → Calls Tryz.prog 104 #[.pointer (some ⟨B, 0, none⟩), .agg #[.int .i64 k, .int .i64 M, .int .i64 N, .int .i64 R, T], .int .i64 p, .int .i64 d] w fun r w' => r = .returned (.tuple #[]) ∧ NodeOut w w' b0 B s q V ns (.ok (l, a1))) (h : ScanAt w b0 B s a 0 q V ns) (ha : a < s.size) (hk : (s[a].toNat : Int) = 2) (hk2 : kindOf k M N p (d + 1) = 2) (hs : s.size ≤ 4000) (hd : d + 1 ≤ 16) (hp : p ≤ 900000) (hn : ns.length ≤ a) (hb0 : b0 ≤ w.heap.size) :
    Calls Tryz.prog 104 #[.pointer (some ⟨B, 0, none⟩), .agg #[.int .i64 k, .int .i64 M, .int .i64 N, .int .i64 R, T], .int .i64 p, .int .i64 ((d + 1 : Nat) : Int)] w fun r w' => r = .returned (.tuple #[]) ∧
      NodeOut w w' b0 B s q V ns (goTwo (.ok (l, a1)) rf) := by
  have HC := Hid.out (show Hid _ from hC)
  clear hC
  have hpw : pw d ≤ 65536 := pw_le (e := 16) (by omega)
  obtain ⟨D, hD⟩ : ∃ D, D = pw d := ⟨_, rfl⟩
  rw [← hD] at hpw
  rw [← hD, Int.natCast_add] at hC2
  have HC2 := Hid.out (show Hid _ from hC2)
  clear hC2
  have HD : Hid (D = pw d) := hD
  clear hD
  obtain ⟨i0, hi, hz0, hz1, hz2⟩ := info_parts Tryz.infoNode
  obtain ⟨c0, c1, c2, c3, c4⟩ := h.cell
  have hB := lt_of_heap h.2.1
  have hA : Below w.heap.size w (w.alloc (.cells #[.int .i64 k, .int .i64 M, .int .i64 N, .int .i64 R, T] 63)) := (Below.refl _ _).alloc (Nat.le_refl _) _
  go_enter Tryz.func104, Tryz.ntmps104
  go_wp2_with fail
  refine (next_ok _ _ _ _ _ _ _ _ (h.below hA) ha hs).mono ?_
  rintro r w1 ⟨rfl, h1, hF1⟩
  have hM1 := msg_frame (msg_new w k M N R T) hF1 (by omega) (by simp)
  obtain ⟨m0, m1, m2, m3, m4⟩ := id hM1
  have hF := (Frame2.of_below B none hA).trans hF1
  clear hA hF1
  obtain ⟨d0, d1, d2, d3, d4⟩ := h1.cell
  rw [hk]
  go_wp2_with fail
  refine (kind_any k M N R T p (d + 1) w1 hd (by omega)).mono ?_
  rintro r w2 ⟨rfl, hb2⟩
  rw [hk2]
  have h2 := h1.below hb2
  obtain ⟨f0, f1, f2, f3, f4⟩ := h2.cell
  obtain ⟨ao, cap, rfl, _⟩ := id (NodesAt.of_owns h2.2.2)
  have hB2 := lt_of_heap h2.2.1
  go_wp2
  have h3 := h2.below ((Below.refl _ _).alloc (Nat.le_refl _) (.cells #[.int .i64 2, .int .i64 0, .string ⟨#[]⟩] 116))
  have hN3 : NAt (w2.alloc (.cells #[.int .i64 2, .int .i64 0, .string ⟨#[]⟩] 116)) w2.heap.size ⟨2, 0, ⟨#[]⟩⟩ := heap_alloc_new _ _
  have hF3 := (hF.then hb2).then ((Below.refl _ _).alloc (Nat.le_refl _) (.cells #[.int .i64 2, .int .i64 0, .string ⟨#[]⟩] 116))
  have hM3 := msg_keep (msg_keep hM1 hb2) ((Below.refl _ _).alloc (Nat.le_refl _) (.cells #[.int .i64 2, .int .i64 0, .string ⟨#[]⟩] 116))
  have hVm : (Value.slice ao ns.length cap).ownBlock ≠ some w.heap.size := fun x => by have := (h.row_lt _ x).1; omega
  have hVH : (Value.slice ao ns.length cap).ownBlock ≠ some w2.heap.size := fun x => by have := (h2.row_lt _ x).1; omega
  have hHw : w.heap.size ≤ w2.heap.size := (hF.then hb2).size
  generalize (w2.alloc (.cells #[.int .i64 2, .int .i64 0, .string ⟨#[]⟩] 116)) = w3 at *
  generalize w2.heap.size = H at *
  have hH3 := lt_of_heap hN3
  have c3' := h3.cell
  obtain ⟨g0, g1, g2, g3, g4⟩ := c3'
  obtain ⟨n0, n1, n2⟩ := hN3.cell
  have hne := h3.row_ne
  have hB3 := lt_of_heap h3.2.1
  clear hM1
  clear c0 c1 c2 c3 c4 m0 m1 m2 m3 m4 d0 d1 d2 d3 d4 f0 f1 f2 f3 f4 hF hb2 h1 h2
  go_region_law (first
    | (refine step_append_lies _ rfl (.tmp 53) (.tmp 55) 61 rfl b0 116 i0 (.agg #[.int .i64 0, .int .i64 0, .string ByteArray.empty]) 3 32 Tryz.underlying61 hi hz0 hz1 hz2 rfl (by decide) (.slice ao ns.length cap) ns.length (cellsN ns) (by simp [Act.eval]) (h3.below ((Below.refl _ _).drew) |>.2.2.alloc _) ⟨w3.heap.size, 0, none⟩ 1 1 (cellsN [⟨2, 0, ⟨#[]⟩⟩]) (by simp [Act.eval]) rfl (World.news_of_block (heap_alloc_new w3.drew _)) (cellsN_one _) (by decide) (by unfold maxLen; omega) (by omega) (by simp; omega) _ rfl ?_; intro gg cap2 w4 hown4 hgrow4 hat4 hlt4; have c4 : w4.cell? ⟨B, 4, none⟩ = some (.slice ao ns.length cap) := (hgrow4.cell_far ⟨B, 4, none⟩ (by simp; omega) (fun e => hne e.symm)).trans (cell_keep g4 ((Below.refl _ _).drew.alloc (Nat.le_refl _) _)); have z4 : w4.frozen? ⟨B, 4, none⟩ = false := (hgrow4.frozen_far ⟨B, 4, none⟩ (by simp; omega) (fun e => hne e.symm)).trans (frozen_keep g4 (h3.frozen 4) ((Below.refl _ _).drew.alloc (Nat.le_refl _) _))))
  all_goals
    obtain ⟨h5, hK5⟩ := scan_appended (x := ⟨2, 0, ⟨#[]⟩⟩) h3 hown4 hgrow4 hat4
    have hN5 : NAt (w4.setCell ⟨B, 4, none⟩ (.slice (some ⟨gg, 0, none⟩) (ns.length + 1) cap2)) H ⟨2, 0, ⟨#[]⟩⟩ := hN3.frame hK5.1 (by omega) (fun e => hVH e.symm)
    have hVH5 : (Value.slice (some ⟨gg, 0, none⟩) (ns.length + 1) cap2).ownBlock ≠ some H := by
      rcases hK5.2 with e | ⟨g', e, hg'⟩
      · rw [e]; exact hVH
      · rw [e]; intro x; cases x; omega
    have hM5 := msg_frame hM3 hK5.1 (show w.heap.size ≠ B by omega) (fun e => hVm e.symm)
    have hlt5 : H < (w4.setCell ⟨B, 4, none⟩ (.slice (some ⟨gg, 0, none⟩) (ns.length + 1) cap2)).heap.size := lt_of_heap hN5
    clear hown4 hgrow4 hat4 c4 z4 g0 g1 g2 g3 g4 n0 n1 n2 hne hlt4
    generalize w4.setCell ⟨B, 4, none⟩ (.slice (some ⟨gg, 0, none⟩) (ns.length + 1) cap2) = w5 at *
    have hB5 := lt_of_heap h5.2.1
    obtain ⟨c0, c1, c2, c3, c4⟩ := h5.cell
    obtain ⟨n0, n1, n2⟩ := hN5.cell
  all_goals obtain ⟨m0, m1, m2, m3, m4⟩ := id hM5
  all_goals go_wp2_with fail
  all_goals
    refine (HC w5 _ _ h5 (by have := hF3.size; have := hK5.1.size; omega) (by simp; omega)).mono ?_
    rintro r w6 ⟨rfl, V6, a6, e6, q6, ns6, hK6, h6, ho6⟩
    have hl6 := ho6.len
    rw [List.length_append, List.length_singleton] at hl6
    have hN6 : NAt w6 H ⟨2, 0, ⟨#[]⟩⟩ := hN5.frame hK6.1 (by omega) (fun e => hVH5 e.symm)
    have hVm5 : (Value.slice (some ⟨gg, 0, none⟩) (ns.length + 1) cap2).ownBlock ≠ some w.heap.size := by
      rcases hK5.2 with e | ⟨g', e, hg'⟩
      · rw [e]; exact hVm
      · rw [e]; intro x; cases x; omega
    have hM6 := msg_frame hM5 hK6.1 (show w.heap.size ≠ B by omega) (fun e => hVm5 e.symm)
    clear c0 c1 c2 c3 c4 n0 n1 n2 m0 m1 m2 m3 m4
    obtain ⟨m0, m1, m2, m3, m4⟩ := id hM6
  all_goals
    obtain ⟨rfl, rfl, rfl, rfl⟩ := ho6
    have hw1 : IntKind.i64.wrap (d : Int) = d := by go_arith
    have hw2 : IntKind.i64.wrap ((p : Int) + D) = p + D := by go_arith
    have PW : ∀ w', Calls Tryz.prog 135 #[.int .i64 d] w' fun e w'' => e = .returned (.int .i64 D) ∧ w'' = w' := fun w' => by rw [HD.out]; exact power_any d w' (by omega)
  all_goals go_wp2
  all_goals go_still_tail 9, (by kernel_rfl)
  all_goals
    still_call (PW _)
    repeat still_step
    refine wpStill_nil ?_
    generalize hwd : (World.mk w6.heap w6.tape (w6.drawn + 1) w6.os w6.output) = wd
    have hbd : Below w6.heap.size w6 wd := by rw [← hwd]; exact (Below.refl _ _).drew
    clear hwd
  all_goals go_wp2_with (go_at_call 104; refine (HC2 _ _ _ (h6.below hbd) (by have := hF3.size; have := hK5.1.size; have := hK6.1.size; have := hbd.size; omega) (by simp; omega)).mono ?_; rintro r w9 ⟨rfl, V9, a9, e9, q9, ns9, hK9, h9, ho9⟩)
  all_goals
    have hl9 := ho9.len
    have hVH6 : V6.ownBlock ≠ some H := by
      rcases hK6.2 with e | ⟨g', e, hg'⟩
      · rw [e]; exact hVH5
      · rw [e]; intro x; cases x; omega
    have hN7 : NAt w9 H ⟨2, 0, ⟨#[]⟩⟩ := (hN6.below hbd).frame hK9.1 (by omega) (fun e => hVH6 e.symm)
    have hK7 : Kept w5 w9 B (.slice (some ⟨gg, 0, none⟩) (ns.length + 1) cap2) V9 := (hK6.trans ⟨Frame2.of_below B _ hbd, .inl rfl⟩).trans hK9
    have hln9 : ns.length < ns9.length := by simp at hl6 hl9; omega
    obtain ⟨g6, cap6, rfl, hg6, hgl6⟩ := h9.2.2.form (by omega)
    clear m0 m1 m2 m3 m4
    obtain ⟨c0, c1, c2, c3, c4⟩ := h9.cell
    obtain ⟨n0, n1, n2⟩ := hN7.cell
    obtain ⟨⟨u0, p0⟩, ⟨u1, p1⟩, ⟨u2, p2⟩, pz⟩ := h9.at g6 ns9.length cap6 rfl ns.length hln9
    have z0 := pz (ns.length * 3)
    have z1 := pz (ns.length * 3 + 1)
    have z2 := pz (ns.length * 3 + 2)
  all_goals go_wp2
  all_goals go_region
  all_goals
    obtain ⟨h8, hF8⟩ := scan_put h9 ⟨2, 0, ⟨#[]⟩⟩ ns.length (by omega)
  all_goals go_returns
  all_goals exact ⟨rfl, _, _, _, _, _, ((Kept.first hF3 hK5).trans hK7).put hF8, h8, ho9.twoGood rf⟩

end Go.Proofs.YtlndinigbppafaaGreat

/-
  The document's reader at any node: what it leaves is what the bytes say.
-/
namespace Go.Proofs.YtlndinigbppafaaGreat
open Go.RowKit

theorem Frame2.wide {w w' : World} {B : Nat} {row : Option Nat} (h : Frame2 w w' B none) : Frame2 w w' B row := ⟨h.os, h.tape, h.output, h.size, fun k hk hB _ => h.block k hk hB (by simp)⟩
theorem get_none (s : ByteArray) (a : Nat) (h : s.size ≤ a) : s.data.toList[a]? = none := by
  rw [List.getElem?_eq_none]; rw [Array.length_toList]; exact h
theorem len_toList (s : ByteArray) : s.data.toList.length = s.size := by rw [Array.length_toList]; rfl
theorem extract_list (s : ByteArray) (i n : Nat) : s.extract i (i + n) = ⟨((s.data.toList.drop i).take n).toArray⟩ := by
  apply ByteArray.ext
  rw [ByteArray.data_extract]
  apply Array.ext'
  rw [Array.toList_extract]
  simp [List.extract]

/-- What a stub's two bytes come to. -/
theorem stub_out (s : ByteArray) (a : Nat) (q : Int) (ns : List PN) (rd : Except (Int × Nat) (List PN × Nat))
    (hrd : rd = match s.data.toList[a + 1]?, s.data.toList[a + 2]? with
        | some x, some y => .ok ([⟨0, num2 x y, ByteArray.empty⟩], a + 3)
        | _, _ => .error (5, s.data.toList.length)) :
    OutIs rd q ns (nuA s (a + 1) 0) (nuE s (a + 1) 0) (nuQ s (a + 1) 0 q) (ns ++ [⟨0, nuR s (a + 1) 0, ByteArray.empty⟩]) := by
  subst hrd
  by_cases h1 : a + 1 < s.size
  · obtain ⟨e1, e2, e3, e4⟩ := nx_ok s (a + 1) q h1
    unfold nuA nuE nuQ nuR
    rw [e1, e2, e3, e4, get_int s (a + 1) h1]
    by_cases h2 : a + 2 < s.size
    · obtain ⟨f1, f2, f3, f4⟩ := nx_ok s (a + 1 + 1) q h2
      rw [f1, f2, f3, f4, get_int s (a + 2) h2]
      exact ⟨rfl, rfl, rfl, rfl⟩
    · obtain ⟨f1, f2, f3, f4⟩ := nx_end s (a + 1 + 1) q (by omega)
      rw [f1, f2, f3, f4, get_none s (a + 2) (by omega)]
      exact ⟨by omega, rfl, by rw [len_toList], by simp⟩
  · obtain ⟨e1, e2, e3, e4⟩ := nx_end s (a + 1) q (by omega)
    obtain ⟨f1, f2, f3, f4⟩ := nx_err s (a + 1) 5 (s.size : Int) (by omega)
    unfold nuA nuE nuQ nuR
    rw [e1, e2, e3, e4, f1, f2, f3, f4, get_none s (a + 1) (by omega)]
    exact ⟨by omega, rfl, by rw [len_toList], by simp⟩

theorem encN_pos (x : PN) : 1 ≤ (encN x).length := by unfold encN; rw [List.length_cons]; omega
theorem encNs_pos (l : List PN) : l.length ≤ (encNs l).length := by
  induction l with
  | nil => exact Nat.zero_le _
  | cons x l ih => rw [encNs_cons, List.length_append, List.length_cons]; have := encN_pos x; omega

theorem node_any (s : ByteArray) (hs : s.size ≤ 4000) (b0 B : Nat) (q : Int) (k M N R : Int) (T : Value) : ∀ (d p a : Nat) (w : World) (V : Value) (ns : List PN), d ≤ 15 → p + pw d ≤ 65536 → ScanAt w b0 B s a 0 q V ns → b0 ≤ w.heap.size → ns.length ≤ a →
    Calls Tryz.prog 104 #[.pointer (some ⟨B, 0, none⟩), .agg #[.int .i64 k, .int .i64 M, .int .i64 N, .int .i64 R, T], .int .i64 p, .int .i64 d] w fun r w' => r = .returned (.tuple #[]) ∧ NodeOut w w' b0 B s q V ns (rdNode s.data.toList k M N d p a) := by
  have short : ∀ (d p a : Nat) (w : World) (V : Value) (ns : List PN), d ≤ 15 → p + pw d ≤ 65536 → ScanAt w b0 B s a 0 q V ns → s.size ≤ a →
      Calls Tryz.prog 104 #[.pointer (some ⟨B, 0, none⟩), .agg #[.int .i64 k, .int .i64 M, .int .i64 N, .int .i64 R, T], .int .i64 p, .int .i64 d] w fun r w' => r = .returned (.tuple #[]) ∧ NodeOut w w' b0 B s q V ns (.error (5, s.data.toList.length)) := fun d p a w V ns hd hp h ha =>
    (node_end w b0 B s a q V ns k M N R T p d h ha (by omega) (by omega)).mono fun r w' hr => ⟨hr.1, V, a, 5, s.size, ns, ⟨hr.2.2.wide, .inl rfl⟩, hr.2.1, by omega, rfl, by rw [len_toList], Nat.le_refl _⟩
  have shape : ∀ (d p a : Nat) (w : World) (V : Value) (ns : List PN), d ≤ 15 → p + pw d ≤ 65536 → ScanAt w b0 B s a 0 q V ns → (ha : a < s.size) → (s[a].toNat : Int) ≠ kindOf k M N p d →
      Calls Tryz.prog 104 #[.pointer (some ⟨B, 0, none⟩), .agg #[.int .i64 k, .int .i64 M, .int .i64 N, .int .i64 R, T], .int .i64 p, .int .i64 d] w fun r w' => r = .returned (.tuple #[]) ∧ NodeOut w w' b0 B s q V ns (.error (7, a)) := fun d p a w V ns hd hp h ha hk =>
    (node_shape w b0 B s a q V ns k M N R T p d h ha hk hs (by omega) (by omega)).mono fun r w' hr => ⟨hr.1, V, a + 1, 7, a, ns, ⟨hr.2.2.wide, .inl rfl⟩, hr.2.1, by omega, rfl, rfl, Nat.le_refl _⟩
  have stub : ∀ (d p a : Nat) (w : World) (V : Value) (ns : List PN), d ≤ 15 → p + pw d ≤ 65536 → ScanAt w b0 B s a 0 q V ns → b0 ≤ w.heap.size → ns.length ≤ a → (ha : a < s.size) → (s[a].toNat : Int) = kindOf k M N p d → kindOf k M N p d = 0 → ∀ rd, (rd = match s.data.toList[a + 1]?, s.data.toList[a + 2]? with
        | some x, some y => .ok ([⟨0, num2 x y, ByteArray.empty⟩], a + 3)
        | _, _ => .error (5, s.data.toList.length)) →
      Calls Tryz.prog 104 #[.pointer (some ⟨B, 0, none⟩), .agg #[.int .i64 k, .int .i64 M, .int .i64 N, .int .i64 R, T], .int .i64 p, .int .i64 d] w fun r w' => r = .returned (.tuple #[]) ∧ NodeOut w w' b0 B s q V ns rd := fun d p a w V ns hd hp h hb0 hn ha hk h0 rd hrd =>
    (node_stub w b0 B s a q V ns k M N R T p d h ha (by omega) h0 hs (by omega) (by omega) (by omega) hb0).mono fun r w' hr => by
      obtain ⟨h1, V', h2, h3⟩ := hr
      exact ⟨h1, V', _, _, _, _, h3, h2, stub_out s a q ns rd hrd⟩
  intro d
  induction d with
  | zero =>
    intro p a w V ns hd hp h hb0 hn
    rw [rdNode]
    by_cases ha : a < s.size
    · rw [get_int s a ha]
      dsimp only
      by_cases hk : (s[a].toNat : Int) = kindOf k M N p 0
      · rw [if_neg (by omega)]
        by_cases h0 : kindOf k M N p 0 = 0
        · rw [if_pos h0]
          exact stub 0 p a w V ns hd hp h hb0 hn ha hk h0 _ rfl
        · rw [if_neg h0]
          have h1 : kindOf k M N p 0 = 1 := by rcases kindOf_zero k M N p with h' | h' <;> omega
          by_cases hz : a + 1 < s.size
          · rw [get_int s (a + 1) hz]
            dsimp only
            by_cases hl : 50 < s[a + 1].toNat
            · rw [if_pos hl]
              exact (leaf_long w b0 B s a q V ns k M N R T p 0 h ha (by omega) h1 hs (by omega) (by omega) (by omega) hb0 hz hl).mono fun r w' hr => by
                obtain ⟨e1, V', e2, e3⟩ := hr
                exact ⟨e1, V', a + 2, 2, a, _, e3, e2, by omega, rfl, rfl, by simp⟩
            · rw [if_neg hl]
              by_cases hq : s.size < a + 2 + s[a + 1].toNat
              · rw [if_pos (by rw [len_toList]; exact hq)]
                exact (leaf_short2 w b0 B s a q V ns k M N R T p 0 h ha (by omega) h1 hs (by omega) (by omega) (by omega) hb0 hz (by omega) hq).mono fun r w' hr => by
                  obtain ⟨e1, V', e2, e3⟩ := hr
                  exact ⟨e1, V', a + 2, 5, s.size, _, e3, e2, by omega, rfl, by rw [len_toList], by simp⟩
              · rw [if_neg (by rw [len_toList]; exact hq)]
                exact (leaf_ok w b0 B s a q V ns k M N R T p 0 h ha (by omega) h1 hs (by omega) (by omega) (by omega) hb0 hz (by omega) (by omega)).mono fun r w' hr => by
                  obtain ⟨e1, V', e2, e3⟩ := hr
                  exact ⟨e1, V', _, _, _, _, e3, e2, rfl, rfl, rfl, by rw [extract_list s (a + 2) s[a + 1].toNat]⟩
          · rw [get_none s (a + 1) (by omega)]
            dsimp only
            exact (leaf_short w b0 B s a q V ns k M N R T p 0 h ha (by omega) h1 hs (by omega) (by omega) (by omega) hb0 (by omega)).mono fun r w' hr => by
              obtain ⟨e1, V', e2, e3⟩ := hr
              exact ⟨e1, V', a + 1, 5, s.size, _, e3, e2, by omega, rfl, by rw [len_toList], by simp⟩
      · rw [if_pos hk]
        exact shape 0 p a w V ns hd hp h ha hk
    · rw [get_none s a (by omega)]
      exact short 0 p a w V ns hd hp h (by omega)
  | succ d ih =>
    intro p a w V ns hd hp h hb0 hn
    have hpw := pw_succ d
    have hpp := pw_pos d
    rw [rdNode]
    by_cases ha : a < s.size
    · rw [get_int s a ha]
      dsimp only
      by_cases hk : (s[a].toNat : Int) = kindOf k M N p (d + 1)
      · rw [if_neg (by omega)]
        by_cases h0 : kindOf k M N p (d + 1) = 0
        · rw [if_pos h0]
          exact stub (d + 1) p a w V ns hd hp h hb0 hn ha hk h0 _ rfl
        · rw [if_neg h0]
          have ih1 := fun w V ns h hb0 hn => ih p (a + 1) w V ns (by omega) (by omega) h hb0 hn
          by_cases h2 : kindOf k M N p (d + 1) = 2
          · rw [if_pos h2]
            show Calls _ _ _ _ fun r w' => r = .returned (.tuple #[]) ∧ NodeOut w w' b0 B s q V ns (goTwo (rdNode s.data.toList k M N d p (a + 1)) (rdNode s.data.toList k M N d (p + pw d)))
            cases hr1 : rdNode s.data.toList k M N d p (a + 1) with
            | error y =>
              rw [hr1] at ih1
              exact two_bad w b0 B s a q V ns k M N R T p d _ y ih1 h ha (by omega) h2 hs (by omega) (by omega) hn hb0
            | ok z =>
              obtain ⟨l, a1⟩ := z
              rw [hr1] at ih1
              obtain ⟨_, t1, t2⟩ := rdNode_ok _ k M N d p (a + 1) l a1 hr1
              have t3 := encNs_pos l
              exact two_good w b0 B s a q V ns k M N R T p d _ l a1 (by omega) (fun w V ns h hb0 hn => ih (p + pw d) a1 w V ns (by omega) (by omega) h hb0 hn) ih1 h ha (by omega) h2 hs (by omega) (by omega) hn hb0
          · rw [if_neg h2]
            have h3 : kindOf k M N p (d + 1) = 3 := by rcases kindOf_succ k M N p d with h' | h' | h' <;> omega
            exact node_alone w b0 B s a q V ns k M N R T p d _ ih1 h ha (by omega) h3 hs (by omega) (by omega) hn hb0
      · rw [if_pos hk]
        exact shape (d + 1) p a w V ns hd hp h ha hk
    · rw [get_none s a (by omega)]
      exact short (d + 1) p a w V ns hd hp h (by omega)
end Go.Proofs.YtlndinigbppafaaGreat

/-
  The walk of the document's Decode.
-/
namespace Go.Proofs.YtlndinigbppafaaGreat
open Go.RowKit

/-- A message's value. -/
def msgV (k M N R : Int) (T : Value) : Value := .agg #[.int .i64 k, .int .i64 M, .int .i64 N, .int .i64 R, T]

/-- A new reader. -/
theorem scan_new (w : World) (s : ByteArray) (B : Nat) (hB : B = w.heap.size) (b0 : Nat) (hb : b0 ≤ w.heap.size) : ScanAt (w.alloc (.cells #[.string s, .int .i64 0, .int .i64 0, .int .i64 0, .slice none 0 0] 170)) b0 B s 0 0 0 (.slice none 0 0) [] := by
  subst hB
  exact ⟨hb, heap_alloc_new _ _, rfl, .inl ⟨rfl, rfl⟩⟩

set_option maxRecDepth 100000 in
set_option maxHeartbeats 1000000 in
theorem dec_long (s : ByteArray) (w : World) (hs : 4000 < s.size) :
    Calls Tryz.prog 67 #[.string s] w fun r w' => r = .returned (.tuple #[msgV 0 0 0 0 (.slice none 0 0), .int .i64 2, .int .i64 0]) ∧ Below w.heap.size w w' := by
  unfold msgV
  go_enter Tryz.func67, Tryz.ntmps67
  go_wp2
  all_goals go_returns
  all_goals exact ⟨rfl, by go_grown⟩
end Go.Proofs.YtlndinigbppafaaGreat

/-
  The walk of the document's Decode: growth.
-/
namespace Go.Proofs.YtlndinigbppafaaGreat
open Go.RowKit

/-- What stands between the steps of Decode: the reader, the box of the result, the message so far. -/
structure DS (w u : World) (s : ByteArray) (a : Nat) (e q : Int) (V : Value) (ns : List PN) (H : Nat) (k M N R : Int) : Prop where
  sc : ScanAt u w.heap.size (w.heap.size + 1) s a e q V ns
  bx : u.heap[w.heap.size]? = some (.cells #[.int .i64 0, .int .i64 0, .int .i64 0, .int .i64 0, .slice none 0 0] 63 (0, 0))
  mg : u.heap[H]? = some (.cells #[.int .i64 k, .int .i64 M, .int .i64 N, .int .i64 R, .slice none 0 0] 63 (0, 0))
  bl : Below w.heap.size w u
  hH : w.heap.size + 1 < H
theorem DS.below {w u u' : World} {s : ByteArray} {a : Nat} {e q : Int} {V : Value} {ns : List PN} {H : Nat} {k M N R : Int} (h : DS w u s a e q V ns H k M N R) (hb : Below u.heap.size u u') : DS w u' s a e q V ns H k M N R :=
  ⟨h.sc.below hb, by rw [hb.block _ (lt_of_heap h.bx)]; exact h.bx, by rw [hb.block _ (lt_of_heap h.mg)]; exact h.mg, h.bl.trans (hb.mono h.bl.size), h.hH⟩
theorem DS.frame {w u u' : World} {s : ByteArray} {a a' : Nat} {e q e' q' : Int} {V V' : Value} {ns ns' : List PN} {H : Nat} {k M N R : Int} (h : DS w u s a e q V ns H k M N R) (hF : Frame2 u u' (w.heap.size + 1) none) (hS : ScanAt u' w.heap.size (w.heap.size + 1) s a' e' q' V' ns') : DS w u' s a' e' q' V' ns' H k M N R :=
  ⟨hS, by rw [hF.block _ (lt_of_heap h.bx) (by omega) (by simp)]; exact h.bx, by rw [hF.block _ (lt_of_heap h.mg) (by have := h.hH; omega) (by simp)]; exact h.mg,
    h.bl.trans (hF.below (by omega) (fun k e => by cases e) h.bl.size), h.hH⟩
theorem DS.setM {w u : World} {s : ByteArray} {a : Nat} {e q : Int} {V : Value} {ns : List PN} {H : Nat} {k M N R : Int} (h : DS w u s a e q V ns H k M N R) (hr : V.ownBlock ≠ some H) (x : Int) : DS w (u.setCell ⟨H, 1, none⟩ (.int .i64 x)) s a e q V ns H k x N R :=
  ⟨⟨h.sc.1, by rw [Below.heap_setCell _ _ _ _ (by have := h.hH; show w.heap.size + 1 ≠ H; omega)]; exact h.sc.2.1, ownsRow_setCell_other h.sc.2.2 hr _⟩, by rw [Below.heap_setCell _ _ _ _ (by have := h.hH; show w.heap.size ≠ H; omega)]; exact h.bx, by simp [World.setCell, Array.getElem?_modify, h.mg], h.bl.setCell (by have := h.hH; show w.heap.size ≤ H; omega) _, h.hH⟩
theorem DS.setN {w u : World} {s : ByteArray} {a : Nat} {e q : Int} {V : Value} {ns : List PN} {H : Nat} {k M N R : Int} (h : DS w u s a e q V ns H k M N R) (hr : V.ownBlock ≠ some H) (x : Int) : DS w (u.setCell ⟨H, 2, none⟩ (.int .i64 x)) s a e q V ns H k M x R :=
  ⟨⟨h.sc.1, by rw [Below.heap_setCell _ _ _ _ (by have := h.hH; show w.heap.size + 1 ≠ H; omega)]; exact h.sc.2.1, ownsRow_setCell_other h.sc.2.2 hr _⟩, by rw [Below.heap_setCell _ _ _ _ (by have := h.hH; show w.heap.size ≠ H; omega)]; exact h.bx, by simp [World.setCell, Array.getElem?_modify, h.mg], h.bl.setCell (by have := h.hH; show w.heap.size ≤ H; omega) _, h.hH⟩
theorem DS.setR {w u : World} {s : ByteArray} {a : Nat} {e q : Int} {V : Value} {ns : List PN} {H : Nat} {k M N R : Int} (h : DS w u s a e q V ns H k M N R) (hr : V.ownBlock ≠ some H) (x : Int) : DS w (u.setCell ⟨H, 3, none⟩ (.int .i64 x)) s a e q V ns H k M N x :=
  ⟨⟨h.sc.1, by rw [Below.heap_setCell _ _ _ _ (by have := h.hH; show w.heap.size + 1 ≠ H; omega)]; exact h.sc.2.1, ownsRow_setCell_other h.sc.2.2 hr _⟩, by rw [Below.heap_setCell _ _ _ _ (by have := h.hH; show w.heap.size ≠ H; omega)]; exact h.bx, by simp [World.setCell, Array.getElem?_modify, h.mg], h.bl.setCell (by have := h.hH; show w.heap.size ≤ H; omega) _, h.hH⟩
theorem DS.cells {w u : World} {s : ByteArray} {a : Nat} {e q : Int} {V : Value} {ns : List PN} {H : Nat} {k M N R : Int} (h : DS w u s a e q V ns H k M N R) :
    (u.cell? ⟨w.heap.size + 1, 1, none⟩ = some (.int .i64 a) ∧ u.cell? ⟨w.heap.size + 1, 2, none⟩ = some (.int .i64 e) ∧ u.cell? ⟨w.heap.size + 1, 3, none⟩ = some (.int .i64 q) ∧ u.cell? ⟨w.heap.size + 1, 4, none⟩ = some V) ∧
    (u.cell? ⟨H, 0, none⟩ = some (.int .i64 k) ∧ u.cell? ⟨H, 1, none⟩ = some (.int .i64 M) ∧ u.cell? ⟨H, 2, none⟩ = some (.int .i64 N) ∧ u.cell? ⟨H, 3, none⟩ = some (.int .i64 R) ∧ u.cell? ⟨H, 4, none⟩ = some (.slice none 0 0)) ∧
    (u.frozen? ⟨H, 1, none⟩ = false ∧ u.frozen? ⟨H, 2, none⟩ = false ∧ u.frozen? ⟨H, 3, none⟩ = false ∧ u.frozen? ⟨H, 4, none⟩ = false) ∧
    (u.cell? ⟨w.heap.size, 0, none⟩ = some (.int .i64 0) ∧ u.cell? ⟨w.heap.size, 1, none⟩ = some (.int .i64 0) ∧ u.cell? ⟨w.heap.size, 2, none⟩ = some (.int .i64 0) ∧ u.cell? ⟨w.heap.size, 3, none⟩ = some (.int .i64 0) ∧ u.cell? ⟨w.heap.size, 4, none⟩ = some (.slice none 0 0)) ∧
    (u.frozen? ⟨w.heap.size, 0, none⟩ = false ∧ u.frozen? ⟨w.heap.size, 1, none⟩ = false ∧ u.frozen? ⟨w.heap.size, 2, none⟩ = false ∧ u.frozen? ⟨w.heap.size, 3, none⟩ = false ∧ u.frozen? ⟨w.heap.size, 4, none⟩ = false) ∧ H < u.heap.size := by
  refine ⟨⟨?_, ?_, ?_, ?_⟩, ⟨?_, ?_, ?_, ?_, ?_⟩, ⟨?_, ?_, ?_, ?_⟩, ⟨?_, ?_, ?_, ?_, ?_⟩, ⟨?_, ?_, ?_, ?_, ?_⟩, lt_of_heap h.mg⟩
  all_goals first
    | (rw [cell_of_row _ _ _ _ _ _ h.mg]; rfl)
    | (rw [cell_of_row _ _ _ _ _ _ h.bx]; rfl)
    | (rw [cell_of_row _ _ _ _ _ _ h.sc.2.1]; rfl)
    | (unfold World.frozen?; rw [h.mg]; simp; done)
    | (unfold World.frozen?; rw [h.bx]; simp; done)

theorem num_ok (s : ByteArray) (a : Nat) (q : Int) (h : a + 2 ≤ s.size) : nuR s a 0 = num2 s[a] s[a + 1] ∧ nuA s a 0 = a + 2 ∧ nuE s a 0 = 0 ∧ nuQ s a 0 q = q := by
  obtain ⟨a1, a2, a3, a4⟩ := nx_ok s a q (by omega)
  obtain ⟨b1, b2, b3, b4⟩ := nx_ok s (a + 1) q (by omega)
  unfold nuR nuA nuE nuQ
  rw [a1, a2, a3, a4, b1, b2, b3, b4]
  exact ⟨rfl, rfl, rfl, rfl⟩
theorem num_short (s : ByteArray) (a : Nat) (q : Int) (h0 : a ≤ s.size) (h : s.size < a + 2) : nuE s a 0 = 5 ∧ nuQ s a 0 q = s.size := by
  by_cases ha : a < s.size
  · obtain ⟨a1, a2, a3, a4⟩ := nx_ok s a q ha
    obtain ⟨b1, b2, b3, b4⟩ := nx_end s (a + 1) q (by omega)
    unfold nuE nuQ
    rw [a2, a3, a4, b3, b4]
    exact ⟨rfl, rfl⟩
  · obtain ⟨a1, a2, a3, a4⟩ := nx_end s a q (by omega)
    obtain ⟨b1, b2, b3, b4⟩ := nx_err s a 5 (s.size : Int) (by omega)
    unfold nuE nuQ
    rw [a2, a3, a4, b3, b4]
    exact ⟨rfl, rfl⟩
theorem num_err (s : ByteArray) (a : Nat) (e q : Int) (h : e ≠ 0) : nuR s a e = 0 ∧ nuA s a e = a ∧ nuE s a e = e ∧ nuQ s a e q = q := by
  obtain ⟨a1, a2, a3, a4⟩ := nx_err s a e q h
  unfold nuR nuA nuE nuQ
  rw [a1, a2, a3, a4, a1, a2, a3, a4]
  exact ⟨rfl, rfl, rfl, rfl⟩

/-- The first error stays. -/
def noE (e x : Int) : Int := if e = 0 then x else e
def noQ (e q y : Int) : Int := if e = 0 then y else q
theorem no_any (w : World) (b0 B : Nat) (s : ByteArray) (a e q : Int) (V : Value) (ns : List PN) (x y : Int) (h : ScanAt w b0 B s a e q V ns) :
    Calls Tryz.prog 102 #[.pointer (some ⟨B, 0, none⟩), .int .i64 x, .int .i64 y] w fun r w' => r = .returned (.tuple #[]) ∧ ScanAt w' b0 B s a (noE e x) (noQ e q y) V ns ∧ Frame2 w w' B none := by
  by_cases he : e = 0
  · subst he
    exact no_first w b0 B s a q V ns x y h
  · refine (no_more w b0 B s a e q V ns x y h he).mono fun r w' hr => ?_
    rw [hr.2]
    unfold noE noQ
    rw [if_neg he, if_neg he]
    exact ⟨hr.1, h, Frame2.refl _ _ _⟩

/-- What Decode gives. -/
def DecOut (s : ByteArray) (w : World) (r : Ending) (w' : World) : Prop :=
  Below w.heap.size w w' ∧ match decS s.data.toList with
  | .error (e, q) => e ≠ 0 ∧ r = .returned (.tuple #[msgV 0 0 0 0 (.slice none 0 0), .int .i64 e, .int .i64 q])
  | .ok x => ∃ T, r = .returned (.tuple #[msgV x.kind x.m x.n x.root T, .int .i64 0, .int .i64 0]) ∧ NodesAt w' T x.tree
theorem DecOut.bad {s : ByteArray} {w w' : World} {e : Int} {q : Nat} {e' q' : Int} (hd : decS s.data.toList = .error (e, q)) (he : e ≠ 0) (h1 : e' = e) (h2 : q' = q) (hb : Below w.heap.size w w') :
    DecOut s w (.returned (.tuple #[.agg #[.int .i64 0, .int .i64 0, .int .i64 0, .int .i64 0, .slice none 0 0], .int .i64 e', .int .i64 q'])) w' := by
  subst h1 h2
  unfold DecOut
  rw [hd]
  exact ⟨hb, he, rfl⟩
theorem DecOut.good {s : ByteArray} {w w' : World} {k M N R : Int} {t : List PN} {T : Value} (hd : decS s.data.toList = .ok ⟨k, M, N, R, t⟩) (hb : Below w.heap.size w w') (hT : NodesAt w' T t) :
    DecOut s w (.returned (.tuple #[.agg #[.int .i64 k, .int .i64 M, .int .i64 N, .int .i64 R, T], .int .i64 0, .int .i64 0])) w' := by
  unfold DecOut
  rw [hd]
  exact ⟨hb, T, rfl, hT⟩

theorem at_list (s : ByteArray) (i : Nat) (h : i < s.size) : s.data.toList[i]'(by rw [Array.length_toList]; exact h) = s[i] := by
  rw [Array.getElem_toList]; rfl

theorem dec2_case (s : ByteArray) (hs : s.size ≤ 4000) (h1 : 1 ≤ s.size) (hk : (s[0].toNat : Int) = 2) :
    (nuE s (nuA s (nuA s 1 0) (nuE s 1 0)) (nuE s (nuA s 1 0) (nuE s 1 0)) = 5 ∧ nuQ s (nuA s (nuA s 1 0) (nuE s 1 0)) (nuE s (nuA s 1 0) (nuE s 1 0)) (nuQ s (nuA s 1 0) (nuE s 1 0) (nuQ s 1 0 0)) = s.size ∧ decS s.data.toList = .error (5, s.size)) ∨
    (nuE s (nuA s (nuA s 1 0) (nuE s 1 0)) (nuE s (nuA s 1 0) (nuE s 1 0)) = 0 ∧ nuQ s (nuA s (nuA s 1 0) (nuE s 1 0)) (nuE s (nuA s 1 0) (nuE s 1 0)) (nuQ s (nuA s 1 0) (nuE s 1 0) (nuQ s 1 0 0)) = 0 ∧ nuA s (nuA s (nuA s 1 0) (nuE s 1 0)) (nuE s (nuA s 1 0) (nuE s 1 0)) = 7 ∧ nuA s 1 0 = 3 ∧
      decS s.data.toList = dec2G s.data.toList (nuR s 1 0) (nuR s (nuA s 1 0) (nuE s 1 0)) (nuR s (nuA s (nuA s 1 0) (nuE s 1 0)) (nuE s (nuA s 1 0) (nuE s 1 0)))) := by
  have hll := len_toList s
  have hk' : (s.data.toList[0]'(by omega)).toNat = (2 : Int) := by rw [at_list s 0 (by omega)]; exact hk
  by_cases h7 : s.size < 7
  · left
    have hd := decS_2s s.data.toList (by omega) hk' (by omega)
    rw [hll] at hd
    refine ⟨?_, ?_, hd⟩
    · by_cases h3 : s.size < 3
      · obtain ⟨a1, a2⟩ := num_short s 1 0 (by omega) (by omega)
        rw [a1]
        simp only [(num_err s _ 5 0 (by decide)).2.2.1]
      · obtain ⟨_, a1, a2, a3⟩ := num_ok s 1 0 (by omega)
        rw [a1, a2]
        by_cases h5 : s.size < 5
        · obtain ⟨b1, b2⟩ := num_short s 3 0 (by omega) (by omega)
          rw [b1]
          simp only [(num_err s _ 5 0 (by decide)).2.2.1]
        · obtain ⟨_, b1, b2, b3⟩ := num_ok s 3 0 (by omega)
          rw [b1, b2]
          exact (num_short s 5 0 (by omega) (by omega)).1
    · by_cases h3 : s.size < 3
      · obtain ⟨a1, a2⟩ := num_short s 1 0 (by omega) (by omega)
        rw [a1, a2]
        simp only [(num_err s _ 5 0 (by decide)).2.2.1, (num_err s _ 5 _ (by decide)).2.2.2]
      · obtain ⟨_, a1, a2, a3⟩ := num_ok s 1 0 (by omega)
        rw [a1, a2, a3]
        by_cases h5 : s.size < 5
        · obtain ⟨b1, b2⟩ := num_short s 3 0 (by omega) (by omega)
          rw [b1, b2]
          simp only [(num_err s _ 5 _ (by decide)).2.2.2]
        · obtain ⟨_, b1, b2, b3⟩ := num_ok s 3 0 (by omega)
          rw [b1, b2, b3]
          exact (num_short s 5 0 (by omega) (by omega)).2
  · right
    obtain ⟨a0, a1, a2, a3⟩ := num_ok s 1 0 (by omega)
    rw [a0, a1, a2, a3]
    obtain ⟨b0, b1, b2, b3⟩ := num_ok s 3 0 (by omega)
    rw [b0, b1, b2, b3]
    obtain ⟨c0, c1, c2, c3⟩ := num_ok s 5 0 (by omega)
    rw [c0, c1, c2, c3]
    have hd := decS_2 s.data.toList (by omega) (by omega) hk'
    simp only [at_list s 1 (by omega), at_list s 2 (by omega), at_list s 3 (by omega), at_list s 4 (by omega), at_list s 5 (by omega), at_list s 6 (by omega)] at hd
    exact ⟨rfl, rfl, rfl, rfl, hd⟩

theorem ds_begin (w w1 : World) (s : ByteArray) (a : Nat) (e q k : Int) (hS : ScanAt w1 w.heap.size (w.heap.size + 1) s a e q (.slice none 0 0) [])
    (hF : Frame2 ((w.alloc (.cells #[.int .i64 0, .int .i64 0, .int .i64 0, .int .i64 0, .slice none 0 0] 63)).alloc (.cells #[.string s, .int .i64 0, .int .i64 0, .int .i64 0, .slice none 0 0] 170)) w1 (w.heap.size + 1) none) :
    DS w (w1.alloc (.cells #[.int .i64 k, .int .i64 0, .int .i64 0, .int .i64 0, .slice none 0 0] 63)) s a e q (.slice none 0 0) [] w1.heap.size k 0 0 0 := by
  have hz := hF.size
  simp at hz
  have hA : Below w1.heap.size w1 (w1.alloc (.cells #[.int .i64 k, .int .i64 0, .int .i64 0, .int .i64 0, .slice none 0 0] 63)) := (Below.refl _ _).alloc (Nat.le_refl _) _
  have h2 : Below w.heap.size w ((w.alloc (.cells #[.int .i64 0, .int .i64 0, .int .i64 0, .int .i64 0, .slice none 0 0] 63)).alloc (.cells #[.string s, .int .i64 0, .int .i64 0, .int .i64 0, .slice none 0 0] 170)) := ((Below.refl _ _).alloc (Nat.le_refl _) _).alloc (by simp) _
  refine ⟨hS.below hA, ?_, heap_alloc_new _ _, ?_, by omega⟩
  · rw [hA.block _ (by omega), hF.block _ (by simp; omega) (by omega) (by simp), Below.heap_alloc _ _ _ (by simp)]
    exact heap_alloc_new _ _
  · exact (h2.trans (hF.below (by omega) (fun k e => by cases e) h2.size)).trans (hA.mono (by omega))
end Go.Proofs.YtlndinigbppafaaGreat
