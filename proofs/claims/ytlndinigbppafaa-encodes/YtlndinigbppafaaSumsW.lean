/-
  The walk of the law Sums.
-/
import Derived.Test.YtlndinigbppafaaSumW
namespace Go.Proofs.Ytlndinigbppafaa
open Go.RowKit

theorem Try.infoBytes : (Try.prog.info? 24).map (fun i => (i.zero, i.size, i.bytes)) = some (some (.slice none 0 0), 1, 24) := by kernel_rfl

/-- One text more is laid: what the round does to the list. -/
theorem row_push {w wr w1 : World} {v : Value} {k cap : Nat} {us : List Value} {fr : Nat × Nat} {Y : Obj} {ps : List ByteArray} (hk : k < ps.length)
    (hown : wr.ownsRow w.heap.size 24 1 v k us) (hus : ∀ j (h : j < ps.length), j < k → ∃ u, us[j]? = some u ∧ BytesAt wr u ps[j].data.toList) (hbel : Below w.heap.size w wr)
    (hgrow : (((wr.alloc (.cells (bytesRow ps[k] cap) 5 fr)).alloc Y).drew).grownBy w1 v.ownBlock) :
    (∀ j (h : j < ps.length), j < k + 1 → ∃ u, (us ++ [.slice (some ⟨wr.heap.size, 0, none⟩) ps[k].size cap])[j]? = some u ∧ BytesAt w1 u ps[j].data.toList) ∧ Below w.heap.size w w1 := by
  have hsz := hbel.size
  have hown2 := ((hown.alloc (.cells (bytesRow ps[k] cap) 5 fr)).alloc Y).drew
  have hlen : us.length = k := by have := hown.1; omega
  have K0 : KeepsT 5 (wr.alloc (.cells (bytesRow ps[k] cap) 5 fr)) w1 := (((KeepsT.refl _ _).alloc Y).drew).grown hown2 hgrow (by decide)
  have K1 : KeepsT 5 wr w1 := ((KeepsT.refl _ wr).alloc _).trans K0
  refine ⟨fun j h hj => ?_, ?_⟩
  · by_cases hjk : j < k
    · obtain ⟨u, h1, h2⟩ := hus j h hjk
      exact ⟨u, by rw [List.getElem?_append_left (by omega)]; exact h1, h2.keep K1⟩
    · have : j = k := by omega
      subst this
      exact ⟨_, by rw [List.getElem?_append_right (by omega)]; simp [hlen], (BytesAt.made wr ps[j] cap fr).keep K0⟩
  · refine (((hbel.alloc (by omega) _).alloc (by simp; omega) _).drew).grown hgrow (by simp; omega) (fun g hg => (hown.lt g hg).1)

set_option maxHeartbeats 400000 in
theorem sums_any (ps : List ByteArray) (v : Value) (w : World) (hv : StringsAt w v ps) (hn : ps.length ≤ 1048576) (hc : (cat ps).length ≤ 1048576) (hp : ∀ p ∈ ps, p.size ≤ 1048576) :
    Calls Try.prog 3 #[v] w fun e w' => e = .returned (.bool true) ∧ Below w.heap.size w w' := by
  obtain ⟨ao, cap, rfl, hcell⟩ := hv
  obtain ⟨i0, hi, hz0, hz1, hz2⟩ := info_parts Try.infoBytes
  have hcv := fun u s => @run_bytes_of_string Try.prog u 9 24 5 s Try.underlying9 Try.underlying24 Try.underlying5
  go_enter Try.func3, Try.ntmps3
  go_wp2
  go_loopw [3, 4, 5] (fun v s i wr => ∃ (k : Nat) (us : List Value), k ≤ ps.length ∧ i = .int .i64 k ∧ s = .string ⟨(cat (ps.take k)).toArray⟩ ∧ wr.ownsRow w.heap.size 24 1 v k us ∧
      (∀ j (h : j < ps.length), j < k → ∃ u, us[j]? = some u ∧ BytesAt wr u ps[j].data.toList) ∧ Below w.heap.size w wr)
    (fun _ _ i _ => ps.length - (intOf i).toNat)
  case atStart => exact ⟨0, [], Nat.zero_le _, rfl, rfl, World.ownsRow_nil _ _ _ _, fun _ _ h => by omega, Below.refl _ _⟩
  case round =>
    obtain ⟨k, us, hk, rfl, rfl, hown, hus, hbel⟩ := hrel
    have hsz := hbel.size
    by_cases hlt : k < ps.length
    · obtain ⟨b, o, rfl, hbB, hcl⟩ := hcell (by omega)
      have hcw := hcl k hlt
      have hck := (hbel.cell (p := ⟨b, o + k, none⟩) hbB).trans hcw
      have hpk := hp _ (List.getElem_mem hlt)
      have HC : Hid (cat (ps.take (k + 1)) = cat (ps.take k) ++ ps[k].data.toList) := cat_snoc ps k hlt
      have hcl2 := cat_le ps (k + 1)
      have hcl3 := cat_le ps k
      clear hcl hcell
      go_wp2_with (at_builtin; refine wpList_append_own _ rfl (.tmp 12) (.tmp 18) 23 rfl w.heap.size 24 i0 (.slice none 0 0) 1 24 Try.underlying23 hi hz0 hz1 hz2 rfl (by decide) _ _ _ rfl (((hown.alloc _).alloc _).drew) ⟨wr.heap.size + 1, 0, none⟩ 1 1 [.slice (some ⟨wr.heap.size, 0, none⟩) ps[k].size (grownCap wr ps[k].size 0 5)] rfl rfl ?c1 ?c2 ?c3 ?c4 ?c5 ?_)
      case c1 =>
        intro j u hj
        match j, hj with
        | 0, hj => simp at hj; subst hj; simp [Addr.add]
      case c2 => intro u hu; simp at hu; subst hu; rfl
      case c3 => unfold maxLen; omega
      case c4 => omega
      case c5 => simp; omega
      · intro v' w1 hown' hgrow _
        obtain ⟨R1, R2⟩ := row_push hlt hown hus hbel hgrow
        have hck1 := (R2.cell (p := ⟨b, o + k, none⟩) hbB).trans hcw
        clear hown hus hbel hgrow hck hcw
        have hsum : (cat (ps.take k)).length + ps[k].size ≤ 1048576 := by
          have e := congrArg List.length HC.out
          rw [List.length_append] at e
          have e2 : ps[k].data.toList.length = ps[k].size := by rw [Array.length_toList]; rfl
          omega
        have hsz1 := mk_size (cat (ps.take k))
        go_wp2
        go_roundw
        case rel => exact ⟨k + 1, _, by omega, by go_num, by rw [HC.out, mk_append], hown', R1, R2⟩
        case measure => simp [intOf]; omega
    · have hkl : k = ps.length := by omega
      subst hkl
      have hR : RowsAt wr u3 (ps.map (·.data.toList)) := RowsAt.of_owns hown (by simp) (fun j h => by
        have h' : j < ps.length := by simpa using h
        simpa using hus j h' h')
      have hlen : (ps.map (·.data.toList)).length ≤ 9223372036854775807 := by rw [List.length_map]; omega
      have hls : ∀ l ∈ ps.map (·.data.toList), l.length ≤ 9223372036854775807 := by
        intro l hl
        obtain ⟨p, hpm, rfl⟩ := List.mem_map.1 hl
        have := hp p hpm
        have e2 : p.data.toList.length = p.size := by rw [Array.length_toList]; rfl
        omega
      have hcs : (⟨(cat ps).toArray⟩ : ByteArray).size ≤ maxLen := by rw [mk_size]; unfold maxLen; omega
      have hfin : (sm (ps.map (·.data.toList)).flatten == sm (⟨(cat ps).toArray⟩ : ByteArray).data.toList) = true := by
        rw [beq_iff_eq]; rfl
      clear hown hus hcell
      go_wp2_with (first
        | (go_at_call 10; refine (sum_any _ _ _ hR hlen hls).mono ?_; rintro e w' ⟨rfl, rfl⟩)
        | (go_at_call 11; refine (refSum_any _ _ hcs).mono ?_; rintro e w' ⟨rfl, rfl⟩))
      go_ret
      exact ⟨by simp, hbel⟩
end Go.Proofs.Ytlndinigbppafaa
