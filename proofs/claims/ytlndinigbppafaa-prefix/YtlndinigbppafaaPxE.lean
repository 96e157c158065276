/-
  The law Prefix: what is left of its frame behind Proofs, by the lone walk.
-/
import Derived.Test.YtlndinigbppafaaPxD
import Derived.Handy
import Derived.BigQuiet
import Derived.Laws.IdiomStrings
namespace Go.Proofs.Ytlndinigbppafaa
open Go.Sim Go.Conc Go.Fi Go.RowKit

theorem conv_row (u : World) (l : List UInt8) (ad : Addr) (cp : Nat) (h : BytesAt u (.slice (some ad) l.length cp) l) : (convert 24 9 (.slice (some ad) l.length cp)).run Try.prog u = .ok (.string ⟨l.toArray⟩) u := by
  refine run_convert_bytes_back _ _ _ 5 _ _ l Try.underlying24 Try.underlying5 Try.underlying9 fun j hj => ?_
  obtain ⟨ao, cap, e, _, hc⟩ := h.cells
  simp only [Value.slice.injEq] at e
  obtain ⟨rfl, -, -⟩ := e
  obtain ⟨b, o, e, hcell⟩ := hc (by omega)
  cases e
  rw [show (⟨b, o, none⟩ : Addr).add j = ⟨b, o + j, none⟩ by unfold Addr.add; split <;> simp_all]
  exact hcell j hj

set_option maxRecDepth 100000 in
set_option maxHeartbeats 4000000 in
theorem rest8 (w : World) (v : Value) (i : Int) (b0 B1 : Nat) (o1 : Value) (n : Int) (ps evs : List ByteArray) (m g1 cap1 b2 B2 : Nat) (S1 S2 o2 ya yb yc yd V : Value) (ga : Nat) (j : Nat) (hj : pickZ i m = j) (hjm : j < m) (h1 : 1 ≤ m) (h2 : m ≤ evs.length) (hn : evs.length ≤ 65535) (hss : ∀ s ∈ evs, s.size ≤ 255)
    (hlog1 : LogAt w b0 B1 S1 evs) (hlog2 : LogAt w b2 B2 S2 (evs.take m))
    (ra0 : RowB (growthB (evs.take m) (pickZ i m + 1)) ya w) (rb0 : RowB (growthB (evs.take m) (pickZ i m + 1)) yb w) (rc0 : RowB (memberB (evs.take m) (pickZ i m)) yc w) (rd0 : RowB (memberB (evs.take m) (pickZ i m)) yd w) (rv0 : RowB (memberB (evs.take m) j) V w)
    (hcell0 : w.cell? ⟨ga, j, none⟩ = some V) (Post : Ending → World → Prop) (hPost : ∀ w', Below w.heap.size w w' → Post (.returned (.bool true)) w') :
    c8rest.wp Try.prog (bodyPost Try.prog Try.f8 Post) (px3 v i B1 o1 n ps m g1 cap1 B2 o2 ya yb yc yd ga) w := by
  have hl1 : (evs.take m).length = m := by rw [List.length_take]; omega
  have H1 : Hid _ := h1
  have H2 : Hid _ := h2
  have Hj : Hid _ := hjm
  have pos : ∀ k M N R ns, 0 < (encM k M N R ns).length := fun k M N R ns => by unfold encM encH; simp
  unfold c8rest px3 r8_15 r8_16 r8_17 r8_18 r8_19
  rw [hj] at *
  clear hj
  go_wp2_with fail
  refine (root_ok _ _ _ _ _ m hlog2 h1 (by omega) (by omega) (take_small hss)).mono ?_
  rintro e w1 ⟨rfl, hb1⟩
  rw [List.take_of_length_le (by omega)]
  go_wp2_with fail
  refine (root_ok _ _ _ _ _ m (hlog1.below hb1) h1 h2 hn hss).mono ?_
  rintro e w2 ⟨rfl, hb2⟩
  have hb := hb1.trans (hb2.mono hb1.size)
  have ra := owns_below ra0 hb
  have rb := owns_below rb0 hb
  have rc := owns_below rc0 hb
  have rd := owns_below rd0 hb
  have rv := owns_below rv0 hb
  have HP : Hid (∀ q, Post (.returned (.bool true)) (w2.drewN q)) := fun q => hPost _ ⟨hb.os, hb.tape, hb.output, hb.size, hb.block⟩
  clear hPost
  have hcell : w2.cell? ⟨ga, j, none⟩ = some V := by
    have hlt : ga < w.heap.size := by
      unfold World.cell? at hcell0
      cases hg : w.heap[ga]? with
      | none => simp [hg] at hcell0
      | some o => exact (Array.getElem?_eq_some_iff.1 hg).1
    rw [← hcell0]
    unfold World.cell?
    simp only [hb.block ga hlt]
  obtain ⟨qa, ca, rfl⟩ := own_shape ra (pos _ _ _ _ _)
  obtain ⟨qb, cb, rfl⟩ := own_shape rb (pos _ _ _ _ _)
  obtain ⟨qc, cc, rfl⟩ := own_shape rc (pos _ _ _ _ _)
  obtain ⟨qd, cd, rfl⟩ := own_shape rd (pos _ _ _ _ _)
  obtain ⟨qv, cv, rfl⟩ := own_shape rv (pos _ _ _ _ _)
  have va : ∀ N : Nat, _ := fun N => conv_row (w2.drewN N) _ _ _ (BytesAt.of_owns (w := w2.drewN N) ra)
  have vb : ∀ N : Nat, _ := fun N => conv_row (w2.drewN N) _ _ _ (BytesAt.of_owns (w := w2.drewN N) rb)
  have vc : ∀ N : Nat, _ := fun N => conv_row (w2.drewN N) _ _ _ (BytesAt.of_owns (w := w2.drewN N) rc)
  have vd : ∀ N : Nat, _ := fun N => conv_row (w2.drewN N) _ _ _ (BytesAt.of_owns (w := w2.drewN N) rd)
  have vv : ∀ N : Nat, _ := fun N => conv_row (w2.drewN N) _ _ _ (BytesAt.of_owns (w := w2.drewN N) rv)
  have hjm' : (j : Int) < (m : Int) := by omega
  clear hcell0 ra0 rb0 rc0 rd0 rv0 ra rb rc rd rv hb1 hb2 hlog1 hlog2 pos hb hss hn h1 h2 hjm
  generalize memberB (evs.take m) j = lm at *
  generalize growthB (evs.take m) (j + 1) = lg at *
  generalize dig (evs.take m) (dep m) 0 = dg at *
  clear hl1
  go_wp2
  go_quiet (fail)
  go_wp2
  exact HP.out _

theorem vs_nil {D : Nat → Prop} : ∀ v ∈ ([] : List Value), Vs D v := fun v hv => by cases hv
theorem vs_cons {D : Nat → Prop} {a : Value} {l : List Value} (h : Vs D a) (k : ∀ v ∈ l, Vs D v) : ∀ v ∈ a :: l, Vs D v := by
  intro v hv
  rcases List.mem_cons.1 hv with rfl | hv
  · exact h
  · exact k v hv
theorem vs_arr {D : Nat → Prop} {l : List Value} (h : ∀ v ∈ l, Vs D v) : ∀ v ∈ l.toArray, Vs D v := fun v hv => h v (by simpa using hv)
theorem vs_tuple {D : Nat → Prop} {l : List Value} (h : ∀ v ∈ l, Vs D v) : Vs D (.tuple l.toArray) := by
  refine VR.tuple rfl fun i v V e1 e2 => ?_
  rw [e1] at e2; cases e2
  exact h v (by simpa using Array.mem_of_getElem? e1)
theorem vs_undef {D : Nat → Prop} : Vs D undef := VR.undef

set_option maxRecDepth 100000 in
set_option maxHeartbeats 4000000 in
theorem px3_vs {D : Nat → Prop} (i : Int) (B1 : Nat) (o1 : Value) (n : Int) (ps : List ByteArray) (m g1 cap1 B2 : Nat) (o2 ya yb yc yd : Value) (ga : Nat) (h1 : Vs D (.pointer (some ⟨B1, 0, none⟩))) (h2 : Vs D (.pointer (some ⟨B2, 0, none⟩))) (h3 : Vs D o1) (h4 : Vs D o2) (ha : Vs D ya) (hb : Vs D yb) (hc : Vs D yc) (hd : Vs D yd)
    (hg : Vs D (.slice (some ⟨ga, 0, none⟩) m m)) (hs : Vs D (.slice (some ⟨g1, 0, none⟩) m cap1)) : ∀ x ∈ (px3 undef i B1 o1 n ps m g1 cap1 B2 o2 ya yb yc yd ga).tmps, Vs D x := by
  unfold px3
  refine vs_arr ?_
  repeat' first
    | exact vs_nil
    | exact vs_undef
    | exact Vs.int _ _ _
    | exact Vs.bool _ _
    | assumption
    | refine vs_tuple ?_
    | refine vs_cons ?_ ?_
end Go.Proofs.Ytlndinigbppafaa
