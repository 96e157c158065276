/-
  The call of member in company: from its contract in the lone walk (text LogA).
-/
import Derived.Test.YtlndinigbppafaaJ39
import Derived.Test.YtlndinigbppafaaLogB
namespace Go.Proofs.Ytlndinigbppafaa
open Go.Sim Go.Conc

theorem treeV_vr (evs : List ByteArray) (R : BR) : ∀ d p, VR Try.prog R (treeV evs d p) (treeV evs d p)
  | 0, p => by
    unfold treeV
    refine .iface _ (by rw [Try.types_size]; decide) (.agg rfl ?_)
    exact ((((VRs.nil.push (.int _ _)).push (.int _ _)).push (.int _ _)).push (.string _)).2
  | d + 1, p => by
    unfold treeV
    split
    · refine .iface _ (by rw [Try.types_size]; decide) (.agg rfl ?_)
      exact (((((VRs.nil.push (.int _ _)).push (.int _ _)).push (.int _ _)).push (treeV_vr evs R d p)).push (treeV_vr evs R d (p + pw d))).2
    · refine .iface _ (by rw [Try.types_size]; decide) (.agg rfl ?_)
      exact ((((VRs.nil.push (.int _ _)).push (.int _ _)).push (.int _ _)).push (treeV_vr evs R d p)).2

/-- A row of bytes, whosever. -/
def RowB (l : List UInt8) (V : Value) (W : World) : Prop := W.ownsRow 0 5 1 V l.length (bytes8 l)

theorem RowB.tp {l : List UInt8} {v : Value} {w : World} (τ : Nat → Question → Nat) (h : RowB l v w) : RowB l v (w.tp τ) := h

theorem take_vr {R : BR} {x X : Array Value} (h : VRs Try.prog R x X) {l : List UInt8} {n : Nat} (e : x.toList.take n = bytes8 l) : X.toList.take n = bytes8 l := by
  rw [← e]
  apply List.ext_getElem?
  intro j
  rw [List.getElem?_take, List.getElem?_take]
  split
  · rename_i hj
    rw [Array.getElem?_toList, Array.getElem?_toList]
    cases hx : x[j]? with
    | none =>
      have := h.1
      rw [Array.getElem?_eq_none_iff] at hx ⊢
      omega
    | some v =>
      obtain ⟨V, hV, hv⟩ := h.get hx
      have hm : (x.toList.take n)[j]? = some v := by rw [List.getElem?_take, if_pos hj, Array.getElem?_toList, hx]
      rw [e] at hm
      unfold bytes8 at hm
      rw [List.getElem?_map, Option.map_eq_some_iff] at hm
      obtain ⟨b, _, rfl⟩ := hm
      cases hv
      exact hV
  · rfl

theorem postB {l : List UInt8} {R : BR} {O : Nat → Prop} {v V : Value} {w W : World} (hv : VR Try.prog R v V) (hw : WR Try.prog NoShd R w W) (h : RowB l v w) (hO : ∀ b B, R b B → O B) : PostAt (RowB l) O V W := by
  intro W' hW
  obtain ⟨h1, h2⟩ := h
  refine ⟨h1, ?_⟩
  rcases h2 with ⟨rfl, hn⟩ | ⟨g, cap, cur, rfl, _, hg, hn, hc, hs, ht⟩
  · cases hv
    exact .inl ⟨rfl, hn⟩
  · cases hv with
    | slice _ _ ha =>
      rename_i A
      obtain ⟨hR, ho, _, hsp⟩ := ha
      obtain ⟨o, O', e1, e2, hor⟩ := hw.dom _ _ hR
      rw [hg] at e1
      cases e1
      cases hor with
      | @cells _ C t _ Fz hvs hfz _ =>
        have hF := hfz (fun x => x)
        subst hF
        refine .inr ⟨A.block, cap, C, ?_, Nat.zero_le _, ?_, hn, hc, by rw [← hvs.1]; exact hs, take_vr hvs ht⟩
        · obtain ⟨b, o, sp⟩ := A
          simp only at ho hsp
          rw [← ho, hsp]
        · rw [hW _ (hO _ _ hR)]; exact e2

/-- Such a row, in plain data. -/
def RowP (l : List UInt8) (V : Value) (W : World) : Prop := RowB l V W ∧ ∃ D, Vs D V ∧ Pl D W
theorem postP {l : List UInt8} {R : BR} {O : Nat → Prop} {v V : Value} {w W : World} (hv : VR Try.prog R v V) (hw : WR Try.prog NoShd R w W) (h : RowB l v w) (hO : ∀ b B, R b B → O B) : PostAt (RowP l) O V W :=
  fun W' hW => ⟨postB hv hw h hO W' hW, ranR R, vr_ran hv, pl_ran hw fun b B hb => hW B (hO b B hb)⟩

theorem memberC_tree (evs : List ByteArray) (i : Nat) (hi : i ≤ 65535) (hn : evs.length ≤ 65535) (hs : ∀ s ∈ evs, s.size ≤ 255) (bc bv bi bn c : Nat) :
    MemberC bc bv bi bn c (treeV evs (dep evs.length) 0) i evs.length (RowP (memberB evs i)) := by
  have hd : dep evs.length ≤ 16 := dep_le _ 16 (by rw [pw_16]; omega)
  have hp := prunes_tree evs (dep evs.length) hd 0 (by have := pw_le hd; rw [pw_16] at this; omega)
  refine memberC_of zeroOK bodiesOK (Q := RowB (memberB evs i)) (fun R => treeV_vr evs R _ _) (fun v w τ h => h.tp τ) (fun w _ => ?_) postP
  refine (member_any evs _ i evs.length w hp ⟨by omega, by omega⟩ rfl hn hs).mono fun e w' h => ?_
  obtain ⟨v', rfl, h1, _⟩ := h
  obtain ⟨a, b⟩ := h1
  refine ⟨a, b.imp id fun ⟨g, cap, cur, x1, x2, x3⟩ => ⟨g, cap, cur, x1, Nat.zero_le _, x3⟩⟩
end Go.Proofs.Ytlndinigbppafaa
