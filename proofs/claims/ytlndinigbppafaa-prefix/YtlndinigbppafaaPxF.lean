/-
  The law Prefix: its own frame, whole.
-/
import Derived.Test.YtlndinigbppafaaPxE
namespace Go.Proofs.Ytlndinigbppafaa
open Go.Sim Go.Conc Go.Fi Go.RowKit

/-- Two slots that nothing reads any more. -/
def rl8 : Rl := fun i => if [0, 29].contains i then 3 else 0

set_option maxRecDepth 100000 in
set_option maxHeartbeats 4000000 in
theorem px3_over (v : Value) (i : Int) (B1 : Nat) (o1 : Value) (n : Int) (ps : List ByteArray) (m g1 cap1 B2 : Nat) (o2 ya yb yc yd : Value) (ga : Nat) :
    px3 v i B1 o1 n ps m g1 cap1 B2 o2 ya yb yc yd ga = ⟨ov rl8 (fun _ => v) (px3 undef i B1 o1 n ps m g1 cap1 B2 o2 ya yb yc yd ga).tmps, []⟩ := by kernel_rfl

theorem codeR8 : CodeR Try.prog rl8 c8rest := codeRB_ok (by kernel_rfl)

set_option maxRecDepth 100000 in
set_option maxHeartbeats 4000000 in
theorem can_prefix {Fo : FoT} {D : Nat → Prop} {ps : List ByteArray} {v : Value} {n i : Int} {w : World} {Post : Value → World → Prop} (hv : StringsAt w v ps) (hn1 : ps.length ≤ 9223372036854775807) (hn2 : ∀ p ∈ ps, p.size ≤ 9223372036854775807) (hvs : SlV Fo v) (hext : ExtOK Fo D w) (hSf : Sf D w)
    (hn : -9223372036854775808 ≤ n ∧ n ≤ 9223372036854775807) (hi : -9223372036854775808 ≤ i ∧ i ≤ 9223372036854775807) (hPost : ∀ w', Bel w w' → Post (.bool true) w') (hP : ∀ v w w₁, Post v w → Eqv w w₁ → Post v w₁) :
    Can (Done Post) 0 (G ((base 8).at (⟨#[v, .int .i64 n, .int .i64 i, undef, undef, undef, undef, undef, undef, undef, undef, undef, undef, undef, undef, undef, undef, undef, undef, undef, undef, undef, undef, undef, undef, undef, undef, undef, undef, undef, undef, undef, undef, undef, undef, undef, undef, undef, undef, undef, undef, undef, undef, undef, undef, undef, undef, undef, undef, undef, undef, undef, undef, undef, undef, undef, undef, undef, undef, undef, undef, undef, undef, undef, undef, undef, undef, undef, undef, undef, undef, undef, undef, undef, undef, undef, undef, undef, undef, undef, undef, undef, undef, undef, undef, undef, undef, undef, undef, undef, undef, undef, undef, undef, undef, undef, undef, undef, undef, undef, undef, undef, undef, undef, undef, undef, undef, undef, undef, undef, undef, undef, undef, undef, undef, undef, undef, undef, undef, undef, undef, undef, undef, undef, undef, undef, undef, undef, undef, undef, undef, undef, undef, undef, undef, undef, undef, undef, undef, undef, undef, undef, undef, undef, undef, undef, undef, undef, undef, undef, undef, undef, undef, undef, undef, undef, undef, undef, undef, undef, undef, undef, undef, undef, undef], []⟩ : Act) [.code c8]) []) w := by
  refine Can.prefix1 hv hn1 hn2 hvs hext hSf ?_
  intro D1 w1 b0 B1 g1 cap1 S1 o1 d1 hB1 ho1 sf1 bel1 log1 row1 hgo
  refine Can.prefix2 hn hi hB1 ho1 sf1 log1 row1 hgo ?_
  intro D2 w2 b2 B2 m S2 o2 h1 h2 d2 hB1' hB2 ho1' ho2 sf2 bel2 log1' log2 hj0 hjm
  rw [keptL_take ps m h1] at log2
  have hK := keptL_len ps
  have hKs := keptL_le ps
  refine Can.prefix3 h1 h2 (by omega) hKs hj0 hjm hB1' hB2 sf2 log1' log2 ?_
  intro D3 w3 ya yb yc yd ga vs d3 q1 q2 qa qb qc qd qg sf3 bel3 lg1 lg2 ra rb rc rd hvl hga hrow hpost
  obtain ⟨j, hj⟩ : ∃ j : Nat, pickZ i m = j := ⟨(pickZ i m).toNat, by omega⟩
  have hjl : j < vs.length := by omega
  refine Can.conv (px3_over v i B1 o1 n ps m g1 cap1 B2 o2 ya yb yc yd ga) ?_
  refine Can.restX (rl := rl8) (Fo := fun _ _ _ => False) (a := px3 undef i B1 o1 n ps m g1 cap1 B2 o2 ya yb yc yd ga) Try.func8 codeOK8 codeR8 (px3_vs i B1 o1 n ps m g1 cap1 B2 o2 ya yb yc yd ga q1 q2 (ho1'.mono d3) (ho2.mono d3) qa qb qc qd qg ?_) rfl sf3 (fun k => ⟨fun q => ?_, fun q => ?_⟩) (fun _ _ _ h => h.elim) (by simp [Try.f8]) (by kernel_rfl) hP fun τ => ?_
  · rw [hgo] at ho1'
    exact vs_slice (ho1'.mono d3)
  · unfold rl8 at q; split at q <;> cases q
  · unfold rl8 at q; split at q <;> cases q
  · rw [← px3_over v]
    refine rest8 (w3.tp τ) v i b0 B1 o1 n ps (keptL ps) m g1 cap1 b2 B2 S1 S2 o2 ya yb yc yd vs[j] ga j hj (by omega) h1 h2 (by omega) (fun s hs => by have := hKs s hs; omega) lg1 lg2 ra rb rc rd (hpost j _ (List.getElem?_eq_getElem hjl)) ?_ _ fun w' hb => hPost w' (((bel1.trans bel2).trans bel3).trans (Bel.of hb))
    show w3.cell? ⟨ga, j, none⟩ = some vs[j]
    rw [cell_of_row _ _ _ _ _ _ hrow]
    simp [hjl]
end Go.Proofs.Ytlndinigbppafaa
