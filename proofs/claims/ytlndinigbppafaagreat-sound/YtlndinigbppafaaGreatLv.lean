/-
  A call that starts no goroutine meets what is asked of one that may: nobody else is there at the return.
-/
import Derived.Test.YtlndinigbppafaaGreatSm
import Derived.Conc.Holds
import Derived.ProofKit
import Derived.SizedLaws
namespace Go.Proofs.YtlndinigbppafaaGreat
open Go.Conc

theorem leaves_of_done {P : Program} {m : Machine} (h : m.othersDone = true) : ∀ g ∈ m.gs.toList.drop 1, g.Leaves P := by
  intro g hg
  refine ⟨0, ?_⟩
  unfold Machine.othersDone at h
  simp only [List.all_eq_true] at h
  have := h g hg
  show g.status = .finished
  revert this
  cases g.status <;> simp

theorem leaving_of_handed {a : Assume} {C : Checked} {os : Os} {f : FuncId} {r : Reach} {Pre : World → Array Value → Prop} {Post : World → Array Value → Value → World → Prop}
    (h : ReturnsInHanded a C os f r Pre Post) : ReturnsInLeavingWide a C os f r Pre Post :=
  fun enter => ReturnsInOpen.mono (fun _ _ _ x => ⟨x.2.1, ⟨leaves_of_done x.1.1, x.1.2⟩, x.2.2⟩) (fun _ x => x) (h enter)
end Go.Proofs.YtlndinigbppafaaGreat
