/-
  No cell of these rows narrows 'for every input' (looked for: loops, veiled, ifaces, maps, wideKeys, modest, calm, conditions, laid).
  DERIVED. THE GIVEN ROWS OF THIS SEAT. 7 by the template 'for every input the law returns true; each argument reads behind the call as it read before'; 0 by the template 'total and deterministic' (their statements: YtlndinigbppafaaGreatTotals.lean).
  GIVEN WITH THE SEED: the statements are not yours to turn. If you find one false, say at which input.
  Laid BY PROGRAM, IN A SANDBOX (cutbox-rows.mjs): the forced cells as the released guide's own fill.sh prints them over the translation 50d3a7bf14c476cc… (all of the seat's roots in one cut). By AI agents, Wed Nov 11 2026. No macro, syntax, notation, axiom, sorry.
-/
import Derived.Test.YtlndinigbppafaaGreatChecked
import GoSem.Claim
import GoSem.ClaimJoined
import GoSem.ClaimMapViews
import Derived.JoinedTies
import Derived.KernelRfl
namespace Go.Proofs.YtlndinigbppafaaGreat
/- THE CELL 'sum', in the pinned program and in every row, IS THE sha256 OF THE DUMP (.gsa) THAT YtlndinigbppafaaGreatProg.lean LOADS. Nothing in Lean hashes anything: it is a label: what it is worth is what the hold of that sum in a sandbox is worth. -/
noncomputable def Tryz.pinned : Pinned := { name := "ytlndinigbppafaagreat", sum := "50d3a7bf14c476cc6bb40bfd024b07b9708135aeb2b1730f8ee35f0adce9b2b6", checked := Tryz.checked }
namespace Rows
def none {H : Type} : Left H := { results := [], args := [] }

/-- 'stelelaw.Audits': WHATEVER THE INPUT: true; the input reads as it did. -/
def auditsSpec : ChangeSpec := { name := "audits", fn := fun _ => fun
  | [d] => { results := [.lit (.bool true)], args := [d] }
  | _ => none }
def auditsRow : OpenClaim := { program := "ytlndinigbppafaagreat", sum := "50d3a7bf14c476cc6bb40bfd024b07b9708135aeb2b1730f8ee35f0adce9b2b6", func := "stele/stelelaw.Audits", spec := "audits", inPlace := ["slices.overlaps[stele/twins.family]", "slices.overlaps[string]", "internal/bytealg.abigen_runtime_cmpstring", "slices.overlaps[stele/api.Entry]"], unfollowed := true, recurses := true, leaving := true, apart := false }
def AuditsSaid : Prop := auditsRow.holds Tryz.pinned (OpenSpec.ofChange auditsSpec)

/-- ITS FALSE NEIGHBOUR: 'it returns false'. Refute it at one input. -/
def auditsWrong : ChangeSpec := { name := "audits", fn := fun _ => fun
  | [d] => { results := [.lit (.bool false)], args := [d] }
  | _ => none }
def AuditsWrongFalsely : Prop := auditsRow.holds Tryz.pinned (OpenSpec.ofChange auditsWrong)

/-- 'stelelaw.Unmade': WHATEVER THE INPUT: true; the input reads as it did. -/
def unmadeSpec : ChangeSpec := { name := "unmade", fn := fun _ => fun
  | [] => { results := [.lit (.bool true)], args := [] }
  | _ => none }
def unmadeRow : OpenClaim := { program := "ytlndinigbppafaagreat", sum := "50d3a7bf14c476cc6bb40bfd024b07b9708135aeb2b1730f8ee35f0adce9b2b6", func := "stele/stelelaw.Unmade", spec := "unmade", inPlace := ["slices.overlaps[stele/twins.family]", "slices.overlaps[string]", "internal/bytealg.abigen_runtime_cmpstring", "slices.overlaps[stele/api.Entry]"], unfollowed := true, recurses := true, leaving := true, apart := false }
def UnmadeSaid : Prop := unmadeRow.holds Tryz.pinned (OpenSpec.ofChange unmadeSpec)

/-- ITS FALSE NEIGHBOUR: 'it returns false'. Refute it at one input. -/
def unmadeWrong : ChangeSpec := { name := "unmade", fn := fun _ => fun
  | [] => { results := [.lit (.bool false)], args := [] }
  | _ => none }
def UnmadeWrongFalsely : Prop := unmadeRow.holds Tryz.pinned (OpenSpec.ofChange unmadeWrong)

/-- 'stelelaw.All': WHATEVER THE INPUT: true; the input reads as it did. -/
def allSpec : ChangeSpec := { name := "all", fn := fun _ => fun
  | [d] => { results := [.lit (.bool true)], args := [d] }
  | _ => none }
def allRow : OpenClaim := { program := "ytlndinigbppafaagreat", sum := "50d3a7bf14c476cc6bb40bfd024b07b9708135aeb2b1730f8ee35f0adce9b2b6", func := "stele/stelelaw.All", spec := "all", inPlace := ["slices.overlaps[stele/twins.family]", "slices.overlaps[string]", "internal/bytealg.abigen_runtime_cmpstring", "slices.overlaps[stele/api.Entry]"], unfollowed := true, recurses := true, leaving := true, apart := false }
def AllSaid : Prop := allRow.holds Tryz.pinned (OpenSpec.ofChange allSpec)

/-- ITS FALSE NEIGHBOUR: 'it returns false'. Refute it at one input. -/
def allWrong : ChangeSpec := { name := "all", fn := fun _ => fun
  | [d] => { results := [.lit (.bool false)], args := [d] }
  | _ => none }
def AllWrongFalsely : Prop := allRow.holds Tryz.pinned (OpenSpec.ofChange allWrong)

/-- 'stelekeep.Honest': WHATEVER THE INPUT: true; the input reads as it did. -/
def honestSpec : ChangeSpec := { name := "honest", fn := fun _ => fun
  | [d1, d2, d3, d4] => { results := [.lit (.bool true)], args := [d1, d2, d3, d4] }
  | _ => none }
def honestRow : OpenClaim := { program := "ytlndinigbppafaagreat", sum := "50d3a7bf14c476cc6bb40bfd024b07b9708135aeb2b1730f8ee35f0adce9b2b6", func := "stele/stelekeep.Honest", spec := "honest", inPlace := ["slices.overlaps[stele/twins.family]", "slices.overlaps[string]", "internal/bytealg.abigen_runtime_cmpstring", "slices.overlaps[stele/api.Entry]"], unfollowed := true, recurses := true, leaving := true, apart := false }
def HonestSaid : Prop := honestRow.holds Tryz.pinned (OpenSpec.ofChange honestSpec)

/-- ITS FALSE NEIGHBOUR: 'it returns false'. Refute it at one input. -/
def honestWrong : ChangeSpec := { name := "honest", fn := fun _ => fun
  | [d1, d2, d3, d4] => { results := [.lit (.bool false)], args := [d1, d2, d3, d4] }
  | _ => none }
def HonestWrongFalsely : Prop := honestRow.holds Tryz.pinned (OpenSpec.ofChange honestWrong)

/-- 'stelekeep.Sound': WHATEVER THE INPUT: true; the input reads as it did. -/
def soundSpec : ChangeSpec := { name := "sound", fn := fun _ => fun
  | [d] => { results := [.lit (.bool true)], args := [d] }
  | _ => none }
def soundRow : OpenClaim := { program := "ytlndinigbppafaagreat", sum := "50d3a7bf14c476cc6bb40bfd024b07b9708135aeb2b1730f8ee35f0adce9b2b6", func := "stele/stelekeep.Sound", spec := "sound", inPlace := ["slices.overlaps[stele/twins.family]", "slices.overlaps[string]", "internal/bytealg.abigen_runtime_cmpstring", "slices.overlaps[stele/api.Entry]"], unfollowed := true, recurses := true, leaving := true, apart := false }
def SoundSaid : Prop := soundRow.holds Tryz.pinned (OpenSpec.ofChange soundSpec)

/-- ITS FALSE NEIGHBOUR: 'it returns false'. Refute it at one input. -/
def soundWrong : ChangeSpec := { name := "sound", fn := fun _ => fun
  | [d] => { results := [.lit (.bool false)], args := [d] }
  | _ => none }
def SoundWrongFalsely : Prop := soundRow.holds Tryz.pinned (OpenSpec.ofChange soundWrong)

/-- 'stelekeep.Liar': WHATEVER THE INPUT: true; the input reads as it did. -/
def liarSpec : ChangeSpec := { name := "liar", fn := fun _ => fun
  | [d1, d2, d3, d4] => { results := [.lit (.bool true)], args := [d1, d2, d3, d4] }
  | _ => none }
def liarRow : OpenClaim := { program := "ytlndinigbppafaagreat", sum := "50d3a7bf14c476cc6bb40bfd024b07b9708135aeb2b1730f8ee35f0adce9b2b6", func := "stele/stelekeep.Liar", spec := "liar", inPlace := ["slices.overlaps[stele/twins.family]", "slices.overlaps[string]", "internal/bytealg.abigen_runtime_cmpstring", "slices.overlaps[stele/api.Entry]"], unfollowed := true, recurses := true, leaving := true, apart := false }
def LiarSaid : Prop := liarRow.holds Tryz.pinned (OpenSpec.ofChange liarSpec)

/-- ITS FALSE NEIGHBOUR: 'it returns false'. Refute it at one input. -/
def liarWrong : ChangeSpec := { name := "liar", fn := fun _ => fun
  | [d1, d2, d3, d4] => { results := [.lit (.bool false)], args := [d1, d2, d3, d4] }
  | _ => none }
def LiarWrongFalsely : Prop := liarRow.holds Tryz.pinned (OpenSpec.ofChange liarWrong)

/-- 'stelekeep.Caught': WHATEVER THE INPUT: true; the input reads as it did. -/
def caughtSpec : ChangeSpec := { name := "caught", fn := fun _ => fun
  | [d1, d2, d3, d4, d5] => { results := [.lit (.bool true)], args := [d1, d2, d3, d4, d5] }
  | _ => none }
def caughtRow : OpenClaim := { program := "ytlndinigbppafaagreat", sum := "50d3a7bf14c476cc6bb40bfd024b07b9708135aeb2b1730f8ee35f0adce9b2b6", func := "stele/stelekeep.Caught", spec := "caught", inPlace := ["slices.overlaps[stele/twins.family]", "slices.overlaps[string]", "internal/bytealg.abigen_runtime_cmpstring", "slices.overlaps[stele/api.Entry]"], unfollowed := true, recurses := true, leaving := true, apart := false }
def CaughtSaid : Prop := caughtRow.holds Tryz.pinned (OpenSpec.ofChange caughtSpec)

/-- ITS FALSE NEIGHBOUR: 'it returns false'. Refute it at one input. -/
def caughtWrong : ChangeSpec := { name := "caught", fn := fun _ => fun
  | [d1, d2, d3, d4, d5] => { results := [.lit (.bool false)], args := [d1, d2, d3, d4, d5] }
  | _ => none }
def CaughtWrongFalsely : Prop := caughtRow.holds Tryz.pinned (OpenSpec.ofChange caughtWrong)

/- THE SECOND FORM. 'bulk': how many values and letters a reading holds, each counted each time it is reached (what is shared counts as often as it is met; a slice's spare places count too). A statement '..UptoSaid' is the law's where the arguments, and the package variables that the reading takes, are together of bulk at most 1048576: NARROWER than '..Said'. Prove '..Said' where nothing that the law and all that it calls make is longer than what came in: it says more and counts as full. Else prove '..UptoSaid'. A law counts once. -/
mutual
def uptoBulk {H : Type} : DataW H → Nat
  | .lit (.string bytes) => bytes.length + 1
  | .lit _ => 1
  | .nil => 1
  | .ptr d => uptoBulk d + 1
  | .slice elems spare => uptoBulkAll elems + uptoBulkAll spare + 1
  | .agg parts => uptoBulkAll parts + 1
  | .iface _ d => uptoBulk d + 1
  | .map entries => uptoBulkEntries entries + 1
  | .held _ => 1
def uptoBulkAll {H : Type} : List (DataW H) → Nat
  | [] => 0
  | d :: r => uptoBulk d + uptoBulkAll r
def uptoBulkEntries {H : Type} : List (Lit × DataW H) → Nat
  | [] => 0
  | x :: r => uptoBulkEntry x + uptoBulkEntries r
def uptoBulkEntry {H : Type} : Lit × DataW H → Nat
  | (.string bytes, d) => bytes.length + uptoBulk d + 1
  | (_, d) => uptoBulk d + 1
 end
def uptoSmall : (H : Type) → List (DataW H) → Bool := fun _ ds => decide (uptoBulkAll ds ≤ 1048576)
def OpenSpec.upto (s : _root_.Go.ChangeSpec) : _root_.Go.OpenSpec := { _root_.Go.OpenSpec.ofChange s with cond := some uptoSmall }

/-- 'stelelaw.Audits', WHERE WHAT IT READS IS OF BULK AT MOST 1048576: true; the input reads as it did. -/
def auditsUptoRow : OpenClaim := { program := "ytlndinigbppafaagreat", sum := "50d3a7bf14c476cc6bb40bfd024b07b9708135aeb2b1730f8ee35f0adce9b2b6", func := "stele/stelelaw.Audits", spec := "audits", inPlace := ["slices.overlaps[stele/twins.family]", "slices.overlaps[string]", "internal/bytealg.abigen_runtime_cmpstring", "slices.overlaps[stele/api.Entry]"], unfollowed := true, recurses := true, leaving := true, apart := false, narrowed := true }
def AuditsUptoSaid : Prop := auditsUptoRow.holds Tryz.pinned (OpenSpec.upto auditsSpec)

/-- 'stelelaw.Unmade', WHERE WHAT IT READS IS OF BULK AT MOST 1048576: true; the input reads as it did. -/
def unmadeUptoRow : OpenClaim := { program := "ytlndinigbppafaagreat", sum := "50d3a7bf14c476cc6bb40bfd024b07b9708135aeb2b1730f8ee35f0adce9b2b6", func := "stele/stelelaw.Unmade", spec := "unmade", inPlace := ["slices.overlaps[stele/twins.family]", "slices.overlaps[string]", "internal/bytealg.abigen_runtime_cmpstring", "slices.overlaps[stele/api.Entry]"], unfollowed := true, recurses := true, leaving := true, apart := false, narrowed := true }
def UnmadeUptoSaid : Prop := unmadeUptoRow.holds Tryz.pinned (OpenSpec.upto unmadeSpec)

/-- 'stelelaw.All', WHERE WHAT IT READS IS OF BULK AT MOST 1048576: true; the input reads as it did. -/
def allUptoRow : OpenClaim := { program := "ytlndinigbppafaagreat", sum := "50d3a7bf14c476cc6bb40bfd024b07b9708135aeb2b1730f8ee35f0adce9b2b6", func := "stele/stelelaw.All", spec := "all", inPlace := ["slices.overlaps[stele/twins.family]", "slices.overlaps[string]", "internal/bytealg.abigen_runtime_cmpstring", "slices.overlaps[stele/api.Entry]"], unfollowed := true, recurses := true, leaving := true, apart := false, narrowed := true }
def AllUptoSaid : Prop := allUptoRow.holds Tryz.pinned (OpenSpec.upto allSpec)

/-- 'stelekeep.Honest', WHERE WHAT IT READS IS OF BULK AT MOST 1048576: true; the input reads as it did. -/
def honestUptoRow : OpenClaim := { program := "ytlndinigbppafaagreat", sum := "50d3a7bf14c476cc6bb40bfd024b07b9708135aeb2b1730f8ee35f0adce9b2b6", func := "stele/stelekeep.Honest", spec := "honest", inPlace := ["slices.overlaps[stele/twins.family]", "slices.overlaps[string]", "internal/bytealg.abigen_runtime_cmpstring", "slices.overlaps[stele/api.Entry]"], unfollowed := true, recurses := true, leaving := true, apart := false, narrowed := true }
def HonestUptoSaid : Prop := honestUptoRow.holds Tryz.pinned (OpenSpec.upto honestSpec)

/-- 'stelekeep.Sound', WHERE WHAT IT READS IS OF BULK AT MOST 1048576: true; the input reads as it did. -/
def soundUptoRow : OpenClaim := { program := "ytlndinigbppafaagreat", sum := "50d3a7bf14c476cc6bb40bfd024b07b9708135aeb2b1730f8ee35f0adce9b2b6", func := "stele/stelekeep.Sound", spec := "sound", inPlace := ["slices.overlaps[stele/twins.family]", "slices.overlaps[string]", "internal/bytealg.abigen_runtime_cmpstring", "slices.overlaps[stele/api.Entry]"], unfollowed := true, recurses := true, leaving := true, apart := false, narrowed := true }
def SoundUptoSaid : Prop := soundUptoRow.holds Tryz.pinned (OpenSpec.upto soundSpec)

/-- 'stelekeep.Liar', WHERE WHAT IT READS IS OF BULK AT MOST 1048576: true; the input reads as it did. -/
def liarUptoRow : OpenClaim := { program := "ytlndinigbppafaagreat", sum := "50d3a7bf14c476cc6bb40bfd024b07b9708135aeb2b1730f8ee35f0adce9b2b6", func := "stele/stelekeep.Liar", spec := "liar", inPlace := ["slices.overlaps[stele/twins.family]", "slices.overlaps[string]", "internal/bytealg.abigen_runtime_cmpstring", "slices.overlaps[stele/api.Entry]"], unfollowed := true, recurses := true, leaving := true, apart := false, narrowed := true }
def LiarUptoSaid : Prop := liarUptoRow.holds Tryz.pinned (OpenSpec.upto liarSpec)

/-- 'stelekeep.Caught', WHERE WHAT IT READS IS OF BULK AT MOST 1048576: true; the input reads as it did. -/
def caughtUptoRow : OpenClaim := { program := "ytlndinigbppafaagreat", sum := "50d3a7bf14c476cc6bb40bfd024b07b9708135aeb2b1730f8ee35f0adce9b2b6", func := "stele/stelekeep.Caught", spec := "caught", inPlace := ["slices.overlaps[stele/twins.family]", "slices.overlaps[string]", "internal/bytealg.abigen_runtime_cmpstring", "slices.overlaps[stele/api.Entry]"], unfollowed := true, recurses := true, leaving := true, apart := false, narrowed := true }
def CaughtUptoSaid : Prop := caughtUptoRow.holds Tryz.pinned (OpenSpec.upto caughtSpec)

end Rows
end Go.Proofs.YtlndinigbppafaaGreat
