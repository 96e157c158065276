/-
  No cell of these rows narrows 'for every input' (looked for: loops, veiled, ifaces, maps, wideKeys, modest, calm, conditions, laid).
  DERIVED. THE GIVEN ROWS OF THIS SEAT. 7 by the template 'for every input the law returns true; each argument reads behind the call as it read before'; 0 by the template 'total and deterministic' (their statements: YtlndinigbppafaaTotals.lean).
  GIVEN WITH THE SEED: the statements are not yours to turn. If you find one false, say at which input.
  Laid BY PROGRAM, IN A SANDBOX (cutbox-rows.mjs): the forced cells as the released guide's own fill.sh prints them over the translation e0611c10bfa89763… (all of the seat's roots in one cut). By AI agents, Wed Nov 11 2026. No macro, syntax, notation, axiom, sorry.
-/
import Derived.Test.YtlndinigbppafaaChecked
import GoSem.Claim
import GoSem.ClaimJoined
import GoSem.ClaimMapViews
import Derived.JoinedTies
import Derived.KernelRfl
namespace Go.Proofs.Ytlndinigbppafaa
/- THE CELL 'sum', in the pinned program and in every row, IS THE sha256 OF THE DUMP (.gsa) THAT YtlndinigbppafaaProg.lean LOADS. Nothing in Lean hashes anything: it is a label: what it is worth is what the hold of that sum in a sandbox is worth. -/
noncomputable def Try.pinned : Pinned := { name := "ytlndinigbppafaa", sum := "e0611c10bfa89763d156ca43bb9bb08b579f32f72d2986504a3565fa8e012026", checked := Try.checked }
namespace Rows
def none {H : Type} : Left H := { results := [], args := [] }

/-- 'stelelaw.Sums': WHATEVER THE INPUT: true; the input reads as it did. -/
def sumsSpec : ChangeSpec := { name := "sums", fn := fun _ => fun
  | [d] => { results := [.lit (.bool true)], args := [d] }
  | _ => none }
def sumsRow : OpenClaim := { program := "ytlndinigbppafaa", sum := "e0611c10bfa89763d156ca43bb9bb08b579f32f72d2986504a3565fa8e012026", func := "stele/stelelaw.Sums", spec := "sums", apart := false }
def SumsSaid : Prop := sumsRow.holds Try.pinned (OpenSpec.ofChange sumsSpec)

/-- ITS FALSE NEIGHBOUR: 'it returns false'. Refute it at one input. -/
def sumsWrong : ChangeSpec := { name := "sums", fn := fun _ => fun
  | [d] => { results := [.lit (.bool false)], args := [d] }
  | _ => none }
def SumsWrongFalsely : Prop := sumsRow.holds Try.pinned (OpenSpec.ofChange sumsWrong)

/-- 'stelelaw.Logs': WHATEVER THE INPUT: true; the input reads as it did. -/
def logsSpec : ChangeSpec := { name := "logs", fn := fun _ => fun
  | [d1, d2, d3] => { results := [.lit (.bool true)], args := [d1, d2, d3] }
  | _ => none }
def logsRow : OpenClaim := { program := "ytlndinigbppafaa", sum := "e0611c10bfa89763d156ca43bb9bb08b579f32f72d2986504a3565fa8e012026", func := "stele/stelelaw.Logs", spec := "logs", unfollowed := true, recurses := true, leaving := true, apart := false }
def LogsSaid : Prop := logsRow.holds Try.pinned (OpenSpec.ofChange logsSpec)

/-- ITS FALSE NEIGHBOUR: 'it returns false'. Refute it at one input. -/
def logsWrong : ChangeSpec := { name := "logs", fn := fun _ => fun
  | [d1, d2, d3] => { results := [.lit (.bool false)], args := [d1, d2, d3] }
  | _ => none }
def LogsWrongFalsely : Prop := logsRow.holds Try.pinned (OpenSpec.ofChange logsWrong)

/-- 'stelelaw.Proven': WHATEVER THE INPUT: true; the input reads as it did. -/
def provenSpec : ChangeSpec := { name := "proven", fn := fun _ => fun
  | [d1, d2] => { results := [.lit (.bool true)], args := [d1, d2] }
  | _ => none }
def provenRow : OpenClaim := { program := "ytlndinigbppafaa", sum := "e0611c10bfa89763d156ca43bb9bb08b579f32f72d2986504a3565fa8e012026", func := "stele/stelelaw.Proven", spec := "proven", unfollowed := true, recurses := true, leaving := true, apart := false }
def ProvenSaid : Prop := provenRow.holds Try.pinned (OpenSpec.ofChange provenSpec)

/-- ITS FALSE NEIGHBOUR: 'it returns false'. Refute it at one input. -/
def provenWrong : ChangeSpec := { name := "proven", fn := fun _ => fun
  | [d1, d2] => { results := [.lit (.bool false)], args := [d1, d2] }
  | _ => none }
def ProvenWrongFalsely : Prop := provenRow.holds Try.pinned (OpenSpec.ofChange provenWrong)

/-- 'stelelaw.Decodes': WHATEVER THE INPUT: true; the input reads as it did. -/
def decodesSpec : ChangeSpec := { name := "decodes", fn := fun _ => fun
  | [d] => { results := [.lit (.bool true)], args := [d] }
  | _ => none }
def decodesRow : OpenClaim := { program := "ytlndinigbppafaa", sum := "e0611c10bfa89763d156ca43bb9bb08b579f32f72d2986504a3565fa8e012026", func := "stele/stelelaw.Decodes", spec := "decodes", unfollowed := true, recurses := true, leaving := true, apart := false }
def DecodesSaid : Prop := decodesRow.holds Try.pinned (OpenSpec.ofChange decodesSpec)

/-- ITS FALSE NEIGHBOUR: 'it returns false'. Refute it at one input. -/
def decodesWrong : ChangeSpec := { name := "decodes", fn := fun _ => fun
  | [d] => { results := [.lit (.bool false)], args := [d] }
  | _ => none }
def DecodesWrongFalsely : Prop := decodesRow.holds Try.pinned (OpenSpec.ofChange decodesWrong)

/-- 'stelelaw.Encodes': WHATEVER THE INPUT: true; the input reads as it did. -/
def encodesSpec : ChangeSpec := { name := "encodes", fn := fun _ => fun
  | [d] => { results := [.lit (.bool true)], args := [d] }
  | _ => none }
def encodesRow : OpenClaim := { program := "ytlndinigbppafaa", sum := "e0611c10bfa89763d156ca43bb9bb08b579f32f72d2986504a3565fa8e012026", func := "stele/stelelaw.Encodes", spec := "encodes", unfollowed := true, recurses := true, leaving := true, apart := false }
def EncodesSaid : Prop := encodesRow.holds Try.pinned (OpenSpec.ofChange encodesSpec)

/-- ITS FALSE NEIGHBOUR: 'it returns false'. Refute it at one input. -/
def encodesWrong : ChangeSpec := { name := "encodes", fn := fun _ => fun
  | [d] => { results := [.lit (.bool false)], args := [d] }
  | _ => none }
def EncodesWrongFalsely : Prop := encodesRow.holds Try.pinned (OpenSpec.ofChange encodesWrong)

/-- 'stelekeep.Prefix': WHATEVER THE INPUT: true; the input reads as it did. -/
def prefixSpec : ChangeSpec := { name := "prefix", fn := fun _ => fun
  | [d1, d2, d3] => { results := [.lit (.bool true)], args := [d1, d2, d3] }
  | _ => none }
def prefixRow : OpenClaim := { program := "ytlndinigbppafaa", sum := "e0611c10bfa89763d156ca43bb9bb08b579f32f72d2986504a3565fa8e012026", func := "stele/stelekeep.Prefix", spec := "prefix", unfollowed := true, recurses := true, leaving := true, apart := false }
def PrefixSaid : Prop := prefixRow.holds Try.pinned (OpenSpec.ofChange prefixSpec)

/-- ITS FALSE NEIGHBOUR: 'it returns false'. Refute it at one input. -/
def prefixWrong : ChangeSpec := { name := "prefix", fn := fun _ => fun
  | [d1, d2, d3] => { results := [.lit (.bool false)], args := [d1, d2, d3] }
  | _ => none }
def PrefixWrongFalsely : Prop := prefixRow.holds Try.pinned (OpenSpec.ofChange prefixWrong)

/-- 'stelekeep.Canon': WHATEVER THE INPUT: true; the input reads as it did. -/
def canonSpec : ChangeSpec := { name := "canon", fn := fun _ => fun
  | [d1, d2, d3, d4, d5] => { results := [.lit (.bool true)], args := [d1, d2, d3, d4, d5] }
  | _ => none }
def canonRow : OpenClaim := { program := "ytlndinigbppafaa", sum := "e0611c10bfa89763d156ca43bb9bb08b579f32f72d2986504a3565fa8e012026", func := "stele/stelekeep.Canon", spec := "canon", unfollowed := true, recurses := true, leaving := true, apart := false }
def CanonSaid : Prop := canonRow.holds Try.pinned (OpenSpec.ofChange canonSpec)

/-- ITS FALSE NEIGHBOUR: 'it returns false'. Refute it at one input. -/
def canonWrong : ChangeSpec := { name := "canon", fn := fun _ => fun
  | [d1, d2, d3, d4, d5] => { results := [.lit (.bool false)], args := [d1, d2, d3, d4, d5] }
  | _ => none }
def CanonWrongFalsely : Prop := canonRow.holds Try.pinned (OpenSpec.ofChange canonWrong)

/- THE SECOND FORM. 'bulk': how many values and letters a reading holds, each counted each time it is reached (what is shared counts as often as it is met; a slice's spare places count too). A statement '..UptoSaid' is the law's where the arguments, and the package variables that the reading takes, are together of bulk at most 1048576: NARROWER than '..Said'. Prove '..Said' where nothing that the law and all that it calls make is longer than what came in: it says more and counts as full. Else prove '..UptoSaid'. A law counts once. -/
mutual
def uptoBulk {H : Type} : DataW H → Nat
  | .lit (.string bytes) => bytes.length + 1
  | .lit _ => 1
  | .nil => 1
  | .ptr d => uptoBulk d + 1
  | .slice elems spare => uptoBulkAll elems + uptoBulkAll spare + 1
  | .agg parts => uptoBulkAll parts + 1
  | .iface _ d => uptoBulk d + 1
  | .map entries => uptoBulkEntries entries + 1
  | .held _ => 1
def uptoBulkAll {H : Type} : List (DataW H) → Nat
  | [] => 0
  | d :: r => uptoBulk d + uptoBulkAll r
def uptoBulkEntries {H : Type} : List (Lit × DataW H) → Nat
  | [] => 0
  | x :: r => uptoBulkEntry x + uptoBulkEntries r
def uptoBulkEntry {H : Type} : Lit × DataW H → Nat
  | (.string bytes, d) => bytes.length + uptoBulk d + 1
  | (_, d) => uptoBulk d + 1
 end
def uptoSmall : (H : Type) → List (DataW H) → Bool := fun _ ds => decide (uptoBulkAll ds ≤ 1048576)
def OpenSpec.upto (s : _root_.Go.ChangeSpec) : _root_.Go.OpenSpec := { _root_.Go.OpenSpec.ofChange s with cond := some uptoSmall }

/-- 'stelelaw.Sums', WHERE WHAT IT READS IS OF BULK AT MOST 1048576: true; the input reads as it did. -/
def sumsUptoRow : OpenClaim := { program := "ytlndinigbppafaa", sum := "e0611c10bfa89763d156ca43bb9bb08b579f32f72d2986504a3565fa8e012026", func := "stele/stelelaw.Sums", spec := "sums", apart := false, narrowed := true }
def SumsUptoSaid : Prop := sumsUptoRow.holds Try.pinned (OpenSpec.upto sumsSpec)

/-- 'stelelaw.Logs', WHERE WHAT IT READS IS OF BULK AT MOST 1048576: true; the input reads as it did. -/
def logsUptoRow : OpenClaim := { program := "ytlndinigbppafaa", sum := "e0611c10bfa89763d156ca43bb9bb08b579f32f72d2986504a3565fa8e012026", func := "stele/stelelaw.Logs", spec := "logs", unfollowed := true, recurses := true, leaving := true, apart := false, narrowed := true }
def LogsUptoSaid : Prop := logsUptoRow.holds Try.pinned (OpenSpec.upto logsSpec)

/-- 'stelelaw.Proven', WHERE WHAT IT READS IS OF BULK AT MOST 1048576: true; the input reads as it did. -/
def provenUptoRow : OpenClaim := { program := "ytlndinigbppafaa", sum := "e0611c10bfa89763d156ca43bb9bb08b579f32f72d2986504a3565fa8e012026", func := "stele/stelelaw.Proven", spec := "proven", unfollowed := true, recurses := true, leaving := true, apart := false, narrowed := true }
def ProvenUptoSaid : Prop := provenUptoRow.holds Try.pinned (OpenSpec.upto provenSpec)

/-- 'stelelaw.Decodes', WHERE WHAT IT READS IS OF BULK AT MOST 1048576: true; the input reads as it did. -/
def decodesUptoRow : OpenClaim := { program := "ytlndinigbppafaa", sum := "e0611c10bfa89763d156ca43bb9bb08b579f32f72d2986504a3565fa8e012026", func := "stele/stelelaw.Decodes", spec := "decodes", unfollowed := true, recurses := true, leaving := true, apart := false, narrowed := true }
def DecodesUptoSaid : Prop := decodesUptoRow.holds Try.pinned (OpenSpec.upto decodesSpec)

/-- 'stelelaw.Encodes', WHERE WHAT IT READS IS OF BULK AT MOST 1048576: true; the input reads as it did. -/
def encodesUptoRow : OpenClaim := { program := "ytlndinigbppafaa", sum := "e0611c10bfa89763d156ca43bb9bb08b579f32f72d2986504a3565fa8e012026", func := "stele/stelelaw.Encodes", spec := "encodes", unfollowed := true, recurses := true, leaving := true, apart := false, narrowed := true }
def EncodesUptoSaid : Prop := encodesUptoRow.holds Try.pinned (OpenSpec.upto encodesSpec)

/-- 'stelekeep.Prefix', WHERE WHAT IT READS IS OF BULK AT MOST 1048576: true; the input reads as it did. -/
def prefixUptoRow : OpenClaim := { program := "ytlndinigbppafaa", sum := "e0611c10bfa89763d156ca43bb9bb08b579f32f72d2986504a3565fa8e012026", func := "stele/stelekeep.Prefix", spec := "prefix", unfollowed := true, recurses := true, leaving := true, apart := false, narrowed := true }
def PrefixUptoSaid : Prop := prefixUptoRow.holds Try.pinned (OpenSpec.upto prefixSpec)

/-- 'stelekeep.Canon', WHERE WHAT IT READS IS OF BULK AT MOST 1048576: true; the input reads as it did. -/
def canonUptoRow : OpenClaim := { program := "ytlndinigbppafaa", sum := "e0611c10bfa89763d156ca43bb9bb08b579f32f72d2986504a3565fa8e012026", func := "stele/stelekeep.Canon", spec := "canon", unfollowed := true, recurses := true, leaving := true, apart := false, narrowed := true }
def CanonUptoSaid : Prop := canonUptoRow.holds Try.pinned (OpenSpec.upto canonSpec)

end Rows
end Go.Proofs.Ytlndinigbppafaa
