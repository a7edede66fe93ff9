/-
  No cell of these rows narrows 'for every input' (looked for: loops, veiled, ifaces, maps, wideKeys, modest, calm, conditions, laid).
  DERIVED. THE GIVEN ROWS OF THIS SEAT. 6 by the template 'for every input the law returns true; each argument reads behind the call as it read before'; 0 by the template 'total and deterministic' (their statements: YteijemjbpfkghaaTotals.lean).
  GIVEN WITH THE SEED: the statements are not yours to turn. If you find one false, say at which input.
  Laid BY PROGRAM, IN A SANDBOX (cutbox-rows.mjs): the forced cells as the released guide's own fill.sh prints them over the translation 3ba8ced3ef84ee62… (all of the seat's roots in one cut). By AI agents, Wed Nov 11 2026. No macro, syntax, notation, axiom, sorry.
-/
import Derived.Test.YteijemjbpfkghaaChecked
import GoSem.Claim
import GoSem.ClaimJoined
import GoSem.ClaimMapViews
import Derived.JoinedTies
import Derived.KernelRfl
namespace Go.Proofs.Yteijemjbpfkghaa
/- THE CELL 'sum', in the pinned program and in every row, IS THE sha256 OF THE DUMP (.gsa) THAT YteijemjbpfkghaaProg.lean LOADS. Nothing in Lean hashes anything: it is a label: what it is worth is what the hold of that sum in a sandbox is worth. -/
noncomputable def Try.pinned : Pinned := { name := "yteijemjbpfkghaa", sum := "3ba8ced3ef84ee620c59ac539e5035b79a7abd21e021f5dca7e7fcd29871b35f", checked := Try.checked }
namespace Rows
def none {H : Type} : Left H := { results := [], args := [] }

/-- 'weighbridgelaw06.UdpBuilds': WHATEVER THE INPUT: true; the input reads as it did. -/
def udpBuildsSpec : ChangeSpec := { name := "udpBuilds", fn := fun _ => fun
  | [d1, d2, d3] => { results := [.lit (.bool true)], args := [d1, d2, d3] }
  | _ => none }
def udpBuildsRow : OpenClaim := { program := "yteijemjbpfkghaa", sum := "3ba8ced3ef84ee620c59ac539e5035b79a7abd21e021f5dca7e7fcd29871b35f", func := "weighbridge/weighbridgelaw06.UdpBuilds", spec := "udpBuilds", apart := false }
def UdpBuildsSaid : Prop := udpBuildsRow.holds Try.pinned (OpenSpec.ofChange udpBuildsSpec)

/-- ITS FALSE NEIGHBOUR: 'it returns false'. Refute it at one input. -/
def udpBuildsWrong : ChangeSpec := { name := "udpBuilds", fn := fun _ => fun
  | [d1, d2, d3] => { results := [.lit (.bool false)], args := [d1, d2, d3] }
  | _ => none }
def UdpBuildsWrongFalsely : Prop := udpBuildsRow.holds Try.pinned (OpenSpec.ofChange udpBuildsWrong)

/-- 'weighbridgelaw06.UdpParses': WHATEVER THE INPUT: true; the input reads as it did. -/
def udpParsesSpec : ChangeSpec := { name := "udpParses", fn := fun _ => fun
  | [d] => { results := [.lit (.bool true)], args := [d] }
  | _ => none }
def udpParsesRow : OpenClaim := { program := "yteijemjbpfkghaa", sum := "3ba8ced3ef84ee620c59ac539e5035b79a7abd21e021f5dca7e7fcd29871b35f", func := "weighbridge/weighbridgelaw06.UdpParses", spec := "udpParses", apart := false }
def UdpParsesSaid : Prop := udpParsesRow.holds Try.pinned (OpenSpec.ofChange udpParsesSpec)

/-- ITS FALSE NEIGHBOUR: 'it returns false'. Refute it at one input. -/
def udpParsesWrong : ChangeSpec := { name := "udpParses", fn := fun _ => fun
  | [d] => { results := [.lit (.bool false)], args := [d] }
  | _ => none }
def UdpParsesWrongFalsely : Prop := udpParsesRow.holds Try.pinned (OpenSpec.ofChange udpParsesWrong)

/-- 'weighbridgelaw06.UdpBack': WHATEVER THE INPUT: true; the input reads as it did. -/
def udpBackSpec : ChangeSpec := { name := "udpBack", fn := fun _ => fun
  | [d1, d2, d3, d4, d5] => { results := [.lit (.bool true)], args := [d1, d2, d3, d4, d5] }
  | _ => none }
def udpBackRow : OpenClaim := { program := "yteijemjbpfkghaa", sum := "3ba8ced3ef84ee620c59ac539e5035b79a7abd21e021f5dca7e7fcd29871b35f", func := "weighbridge/weighbridgelaw06.UdpBack", spec := "udpBack", apart := false }
def UdpBackSaid : Prop := udpBackRow.holds Try.pinned (OpenSpec.ofChange udpBackSpec)

/-- ITS FALSE NEIGHBOUR: 'it returns false'. Refute it at one input. -/
def udpBackWrong : ChangeSpec := { name := "udpBack", fn := fun _ => fun
  | [d1, d2, d3, d4, d5] => { results := [.lit (.bool false)], args := [d1, d2, d3, d4, d5] }
  | _ => none }
def UdpBackWrongFalsely : Prop := udpBackRow.holds Try.pinned (OpenSpec.ofChange udpBackWrong)

/-- 'weighbridgelaw06.UdpLong': WHATEVER THE INPUT: true; the input reads as it did. -/
def udpLongSpec : ChangeSpec := { name := "udpLong", fn := fun _ => fun
  | [d1, d2] => { results := [.lit (.bool true)], args := [d1, d2] }
  | _ => none }
def udpLongRow : OpenClaim := { program := "yteijemjbpfkghaa", sum := "3ba8ced3ef84ee620c59ac539e5035b79a7abd21e021f5dca7e7fcd29871b35f", func := "weighbridge/weighbridgelaw06.UdpLong", spec := "udpLong", apart := false }
def UdpLongSaid : Prop := udpLongRow.holds Try.pinned (OpenSpec.ofChange udpLongSpec)

/-- ITS FALSE NEIGHBOUR: 'it returns false'. Refute it at one input. -/
def udpLongWrong : ChangeSpec := { name := "udpLong", fn := fun _ => fun
  | [d1, d2] => { results := [.lit (.bool false)], args := [d1, d2] }
  | _ => none }
def UdpLongWrongFalsely : Prop := udpLongRow.holds Try.pinned (OpenSpec.ofChange udpLongWrong)

/-- 'weighbridgelaw06.UdpLength': WHATEVER THE INPUT: true; the input reads as it did. -/
def udpLengthSpec : ChangeSpec := { name := "udpLength", fn := fun _ => fun
  | [d1, d2] => { results := [.lit (.bool true)], args := [d1, d2] }
  | _ => none }
def udpLengthRow : OpenClaim := { program := "yteijemjbpfkghaa", sum := "3ba8ced3ef84ee620c59ac539e5035b79a7abd21e021f5dca7e7fcd29871b35f", func := "weighbridge/weighbridgelaw06.UdpLength", spec := "udpLength", apart := false }
def UdpLengthSaid : Prop := udpLengthRow.holds Try.pinned (OpenSpec.ofChange udpLengthSpec)

/-- ITS FALSE NEIGHBOUR: 'it returns false'. Refute it at one input. -/
def udpLengthWrong : ChangeSpec := { name := "udpLength", fn := fun _ => fun
  | [d1, d2] => { results := [.lit (.bool false)], args := [d1, d2] }
  | _ => none }
def UdpLengthWrongFalsely : Prop := udpLengthRow.holds Try.pinned (OpenSpec.ofChange udpLengthWrong)

/-- 'weighbridgelaw06.UdpPorts': WHATEVER THE INPUT: true; the input reads as it did. -/
def udpPortsSpec : ChangeSpec := { name := "udpPorts", fn := fun _ => fun
  | [d1, d2, d3, d4] => { results := [.lit (.bool true)], args := [d1, d2, d3, d4] }
  | _ => none }
def udpPortsRow : OpenClaim := { program := "yteijemjbpfkghaa", sum := "3ba8ced3ef84ee620c59ac539e5035b79a7abd21e021f5dca7e7fcd29871b35f", func := "weighbridge/weighbridgelaw06.UdpPorts", spec := "udpPorts", apart := false }
def UdpPortsSaid : Prop := udpPortsRow.holds Try.pinned (OpenSpec.ofChange udpPortsSpec)

/-- ITS FALSE NEIGHBOUR: 'it returns false'. Refute it at one input. -/
def udpPortsWrong : ChangeSpec := { name := "udpPorts", fn := fun _ => fun
  | [d1, d2, d3, d4] => { results := [.lit (.bool false)], args := [d1, d2, d3, d4] }
  | _ => none }
def UdpPortsWrongFalsely : Prop := udpPortsRow.holds Try.pinned (OpenSpec.ofChange udpPortsWrong)

/- THE SECOND FORM. 'bulk': how many values and letters a reading holds, each counted each time it is reached (what is shared counts as often as it is met; a slice's spare places count too). A statement '..UptoSaid' is the law's where the arguments, and the package variables that the reading takes, are together of bulk at most 1048576: NARROWER than '..Said'. Prove '..Said' where nothing that the law and all that it calls make is longer than what came in: it says more and counts as full. Else prove '..UptoSaid'. A law counts once. -/
mutual
def uptoBulk {H : Type} : DataW H → Nat
  | .lit (.string bytes) => bytes.length + 1
  | .lit _ => 1
  | .nil => 1
  | .ptr d => uptoBulk d + 1
  | .slice elems spare => uptoBulkAll elems + uptoBulkAll spare + 1
  | .agg parts => uptoBulkAll parts + 1
  | .iface _ d => uptoBulk d + 1
  | .map entries => uptoBulkEntries entries + 1
  | .held _ => 1
def uptoBulkAll {H : Type} : List (DataW H) → Nat
  | [] => 0
  | d :: r => uptoBulk d + uptoBulkAll r
def uptoBulkEntries {H : Type} : List (Lit × DataW H) → Nat
  | [] => 0
  | x :: r => uptoBulkEntry x + uptoBulkEntries r
def uptoBulkEntry {H : Type} : Lit × DataW H → Nat
  | (.string bytes, d) => bytes.length + uptoBulk d + 1
  | (_, d) => uptoBulk d + 1
 end
def uptoSmall : (H : Type) → List (DataW H) → Bool := fun _ ds => decide (uptoBulkAll ds ≤ 1048576)
def OpenSpec.upto (s : _root_.Go.ChangeSpec) : _root_.Go.OpenSpec := { _root_.Go.OpenSpec.ofChange s with cond := some uptoSmall }

/-- 'weighbridgelaw06.UdpBuilds', WHERE WHAT IT READS IS OF BULK AT MOST 1048576: true; the input reads as it did. -/
def udpBuildsUptoRow : OpenClaim := { program := "yteijemjbpfkghaa", sum := "3ba8ced3ef84ee620c59ac539e5035b79a7abd21e021f5dca7e7fcd29871b35f", func := "weighbridge/weighbridgelaw06.UdpBuilds", spec := "udpBuilds", apart := false, narrowed := true }
def UdpBuildsUptoSaid : Prop := udpBuildsUptoRow.holds Try.pinned (OpenSpec.upto udpBuildsSpec)

/-- 'weighbridgelaw06.UdpParses', WHERE WHAT IT READS IS OF BULK AT MOST 1048576: true; the input reads as it did. -/
def udpParsesUptoRow : OpenClaim := { program := "yteijemjbpfkghaa", sum := "3ba8ced3ef84ee620c59ac539e5035b79a7abd21e021f5dca7e7fcd29871b35f", func := "weighbridge/weighbridgelaw06.UdpParses", spec := "udpParses", apart := false, narrowed := true }
def UdpParsesUptoSaid : Prop := udpParsesUptoRow.holds Try.pinned (OpenSpec.upto udpParsesSpec)

/-- 'weighbridgelaw06.UdpBack', WHERE WHAT IT READS IS OF BULK AT MOST 1048576: true; the input reads as it did. -/
def udpBackUptoRow : OpenClaim := { program := "yteijemjbpfkghaa", sum := "3ba8ced3ef84ee620c59ac539e5035b79a7abd21e021f5dca7e7fcd29871b35f", func := "weighbridge/weighbridgelaw06.UdpBack", spec := "udpBack", apart := false, narrowed := true }
def UdpBackUptoSaid : Prop := udpBackUptoRow.holds Try.pinned (OpenSpec.upto udpBackSpec)

/-- 'weighbridgelaw06.UdpLong', WHERE WHAT IT READS IS OF BULK AT MOST 1048576: true; the input reads as it did. -/
def udpLongUptoRow : OpenClaim := { program := "yteijemjbpfkghaa", sum := "3ba8ced3ef84ee620c59ac539e5035b79a7abd21e021f5dca7e7fcd29871b35f", func := "weighbridge/weighbridgelaw06.UdpLong", spec := "udpLong", apart := false, narrowed := true }
def UdpLongUptoSaid : Prop := udpLongUptoRow.holds Try.pinned (OpenSpec.upto udpLongSpec)

/-- 'weighbridgelaw06.UdpLength', WHERE WHAT IT READS IS OF BULK AT MOST 1048576: true; the input reads as it did. -/
def udpLengthUptoRow : OpenClaim := { program := "yteijemjbpfkghaa", sum := "3ba8ced3ef84ee620c59ac539e5035b79a7abd21e021f5dca7e7fcd29871b35f", func := "weighbridge/weighbridgelaw06.UdpLength", spec := "udpLength", apart := false, narrowed := true }
def UdpLengthUptoSaid : Prop := udpLengthUptoRow.holds Try.pinned (OpenSpec.upto udpLengthSpec)

/-- 'weighbridgelaw06.UdpPorts', WHERE WHAT IT READS IS OF BULK AT MOST 1048576: true; the input reads as it did. -/
def udpPortsUptoRow : OpenClaim := { program := "yteijemjbpfkghaa", sum := "3ba8ced3ef84ee620c59ac539e5035b79a7abd21e021f5dca7e7fcd29871b35f", func := "weighbridge/weighbridgelaw06.UdpPorts", spec := "udpPorts", apart := false, narrowed := true }
def UdpPortsUptoSaid : Prop := udpPortsUptoRow.holds Try.pinned (OpenSpec.upto udpPortsSpec)

end Rows
end Go.Proofs.Yteijemjbpfkghaa
