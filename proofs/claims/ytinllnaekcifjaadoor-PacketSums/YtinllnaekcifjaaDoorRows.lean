/-
  NARROWER THAN 'FOR EVERY INPUT', by the rows' own cells (each row's printed sentence says how): PacketKeys: laid · PacketBack: laid · PacketTells: laid · PacketParts: laid · PacketSums: laid.
  DERIVED. THE GIVEN ROWS OF THIS SEAT. 5 by the template 'for every input the law returns true; each argument reads behind the call as it read before'; 0 by the template 'total and deterministic' (their statements: YtinllnaekcifjaaDoorTotals.lean).
  GIVEN WITH THE SEED: the statements are not yours to turn. If you find one false, say at which input.
  Laid BY PROGRAM, IN A SANDBOX (cutbox-rows.mjs): the forced cells as the released guide's own fill.sh prints them over the translation 64667f37d087ad6e… (all of the seat's roots in one cut). By AI agents, Wed Nov 11 2026. No macro, syntax, notation, axiom, sorry.
-/
import Derived.Test.YtinllnaekcifjaaDoorChecked
import GoSem.Claim
import GoSem.ClaimJoined
import GoSem.ClaimMapViews
import Derived.JoinedTies
import Derived.KernelRfl
namespace Go.Proofs.YtinllnaekcifjaaDoor
/- THE CELL 'sum', in the pinned program and in every row, IS THE sha256 OF THE DUMP (.gsa) THAT YtinllnaekcifjaaDoorProg.lean LOADS. Nothing in Lean hashes anything: it is a label: what it is worth is what the hold of that sum in a sandbox is worth. -/
noncomputable def Tryd.pinned : Pinned := { name := "ytinllnaekcifjaadoor", sum := "64667f37d087ad6e11e9a5f5af81595b408fe7f0e8f18bd55a9254f865d11880", checked := Tryd.checked }
namespace Rows
def none {H : Type} : Left H := { results := [], args := [] }

/- WHAT THE LISTED PACKAGE-LEVEL VARIABLES READ AS WHEN THE CALL BEGINS. Each datum BY PROGRAM (the guide's laid-datum.mjs) off the statement by which the dump's own 'gosem.cut.vars' lays the variable. In a bare row this is a premise. The card (YtinllnaekcifjaaDoorCards.lean) ties it to the program's text. -/
def laid_weighbridge_icmp_unreachable {H : Type} : DataW H := .agg [.lit (.int .i64 3), .lit (.int .i64 0)]
def laid_weighbridge_icmp_timeExceeded {H : Type} : DataW H := .agg [.lit (.int .i64 11), .lit (.int .i64 0)]
def laid_weighbridge_icmp_parameterProblem {H : Type} : DataW H := .agg [.lit (.int .i64 12), .lit (.int .i64 0)]

/-- 'weighbridgelaw09.PacketKeys': WHATEVER THE INPUT: true; the input reads as it did. -/
def packetKeysSpec : ChangeSpec := { name := "packetKeys", fn := fun _ => fun
  | [d] => { results := [.lit (.bool true)], args := [d] }
  | _ => none }
def packetKeysRow : OpenClaim := { program := "ytinllnaekcifjaadoor", sum := "64667f37d087ad6e11e9a5f5af81595b408fe7f0e8f18bd55a9254f865d11880", func := "weighbridge/weighbridgelaw09.PacketKeys", spec := "packetKeys", unfollowed := true, recurses := true, named := ["weighbridge/icmp.unreachable", "weighbridge/icmp.timeExceeded", "weighbridge/icmp.parameterProblem"], apart := false, laid := [("weighbridge/icmp.unreachable", laid_weighbridge_icmp_unreachable), ("weighbridge/icmp.timeExceeded", laid_weighbridge_icmp_timeExceeded), ("weighbridge/icmp.parameterProblem", laid_weighbridge_icmp_parameterProblem)] }
def PacketKeysSaid : Prop := packetKeysRow.holds Tryd.pinned (OpenSpec.ofChange packetKeysSpec)

/-- ITS FALSE NEIGHBOUR: 'it returns false'. Refute it at one input. -/
def packetKeysWrong : ChangeSpec := { name := "packetKeys", fn := fun _ => fun
  | [d] => { results := [.lit (.bool false)], args := [d] }
  | _ => none }
def PacketKeysWrongFalsely : Prop := packetKeysRow.holds Tryd.pinned (OpenSpec.ofChange packetKeysWrong)

/-- 'weighbridgelaw09.PacketBack': WHATEVER THE INPUT: true; the input reads as it did. -/
def packetBackSpec : ChangeSpec := { name := "packetBack", fn := fun _ => fun
  | [d1, d2] => { results := [.lit (.bool true)], args := [d1, d2] }
  | _ => none }
def packetBackRow : OpenClaim := { program := "ytinllnaekcifjaadoor", sum := "64667f37d087ad6e11e9a5f5af81595b408fe7f0e8f18bd55a9254f865d11880", func := "weighbridge/weighbridgelaw09.PacketBack", spec := "packetBack", unfollowed := true, recurses := true, named := ["weighbridge/icmp.unreachable", "weighbridge/icmp.timeExceeded", "weighbridge/icmp.parameterProblem"], apart := false, laid := [("weighbridge/icmp.unreachable", laid_weighbridge_icmp_unreachable), ("weighbridge/icmp.timeExceeded", laid_weighbridge_icmp_timeExceeded), ("weighbridge/icmp.parameterProblem", laid_weighbridge_icmp_parameterProblem)] }
def PacketBackSaid : Prop := packetBackRow.holds Tryd.pinned (OpenSpec.ofChange packetBackSpec)

/-- ITS FALSE NEIGHBOUR: 'it returns false'. Refute it at one input. -/
def packetBackWrong : ChangeSpec := { name := "packetBack", fn := fun _ => fun
  | [d1, d2] => { results := [.lit (.bool false)], args := [d1, d2] }
  | _ => none }
def PacketBackWrongFalsely : Prop := packetBackRow.holds Tryd.pinned (OpenSpec.ofChange packetBackWrong)

/-- 'weighbridgelaw09.PacketTells': WHATEVER THE INPUT: true; the input reads as it did. -/
def packetTellsSpec : ChangeSpec := { name := "packetTells", fn := fun _ => fun
  | [d1, d2] => { results := [.lit (.bool true)], args := [d1, d2] }
  | _ => none }
def packetTellsRow : OpenClaim := { program := "ytinllnaekcifjaadoor", sum := "64667f37d087ad6e11e9a5f5af81595b408fe7f0e8f18bd55a9254f865d11880", func := "weighbridge/weighbridgelaw09.PacketTells", spec := "packetTells", unfollowed := true, recurses := true, named := ["weighbridge/icmp.unreachable", "weighbridge/icmp.timeExceeded", "weighbridge/icmp.parameterProblem"], apart := false, laid := [("weighbridge/icmp.unreachable", laid_weighbridge_icmp_unreachable), ("weighbridge/icmp.timeExceeded", laid_weighbridge_icmp_timeExceeded), ("weighbridge/icmp.parameterProblem", laid_weighbridge_icmp_parameterProblem)] }
def PacketTellsSaid : Prop := packetTellsRow.holds Tryd.pinned (OpenSpec.ofChange packetTellsSpec)

/-- ITS FALSE NEIGHBOUR: 'it returns false'. Refute it at one input. -/
def packetTellsWrong : ChangeSpec := { name := "packetTells", fn := fun _ => fun
  | [d1, d2] => { results := [.lit (.bool false)], args := [d1, d2] }
  | _ => none }
def PacketTellsWrongFalsely : Prop := packetTellsRow.holds Tryd.pinned (OpenSpec.ofChange packetTellsWrong)

/-- 'weighbridgelaw09.PacketParts': WHATEVER THE INPUT: true; the input reads as it did. -/
def packetPartsSpec : ChangeSpec := { name := "packetParts", fn := fun _ => fun
  | [d1, d2, d3] => { results := [.lit (.bool true)], args := [d1, d2, d3] }
  | _ => none }
def packetPartsRow : OpenClaim := { program := "ytinllnaekcifjaadoor", sum := "64667f37d087ad6e11e9a5f5af81595b408fe7f0e8f18bd55a9254f865d11880", func := "weighbridge/weighbridgelaw09.PacketParts", spec := "packetParts", unfollowed := true, recurses := true, named := ["weighbridge/icmp.unreachable", "weighbridge/icmp.timeExceeded", "weighbridge/icmp.parameterProblem"], apart := false, laid := [("weighbridge/icmp.unreachable", laid_weighbridge_icmp_unreachable), ("weighbridge/icmp.timeExceeded", laid_weighbridge_icmp_timeExceeded), ("weighbridge/icmp.parameterProblem", laid_weighbridge_icmp_parameterProblem)] }
def PacketPartsSaid : Prop := packetPartsRow.holds Tryd.pinned (OpenSpec.ofChange packetPartsSpec)

/-- ITS FALSE NEIGHBOUR: 'it returns false'. Refute it at one input. -/
def packetPartsWrong : ChangeSpec := { name := "packetParts", fn := fun _ => fun
  | [d1, d2, d3] => { results := [.lit (.bool false)], args := [d1, d2, d3] }
  | _ => none }
def PacketPartsWrongFalsely : Prop := packetPartsRow.holds Tryd.pinned (OpenSpec.ofChange packetPartsWrong)

/-- 'weighbridgelaw09.PacketSums': WHATEVER THE INPUT: true; the input reads as it did. -/
def packetSumsSpec : ChangeSpec := { name := "packetSums", fn := fun _ => fun
  | [d1, d2] => { results := [.lit (.bool true)], args := [d1, d2] }
  | _ => none }
def packetSumsRow : OpenClaim := { program := "ytinllnaekcifjaadoor", sum := "64667f37d087ad6e11e9a5f5af81595b408fe7f0e8f18bd55a9254f865d11880", func := "weighbridge/weighbridgelaw09.PacketSums", spec := "packetSums", unfollowed := true, recurses := true, named := ["weighbridge/icmp.unreachable", "weighbridge/icmp.timeExceeded", "weighbridge/icmp.parameterProblem"], apart := false, laid := [("weighbridge/icmp.unreachable", laid_weighbridge_icmp_unreachable), ("weighbridge/icmp.timeExceeded", laid_weighbridge_icmp_timeExceeded), ("weighbridge/icmp.parameterProblem", laid_weighbridge_icmp_parameterProblem)] }
def PacketSumsSaid : Prop := packetSumsRow.holds Tryd.pinned (OpenSpec.ofChange packetSumsSpec)

/-- ITS FALSE NEIGHBOUR: 'it returns false'. Refute it at one input. -/
def packetSumsWrong : ChangeSpec := { name := "packetSums", fn := fun _ => fun
  | [d1, d2] => { results := [.lit (.bool false)], args := [d1, d2] }
  | _ => none }
def PacketSumsWrongFalsely : Prop := packetSumsRow.holds Tryd.pinned (OpenSpec.ofChange packetSumsWrong)

/- THE SECOND FORM. 'bulk': how many values and letters a reading holds, each counted each time it is reached (what is shared counts as often as it is met; a slice's spare places count too). A statement '..UptoSaid' is the law's where the arguments, and the package variables that the reading takes, are together of bulk at most 1048576: NARROWER than '..Said'. Prove '..Said' where nothing that the law and all that it calls make is longer than what came in: it says more and counts as full. Else prove '..UptoSaid'. A law counts once. -/
mutual
def uptoBulk {H : Type} : DataW H → Nat
  | .lit (.string bytes) => bytes.length + 1
  | .lit _ => 1
  | .nil => 1
  | .ptr d => uptoBulk d + 1
  | .slice elems spare => uptoBulkAll elems + uptoBulkAll spare + 1
  | .agg parts => uptoBulkAll parts + 1
  | .iface _ d => uptoBulk d + 1
  | .map entries => uptoBulkEntries entries + 1
  | .held _ => 1
def uptoBulkAll {H : Type} : List (DataW H) → Nat
  | [] => 0
  | d :: r => uptoBulk d + uptoBulkAll r
def uptoBulkEntries {H : Type} : List (Lit × DataW H) → Nat
  | [] => 0
  | x :: r => uptoBulkEntry x + uptoBulkEntries r
def uptoBulkEntry {H : Type} : Lit × DataW H → Nat
  | (.string bytes, d) => bytes.length + uptoBulk d + 1
  | (_, d) => uptoBulk d + 1
 end
def uptoSmall : (H : Type) → List (DataW H) → Bool := fun _ ds => decide (uptoBulkAll ds ≤ 1048576)
def OpenSpec.upto (s : _root_.Go.ChangeSpec) : _root_.Go.OpenSpec := { _root_.Go.OpenSpec.ofChange s with cond := some uptoSmall }

/-- 'weighbridgelaw09.PacketKeys', WHERE WHAT IT READS IS OF BULK AT MOST 1048576: true; the input reads as it did. -/
def packetKeysUptoRow : OpenClaim := { program := "ytinllnaekcifjaadoor", sum := "64667f37d087ad6e11e9a5f5af81595b408fe7f0e8f18bd55a9254f865d11880", func := "weighbridge/weighbridgelaw09.PacketKeys", spec := "packetKeys", unfollowed := true, recurses := true, named := ["weighbridge/icmp.unreachable", "weighbridge/icmp.timeExceeded", "weighbridge/icmp.parameterProblem"], apart := false, laid := [("weighbridge/icmp.unreachable", laid_weighbridge_icmp_unreachable), ("weighbridge/icmp.timeExceeded", laid_weighbridge_icmp_timeExceeded), ("weighbridge/icmp.parameterProblem", laid_weighbridge_icmp_parameterProblem)], narrowed := true }
def PacketKeysUptoSaid : Prop := packetKeysUptoRow.holds Tryd.pinned (OpenSpec.upto packetKeysSpec)

/-- 'weighbridgelaw09.PacketBack', WHERE WHAT IT READS IS OF BULK AT MOST 1048576: true; the input reads as it did. -/
def packetBackUptoRow : OpenClaim := { program := "ytinllnaekcifjaadoor", sum := "64667f37d087ad6e11e9a5f5af81595b408fe7f0e8f18bd55a9254f865d11880", func := "weighbridge/weighbridgelaw09.PacketBack", spec := "packetBack", unfollowed := true, recurses := true, named := ["weighbridge/icmp.unreachable", "weighbridge/icmp.timeExceeded", "weighbridge/icmp.parameterProblem"], apart := false, laid := [("weighbridge/icmp.unreachable", laid_weighbridge_icmp_unreachable), ("weighbridge/icmp.timeExceeded", laid_weighbridge_icmp_timeExceeded), ("weighbridge/icmp.parameterProblem", laid_weighbridge_icmp_parameterProblem)], narrowed := true }
def PacketBackUptoSaid : Prop := packetBackUptoRow.holds Tryd.pinned (OpenSpec.upto packetBackSpec)

/-- 'weighbridgelaw09.PacketTells', WHERE WHAT IT READS IS OF BULK AT MOST 1048576: true; the input reads as it did. -/
def packetTellsUptoRow : OpenClaim := { program := "ytinllnaekcifjaadoor", sum := "64667f37d087ad6e11e9a5f5af81595b408fe7f0e8f18bd55a9254f865d11880", func := "weighbridge/weighbridgelaw09.PacketTells", spec := "packetTells", unfollowed := true, recurses := true, named := ["weighbridge/icmp.unreachable", "weighbridge/icmp.timeExceeded", "weighbridge/icmp.parameterProblem"], apart := false, laid := [("weighbridge/icmp.unreachable", laid_weighbridge_icmp_unreachable), ("weighbridge/icmp.timeExceeded", laid_weighbridge_icmp_timeExceeded), ("weighbridge/icmp.parameterProblem", laid_weighbridge_icmp_parameterProblem)], narrowed := true }
def PacketTellsUptoSaid : Prop := packetTellsUptoRow.holds Tryd.pinned (OpenSpec.upto packetTellsSpec)

/-- 'weighbridgelaw09.PacketParts', WHERE WHAT IT READS IS OF BULK AT MOST 1048576: true; the input reads as it did. -/
def packetPartsUptoRow : OpenClaim := { program := "ytinllnaekcifjaadoor", sum := "64667f37d087ad6e11e9a5f5af81595b408fe7f0e8f18bd55a9254f865d11880", func := "weighbridge/weighbridgelaw09.PacketParts", spec := "packetParts", unfollowed := true, recurses := true, named := ["weighbridge/icmp.unreachable", "weighbridge/icmp.timeExceeded", "weighbridge/icmp.parameterProblem"], apart := false, laid := [("weighbridge/icmp.unreachable", laid_weighbridge_icmp_unreachable), ("weighbridge/icmp.timeExceeded", laid_weighbridge_icmp_timeExceeded), ("weighbridge/icmp.parameterProblem", laid_weighbridge_icmp_parameterProblem)], narrowed := true }
def PacketPartsUptoSaid : Prop := packetPartsUptoRow.holds Tryd.pinned (OpenSpec.upto packetPartsSpec)

/-- 'weighbridgelaw09.PacketSums', WHERE WHAT IT READS IS OF BULK AT MOST 1048576: true; the input reads as it did. -/
def packetSumsUptoRow : OpenClaim := { program := "ytinllnaekcifjaadoor", sum := "64667f37d087ad6e11e9a5f5af81595b408fe7f0e8f18bd55a9254f865d11880", func := "weighbridge/weighbridgelaw09.PacketSums", spec := "packetSums", unfollowed := true, recurses := true, named := ["weighbridge/icmp.unreachable", "weighbridge/icmp.timeExceeded", "weighbridge/icmp.parameterProblem"], apart := false, laid := [("weighbridge/icmp.unreachable", laid_weighbridge_icmp_unreachable), ("weighbridge/icmp.timeExceeded", laid_weighbridge_icmp_timeExceeded), ("weighbridge/icmp.parameterProblem", laid_weighbridge_icmp_parameterProblem)], narrowed := true }
def PacketSumsUptoSaid : Prop := packetSumsUptoRow.holds Tryd.pinned (OpenSpec.upto packetSumsSpec)

end Rows
end Go.Proofs.YtinllnaekcifjaaDoor
