/-
  NARROWER THAN 'FOR EVERY INPUT', by the rows' own cells (each row's printed sentence says how): IcmpBuilds: laid · IcmpParses: laid · IcmpBack: laid · IcmpKinds: laid · IcmpCut: laid.
  DERIVED. THE GIVEN ROWS OF THIS SEAT. 5 by the template 'for every input the law returns true; each argument reads behind the call as it read before'; 0 by the template 'total and deterministic' (their statements: YteggaeleehlhmaaDoorTotals.lean).
  GIVEN WITH THE SEED: the statements are not yours to turn. If you find one false, say at which input.
  Laid BY PROGRAM, IN A SANDBOX (cutbox-rows.mjs): the forced cells as the released guide's own fill.sh prints them over the translation 747ecf5e6d8b6192… (all of the seat's roots in one cut). By AI agents, Wed Nov 11 2026. No macro, syntax, notation, axiom, sorry.
-/
import Derived.Test.YteggaeleehlhmaaDoorChecked
import GoSem.Claim
import GoSem.ClaimJoined
import GoSem.ClaimMapViews
import Derived.JoinedTies
import Derived.KernelRfl
namespace Go.Proofs.YteggaeleehlhmaaDoor
/- THE CELL 'sum', in the pinned program and in every row, IS THE sha256 OF THE DUMP (.gsa) THAT YteggaeleehlhmaaDoorProg.lean LOADS. Nothing in Lean hashes anything: it is a label: what it is worth is what the hold of that sum in a sandbox is worth. -/
noncomputable def Tryd.pinned : Pinned := { name := "yteggaeleehlhmaadoor", sum := "747ecf5e6d8b61920d329752efebe2e5acc038bc3e6d6243feced0014c8dc417", checked := Tryd.checked }
namespace Rows
def none {H : Type} : Left H := { results := [], args := [] }

/- WHAT THE LISTED PACKAGE-LEVEL VARIABLES READ AS WHEN THE CALL BEGINS. Each datum BY PROGRAM (the guide's laid-datum.mjs) off the statement by which the dump's own 'gosem.cut.vars' lays the variable. In a bare row this is a premise. The card (YteggaeleehlhmaaDoorCards.lean) ties it to the program's text. -/
def laid_weighbridge_icmp_unreachable {H : Type} : DataW H := .agg [.lit (.int .i64 3), .lit (.int .i64 0)]
def laid_weighbridge_icmp_timeExceeded {H : Type} : DataW H := .agg [.lit (.int .i64 11), .lit (.int .i64 0)]
def laid_weighbridge_icmp_parameterProblem {H : Type} : DataW H := .agg [.lit (.int .i64 12), .lit (.int .i64 0)]
def laid_weighbridge_icmp_tooBig {H : Type} : DataW H := .agg [.lit (.int .i64 3), .lit (.int .i64 4)]

/-- 'weighbridgelaw07.IcmpBuilds': WHATEVER THE INPUT: true; the input reads as it did. -/
def icmpBuildsSpec : ChangeSpec := { name := "icmpBuilds", fn := fun _ => fun
  | [d1, d2] => { results := [.lit (.bool true)], args := [d1, d2] }
  | _ => none }
def icmpBuildsRow : OpenClaim := { program := "yteggaeleehlhmaadoor", sum := "747ecf5e6d8b61920d329752efebe2e5acc038bc3e6d6243feced0014c8dc417", func := "weighbridge/weighbridgelaw07.IcmpBuilds", spec := "icmpBuilds", unfollowed := true, recurses := true, named := ["weighbridge/icmp.tooBig", "weighbridge/icmp.unreachable", "weighbridge/icmp.timeExceeded", "weighbridge/icmp.parameterProblem"], apart := false, laid := [("weighbridge/icmp.unreachable", laid_weighbridge_icmp_unreachable), ("weighbridge/icmp.timeExceeded", laid_weighbridge_icmp_timeExceeded), ("weighbridge/icmp.parameterProblem", laid_weighbridge_icmp_parameterProblem), ("weighbridge/icmp.tooBig", laid_weighbridge_icmp_tooBig)] }
def IcmpBuildsSaid : Prop := icmpBuildsRow.holds Tryd.pinned (OpenSpec.ofChange icmpBuildsSpec)

/-- ITS FALSE NEIGHBOUR: 'it returns false'. Refute it at one input. -/
def icmpBuildsWrong : ChangeSpec := { name := "icmpBuilds", fn := fun _ => fun
  | [d1, d2] => { results := [.lit (.bool false)], args := [d1, d2] }
  | _ => none }
def IcmpBuildsWrongFalsely : Prop := icmpBuildsRow.holds Tryd.pinned (OpenSpec.ofChange icmpBuildsWrong)

/-- 'weighbridgelaw07.IcmpParses': WHATEVER THE INPUT: true; the input reads as it did. -/
def icmpParsesSpec : ChangeSpec := { name := "icmpParses", fn := fun _ => fun
  | [d1, d2, d3, d4, d5] => { results := [.lit (.bool true)], args := [d1, d2, d3, d4, d5] }
  | _ => none }
def icmpParsesRow : OpenClaim := { program := "yteggaeleehlhmaadoor", sum := "747ecf5e6d8b61920d329752efebe2e5acc038bc3e6d6243feced0014c8dc417", func := "weighbridge/weighbridgelaw07.IcmpParses", spec := "icmpParses", unfollowed := true, recurses := true, named := ["weighbridge/icmp.tooBig", "weighbridge/icmp.unreachable", "weighbridge/icmp.timeExceeded", "weighbridge/icmp.parameterProblem"], apart := false, laid := [("weighbridge/icmp.unreachable", laid_weighbridge_icmp_unreachable), ("weighbridge/icmp.timeExceeded", laid_weighbridge_icmp_timeExceeded), ("weighbridge/icmp.parameterProblem", laid_weighbridge_icmp_parameterProblem), ("weighbridge/icmp.tooBig", laid_weighbridge_icmp_tooBig)] }
def IcmpParsesSaid : Prop := icmpParsesRow.holds Tryd.pinned (OpenSpec.ofChange icmpParsesSpec)

/-- ITS FALSE NEIGHBOUR: 'it returns false'. Refute it at one input. -/
def icmpParsesWrong : ChangeSpec := { name := "icmpParses", fn := fun _ => fun
  | [d1, d2, d3, d4, d5] => { results := [.lit (.bool false)], args := [d1, d2, d3, d4, d5] }
  | _ => none }
def IcmpParsesWrongFalsely : Prop := icmpParsesRow.holds Tryd.pinned (OpenSpec.ofChange icmpParsesWrong)

/-- 'weighbridgelaw07.IcmpBack': WHATEVER THE INPUT: true; the input reads as it did. -/
def icmpBackSpec : ChangeSpec := { name := "icmpBack", fn := fun _ => fun
  | [d1, d2, d3, d4, d5] => { results := [.lit (.bool true)], args := [d1, d2, d3, d4, d5] }
  | _ => none }
def icmpBackRow : OpenClaim := { program := "yteggaeleehlhmaadoor", sum := "747ecf5e6d8b61920d329752efebe2e5acc038bc3e6d6243feced0014c8dc417", func := "weighbridge/weighbridgelaw07.IcmpBack", spec := "icmpBack", unfollowed := true, recurses := true, named := ["weighbridge/icmp.tooBig", "weighbridge/icmp.unreachable", "weighbridge/icmp.timeExceeded", "weighbridge/icmp.parameterProblem"], apart := false, laid := [("weighbridge/icmp.unreachable", laid_weighbridge_icmp_unreachable), ("weighbridge/icmp.timeExceeded", laid_weighbridge_icmp_timeExceeded), ("weighbridge/icmp.parameterProblem", laid_weighbridge_icmp_parameterProblem), ("weighbridge/icmp.tooBig", laid_weighbridge_icmp_tooBig)] }
def IcmpBackSaid : Prop := icmpBackRow.holds Tryd.pinned (OpenSpec.ofChange icmpBackSpec)

/-- ITS FALSE NEIGHBOUR: 'it returns false'. Refute it at one input. -/
def icmpBackWrong : ChangeSpec := { name := "icmpBack", fn := fun _ => fun
  | [d1, d2, d3, d4, d5] => { results := [.lit (.bool false)], args := [d1, d2, d3, d4, d5] }
  | _ => none }
def IcmpBackWrongFalsely : Prop := icmpBackRow.holds Tryd.pinned (OpenSpec.ofChange icmpBackWrong)

/-- 'weighbridgelaw07.IcmpKinds': WHATEVER THE INPUT: true; the input reads as it did. -/
def icmpKindsSpec : ChangeSpec := { name := "icmpKinds", fn := fun _ => fun
  | [d1, d2, d3] => { results := [.lit (.bool true)], args := [d1, d2, d3] }
  | _ => none }
def icmpKindsRow : OpenClaim := { program := "yteggaeleehlhmaadoor", sum := "747ecf5e6d8b61920d329752efebe2e5acc038bc3e6d6243feced0014c8dc417", func := "weighbridge/weighbridgelaw07.IcmpKinds", spec := "icmpKinds", unfollowed := true, recurses := true, named := ["weighbridge/icmp.tooBig", "weighbridge/icmp.unreachable", "weighbridge/icmp.timeExceeded", "weighbridge/icmp.parameterProblem"], apart := false, laid := [("weighbridge/icmp.unreachable", laid_weighbridge_icmp_unreachable), ("weighbridge/icmp.timeExceeded", laid_weighbridge_icmp_timeExceeded), ("weighbridge/icmp.parameterProblem", laid_weighbridge_icmp_parameterProblem), ("weighbridge/icmp.tooBig", laid_weighbridge_icmp_tooBig)] }
def IcmpKindsSaid : Prop := icmpKindsRow.holds Tryd.pinned (OpenSpec.ofChange icmpKindsSpec)

/-- ITS FALSE NEIGHBOUR: 'it returns false'. Refute it at one input. -/
def icmpKindsWrong : ChangeSpec := { name := "icmpKinds", fn := fun _ => fun
  | [d1, d2, d3] => { results := [.lit (.bool false)], args := [d1, d2, d3] }
  | _ => none }
def IcmpKindsWrongFalsely : Prop := icmpKindsRow.holds Tryd.pinned (OpenSpec.ofChange icmpKindsWrong)

/-- 'weighbridgelaw07.IcmpCut': WHATEVER THE INPUT: true; the input reads as it did. -/
def icmpCutSpec : ChangeSpec := { name := "icmpCut", fn := fun _ => fun
  | [d1, d2, d3] => { results := [.lit (.bool true)], args := [d1, d2, d3] }
  | _ => none }
def icmpCutRow : OpenClaim := { program := "yteggaeleehlhmaadoor", sum := "747ecf5e6d8b61920d329752efebe2e5acc038bc3e6d6243feced0014c8dc417", func := "weighbridge/weighbridgelaw07.IcmpCut", spec := "icmpCut", unfollowed := true, recurses := true, named := ["weighbridge/icmp.tooBig", "weighbridge/icmp.unreachable", "weighbridge/icmp.timeExceeded", "weighbridge/icmp.parameterProblem"], apart := false, laid := [("weighbridge/icmp.unreachable", laid_weighbridge_icmp_unreachable), ("weighbridge/icmp.timeExceeded", laid_weighbridge_icmp_timeExceeded), ("weighbridge/icmp.parameterProblem", laid_weighbridge_icmp_parameterProblem), ("weighbridge/icmp.tooBig", laid_weighbridge_icmp_tooBig)] }
def IcmpCutSaid : Prop := icmpCutRow.holds Tryd.pinned (OpenSpec.ofChange icmpCutSpec)

/-- ITS FALSE NEIGHBOUR: 'it returns false'. Refute it at one input. -/
def icmpCutWrong : ChangeSpec := { name := "icmpCut", fn := fun _ => fun
  | [d1, d2, d3] => { results := [.lit (.bool false)], args := [d1, d2, d3] }
  | _ => none }
def IcmpCutWrongFalsely : Prop := icmpCutRow.holds Tryd.pinned (OpenSpec.ofChange icmpCutWrong)

/- THE SECOND FORM. 'bulk': how many values and letters a reading holds, each counted each time it is reached (what is shared counts as often as it is met; a slice's spare places count too). A statement '..UptoSaid' is the law's where the arguments, and the package variables that the reading takes, are together of bulk at most 1048576: NARROWER than '..Said'. Prove '..Said' where nothing that the law and all that it calls make is longer than what came in: it says more and counts as full. Else prove '..UptoSaid'. A law counts once. -/
mutual
def uptoBulk {H : Type} : DataW H → Nat
  | .lit (.string bytes) => bytes.length + 1
  | .lit _ => 1
  | .nil => 1
  | .ptr d => uptoBulk d + 1
  | .slice elems spare => uptoBulkAll elems + uptoBulkAll spare + 1
  | .agg parts => uptoBulkAll parts + 1
  | .iface _ d => uptoBulk d + 1
  | .map entries => uptoBulkEntries entries + 1
  | .held _ => 1
def uptoBulkAll {H : Type} : List (DataW H) → Nat
  | [] => 0
  | d :: r => uptoBulk d + uptoBulkAll r
def uptoBulkEntries {H : Type} : List (Lit × DataW H) → Nat
  | [] => 0
  | x :: r => uptoBulkEntry x + uptoBulkEntries r
def uptoBulkEntry {H : Type} : Lit × DataW H → Nat
  | (.string bytes, d) => bytes.length + uptoBulk d + 1
  | (_, d) => uptoBulk d + 1
 end
def uptoSmall : (H : Type) → List (DataW H) → Bool := fun _ ds => decide (uptoBulkAll ds ≤ 1048576)
def OpenSpec.upto (s : _root_.Go.ChangeSpec) : _root_.Go.OpenSpec := { _root_.Go.OpenSpec.ofChange s with cond := some uptoSmall }

/-- 'weighbridgelaw07.IcmpBuilds', WHERE WHAT IT READS IS OF BULK AT MOST 1048576: true; the input reads as it did. -/
def icmpBuildsUptoRow : OpenClaim := { program := "yteggaeleehlhmaadoor", sum := "747ecf5e6d8b61920d329752efebe2e5acc038bc3e6d6243feced0014c8dc417", func := "weighbridge/weighbridgelaw07.IcmpBuilds", spec := "icmpBuilds", unfollowed := true, recurses := true, named := ["weighbridge/icmp.tooBig", "weighbridge/icmp.unreachable", "weighbridge/icmp.timeExceeded", "weighbridge/icmp.parameterProblem"], apart := false, laid := [("weighbridge/icmp.unreachable", laid_weighbridge_icmp_unreachable), ("weighbridge/icmp.timeExceeded", laid_weighbridge_icmp_timeExceeded), ("weighbridge/icmp.parameterProblem", laid_weighbridge_icmp_parameterProblem), ("weighbridge/icmp.tooBig", laid_weighbridge_icmp_tooBig)], narrowed := true }
def IcmpBuildsUptoSaid : Prop := icmpBuildsUptoRow.holds Tryd.pinned (OpenSpec.upto icmpBuildsSpec)

/-- 'weighbridgelaw07.IcmpParses', WHERE WHAT IT READS IS OF BULK AT MOST 1048576: true; the input reads as it did. -/
def icmpParsesUptoRow : OpenClaim := { program := "yteggaeleehlhmaadoor", sum := "747ecf5e6d8b61920d329752efebe2e5acc038bc3e6d6243feced0014c8dc417", func := "weighbridge/weighbridgelaw07.IcmpParses", spec := "icmpParses", unfollowed := true, recurses := true, named := ["weighbridge/icmp.tooBig", "weighbridge/icmp.unreachable", "weighbridge/icmp.timeExceeded", "weighbridge/icmp.parameterProblem"], apart := false, laid := [("weighbridge/icmp.unreachable", laid_weighbridge_icmp_unreachable), ("weighbridge/icmp.timeExceeded", laid_weighbridge_icmp_timeExceeded), ("weighbridge/icmp.parameterProblem", laid_weighbridge_icmp_parameterProblem), ("weighbridge/icmp.tooBig", laid_weighbridge_icmp_tooBig)], narrowed := true }
def IcmpParsesUptoSaid : Prop := icmpParsesUptoRow.holds Tryd.pinned (OpenSpec.upto icmpParsesSpec)

/-- 'weighbridgelaw07.IcmpBack', WHERE WHAT IT READS IS OF BULK AT MOST 1048576: true; the input reads as it did. -/
def icmpBackUptoRow : OpenClaim := { program := "yteggaeleehlhmaadoor", sum := "747ecf5e6d8b61920d329752efebe2e5acc038bc3e6d6243feced0014c8dc417", func := "weighbridge/weighbridgelaw07.IcmpBack", spec := "icmpBack", unfollowed := true, recurses := true, named := ["weighbridge/icmp.tooBig", "weighbridge/icmp.unreachable", "weighbridge/icmp.timeExceeded", "weighbridge/icmp.parameterProblem"], apart := false, laid := [("weighbridge/icmp.unreachable", laid_weighbridge_icmp_unreachable), ("weighbridge/icmp.timeExceeded", laid_weighbridge_icmp_timeExceeded), ("weighbridge/icmp.parameterProblem", laid_weighbridge_icmp_parameterProblem), ("weighbridge/icmp.tooBig", laid_weighbridge_icmp_tooBig)], narrowed := true }
def IcmpBackUptoSaid : Prop := icmpBackUptoRow.holds Tryd.pinned (OpenSpec.upto icmpBackSpec)

/-- 'weighbridgelaw07.IcmpKinds', WHERE WHAT IT READS IS OF BULK AT MOST 1048576: true; the input reads as it did. -/
def icmpKindsUptoRow : OpenClaim := { program := "yteggaeleehlhmaadoor", sum := "747ecf5e6d8b61920d329752efebe2e5acc038bc3e6d6243feced0014c8dc417", func := "weighbridge/weighbridgelaw07.IcmpKinds", spec := "icmpKinds", unfollowed := true, recurses := true, named := ["weighbridge/icmp.tooBig", "weighbridge/icmp.unreachable", "weighbridge/icmp.timeExceeded", "weighbridge/icmp.parameterProblem"], apart := false, laid := [("weighbridge/icmp.unreachable", laid_weighbridge_icmp_unreachable), ("weighbridge/icmp.timeExceeded", laid_weighbridge_icmp_timeExceeded), ("weighbridge/icmp.parameterProblem", laid_weighbridge_icmp_parameterProblem), ("weighbridge/icmp.tooBig", laid_weighbridge_icmp_tooBig)], narrowed := true }
def IcmpKindsUptoSaid : Prop := icmpKindsUptoRow.holds Tryd.pinned (OpenSpec.upto icmpKindsSpec)

/-- 'weighbridgelaw07.IcmpCut', WHERE WHAT IT READS IS OF BULK AT MOST 1048576: true; the input reads as it did. -/
def icmpCutUptoRow : OpenClaim := { program := "yteggaeleehlhmaadoor", sum := "747ecf5e6d8b61920d329752efebe2e5acc038bc3e6d6243feced0014c8dc417", func := "weighbridge/weighbridgelaw07.IcmpCut", spec := "icmpCut", unfollowed := true, recurses := true, named := ["weighbridge/icmp.tooBig", "weighbridge/icmp.unreachable", "weighbridge/icmp.timeExceeded", "weighbridge/icmp.parameterProblem"], apart := false, laid := [("weighbridge/icmp.unreachable", laid_weighbridge_icmp_unreachable), ("weighbridge/icmp.timeExceeded", laid_weighbridge_icmp_timeExceeded), ("weighbridge/icmp.parameterProblem", laid_weighbridge_icmp_parameterProblem), ("weighbridge/icmp.tooBig", laid_weighbridge_icmp_tooBig)], narrowed := true }
def IcmpCutUptoSaid : Prop := icmpCutUptoRow.holds Tryd.pinned (OpenSpec.upto icmpCutSpec)

end Rows
end Go.Proofs.YteggaeleehlhmaaDoor
