/-
  NARROWER THAN 'FOR EVERY INPUT', by the rows' own cells (each row's printed sentence says how): PatchPlain: laid · PatchAbout: laid · PatchBack: laid · PatchSame: laid · PatchInside: laid · PatchRefuses: laid · PatchPads: laid.
  DERIVED. THE GIVEN ROWS OF THIS SEAT. 7 by the template 'for every input the law returns true; each argument reads behind the call as it read before'; 0 by the template 'total and deterministic' (their statements: YtpjaajeojiaeiaaGreatDoorTotals.lean).
  GIVEN WITH THE SEED: the statements are not yours to turn. If you find one false, say at which input.
  Laid BY PROGRAM, IN A SANDBOX (cutbox-rows.mjs): the forced cells as the released guide's own fill.sh prints them over the translation bebea15bd830ee62… (all of the seat's roots in one cut). By AI agents, Wed Nov 11 2026. No macro, syntax, notation, axiom, sorry.
-/
import Derived.Test.YtpjaajeojiaeiaaGreatDoorChecked
import GoSem.Claim
import GoSem.ClaimJoined
import GoSem.ClaimMapViews
import Derived.JoinedTies
import Derived.KernelRfl
namespace Go.Proofs.YtpjaajeojiaeiaaGreatDoor
/- THE CELL 'sum', in the pinned program and in every row, IS THE sha256 OF THE DUMP (.gsa) THAT YtpjaajeojiaeiaaGreatDoorProg.lean LOADS. Nothing in Lean hashes anything: it is a label: what it is worth is what the hold of that sum in a sandbox is worth. -/
noncomputable def Tryz.pinned : Pinned := { name := "ytpjaajeojiaeiaagreatdoor", sum := "bebea15bd830ee62ceed179c0594999e6cbcf9b181845c75a55e324eeb88255a", checked := Tryz.checked }
namespace Rows
def none {H : Type} : Left H := { results := [], args := [] }

/- WHAT THE LISTED PACKAGE-LEVEL VARIABLES READ AS WHEN THE CALL BEGINS. Each datum BY PROGRAM (the guide's laid-datum.mjs) off the statement by which the dump's own 'gosem.cut.vars' lays the variable. In a bare row this is a premise. The card (YtpjaajeojiaeiaaGreatDoorCards.lean) ties it to the program's text. -/
def laid_weighbridge_icmp_unreachable {H : Type} : DataW H := .agg [.lit (.int .i64 3), .lit (.int .i64 0)]
def laid_weighbridge_icmp_timeExceeded {H : Type} : DataW H := .agg [.lit (.int .i64 11), .lit (.int .i64 0)]
def laid_weighbridge_icmp_parameterProblem {H : Type} : DataW H := .agg [.lit (.int .i64 12), .lit (.int .i64 0)]

/-- 'weighbridgelaw10.PatchPlain': WHATEVER THE INPUT: true; the input reads as it did. -/
def patchPlainSpec : ChangeSpec := { name := "patchPlain", fn := fun _ => fun
  | [d1, d2, d3, d4, d5] => { results := [.lit (.bool true)], args := [d1, d2, d3, d4, d5] }
  | _ => none }
def patchPlainRow : OpenClaim := { program := "ytpjaajeojiaeiaagreatdoor", sum := "bebea15bd830ee62ceed179c0594999e6cbcf9b181845c75a55e324eeb88255a", func := "weighbridge/weighbridgelaw10.PatchPlain", spec := "patchPlain", unfollowed := true, recurses := true, named := ["weighbridge/icmp.unreachable", "weighbridge/icmp.timeExceeded", "weighbridge/icmp.parameterProblem"], apart := false, laid := [("weighbridge/icmp.unreachable", laid_weighbridge_icmp_unreachable), ("weighbridge/icmp.timeExceeded", laid_weighbridge_icmp_timeExceeded), ("weighbridge/icmp.parameterProblem", laid_weighbridge_icmp_parameterProblem)] }
def PatchPlainSaid : Prop := patchPlainRow.holds Tryz.pinned (OpenSpec.ofChange patchPlainSpec)

/-- ITS FALSE NEIGHBOUR: 'it returns false'. Refute it at one input. -/
def patchPlainWrong : ChangeSpec := { name := "patchPlain", fn := fun _ => fun
  | [d1, d2, d3, d4, d5] => { results := [.lit (.bool false)], args := [d1, d2, d3, d4, d5] }
  | _ => none }
def PatchPlainWrongFalsely : Prop := patchPlainRow.holds Tryz.pinned (OpenSpec.ofChange patchPlainWrong)

/-- 'weighbridgelaw10.PatchAbout': WHATEVER THE INPUT: true; the input reads as it did. -/
def patchAboutSpec : ChangeSpec := { name := "patchAbout", fn := fun _ => fun
  | [d1, d2, d3, d4, d5, d6, d7] => { results := [.lit (.bool true)], args := [d1, d2, d3, d4, d5, d6, d7] }
  | _ => none }
def patchAboutRow : OpenClaim := { program := "ytpjaajeojiaeiaagreatdoor", sum := "bebea15bd830ee62ceed179c0594999e6cbcf9b181845c75a55e324eeb88255a", func := "weighbridge/weighbridgelaw10.PatchAbout", spec := "patchAbout", unfollowed := true, recurses := true, named := ["weighbridge/icmp.unreachable", "weighbridge/icmp.timeExceeded", "weighbridge/icmp.parameterProblem"], apart := false, laid := [("weighbridge/icmp.unreachable", laid_weighbridge_icmp_unreachable), ("weighbridge/icmp.timeExceeded", laid_weighbridge_icmp_timeExceeded), ("weighbridge/icmp.parameterProblem", laid_weighbridge_icmp_parameterProblem)] }
def PatchAboutSaid : Prop := patchAboutRow.holds Tryz.pinned (OpenSpec.ofChange patchAboutSpec)

/-- ITS FALSE NEIGHBOUR: 'it returns false'. Refute it at one input. -/
def patchAboutWrong : ChangeSpec := { name := "patchAbout", fn := fun _ => fun
  | [d1, d2, d3, d4, d5, d6, d7] => { results := [.lit (.bool false)], args := [d1, d2, d3, d4, d5, d6, d7] }
  | _ => none }
def PatchAboutWrongFalsely : Prop := patchAboutRow.holds Tryz.pinned (OpenSpec.ofChange patchAboutWrong)

/-- 'weighbridgelaw10.PatchBack': WHATEVER THE INPUT: true; the input reads as it did. -/
def patchBackSpec : ChangeSpec := { name := "patchBack", fn := fun _ => fun
  | [d1, d2, d3, d4, d5] => { results := [.lit (.bool true)], args := [d1, d2, d3, d4, d5] }
  | _ => none }
def patchBackRow : OpenClaim := { program := "ytpjaajeojiaeiaagreatdoor", sum := "bebea15bd830ee62ceed179c0594999e6cbcf9b181845c75a55e324eeb88255a", func := "weighbridge/weighbridgelaw10.PatchBack", spec := "patchBack", unfollowed := true, recurses := true, named := ["weighbridge/icmp.unreachable", "weighbridge/icmp.timeExceeded", "weighbridge/icmp.parameterProblem"], apart := false, laid := [("weighbridge/icmp.unreachable", laid_weighbridge_icmp_unreachable), ("weighbridge/icmp.timeExceeded", laid_weighbridge_icmp_timeExceeded), ("weighbridge/icmp.parameterProblem", laid_weighbridge_icmp_parameterProblem)] }
def PatchBackSaid : Prop := patchBackRow.holds Tryz.pinned (OpenSpec.ofChange patchBackSpec)

/-- ITS FALSE NEIGHBOUR: 'it returns false'. Refute it at one input. -/
def patchBackWrong : ChangeSpec := { name := "patchBack", fn := fun _ => fun
  | [d1, d2, d3, d4, d5] => { results := [.lit (.bool false)], args := [d1, d2, d3, d4, d5] }
  | _ => none }
def PatchBackWrongFalsely : Prop := patchBackRow.holds Tryz.pinned (OpenSpec.ofChange patchBackWrong)

/-- 'weighbridgelaw10.PatchSame': WHATEVER THE INPUT: true; the input reads as it did. -/
def patchSameSpec : ChangeSpec := { name := "patchSame", fn := fun _ => fun
  | [d1, d2, d3, d4, d5] => { results := [.lit (.bool true)], args := [d1, d2, d3, d4, d5] }
  | _ => none }
def patchSameRow : OpenClaim := { program := "ytpjaajeojiaeiaagreatdoor", sum := "bebea15bd830ee62ceed179c0594999e6cbcf9b181845c75a55e324eeb88255a", func := "weighbridge/weighbridgelaw10.PatchSame", spec := "patchSame", unfollowed := true, recurses := true, named := ["weighbridge/icmp.unreachable", "weighbridge/icmp.timeExceeded", "weighbridge/icmp.parameterProblem"], apart := false, laid := [("weighbridge/icmp.unreachable", laid_weighbridge_icmp_unreachable), ("weighbridge/icmp.timeExceeded", laid_weighbridge_icmp_timeExceeded), ("weighbridge/icmp.parameterProblem", laid_weighbridge_icmp_parameterProblem)] }
def PatchSameSaid : Prop := patchSameRow.holds Tryz.pinned (OpenSpec.ofChange patchSameSpec)

/-- ITS FALSE NEIGHBOUR: 'it returns false'. Refute it at one input. -/
def patchSameWrong : ChangeSpec := { name := "patchSame", fn := fun _ => fun
  | [d1, d2, d3, d4, d5] => { results := [.lit (.bool false)], args := [d1, d2, d3, d4, d5] }
  | _ => none }
def PatchSameWrongFalsely : Prop := patchSameRow.holds Tryz.pinned (OpenSpec.ofChange patchSameWrong)

/-- 'weighbridgelaw10.PatchInside': WHATEVER THE INPUT: true; the input reads as it did. -/
def patchInsideSpec : ChangeSpec := { name := "patchInside", fn := fun _ => fun
  | [d1, d2, d3, d4, d5] => { results := [.lit (.bool true)], args := [d1, d2, d3, d4, d5] }
  | _ => none }
def patchInsideRow : OpenClaim := { program := "ytpjaajeojiaeiaagreatdoor", sum := "bebea15bd830ee62ceed179c0594999e6cbcf9b181845c75a55e324eeb88255a", func := "weighbridge/weighbridgelaw10.PatchInside", spec := "patchInside", unfollowed := true, recurses := true, named := ["weighbridge/icmp.unreachable", "weighbridge/icmp.timeExceeded", "weighbridge/icmp.parameterProblem"], apart := false, laid := [("weighbridge/icmp.unreachable", laid_weighbridge_icmp_unreachable), ("weighbridge/icmp.timeExceeded", laid_weighbridge_icmp_timeExceeded), ("weighbridge/icmp.parameterProblem", laid_weighbridge_icmp_parameterProblem)] }
def PatchInsideSaid : Prop := patchInsideRow.holds Tryz.pinned (OpenSpec.ofChange patchInsideSpec)

/-- ITS FALSE NEIGHBOUR: 'it returns false'. Refute it at one input. -/
def patchInsideWrong : ChangeSpec := { name := "patchInside", fn := fun _ => fun
  | [d1, d2, d3, d4, d5] => { results := [.lit (.bool false)], args := [d1, d2, d3, d4, d5] }
  | _ => none }
def PatchInsideWrongFalsely : Prop := patchInsideRow.holds Tryz.pinned (OpenSpec.ofChange patchInsideWrong)

/-- 'weighbridgelaw10.PatchRefuses': WHATEVER THE INPUT: true; the input reads as it did. -/
def patchRefusesSpec : ChangeSpec := { name := "patchRefuses", fn := fun _ => fun
  | [d1, d2, d3] => { results := [.lit (.bool true)], args := [d1, d2, d3] }
  | _ => none }
def patchRefusesRow : OpenClaim := { program := "ytpjaajeojiaeiaagreatdoor", sum := "bebea15bd830ee62ceed179c0594999e6cbcf9b181845c75a55e324eeb88255a", func := "weighbridge/weighbridgelaw10.PatchRefuses", spec := "patchRefuses", unfollowed := true, recurses := true, named := ["weighbridge/icmp.unreachable", "weighbridge/icmp.timeExceeded", "weighbridge/icmp.parameterProblem"], apart := false, laid := [("weighbridge/icmp.unreachable", laid_weighbridge_icmp_unreachable), ("weighbridge/icmp.timeExceeded", laid_weighbridge_icmp_timeExceeded), ("weighbridge/icmp.parameterProblem", laid_weighbridge_icmp_parameterProblem)] }
def PatchRefusesSaid : Prop := patchRefusesRow.holds Tryz.pinned (OpenSpec.ofChange patchRefusesSpec)

/-- ITS FALSE NEIGHBOUR: 'it returns false'. Refute it at one input. -/
def patchRefusesWrong : ChangeSpec := { name := "patchRefuses", fn := fun _ => fun
  | [d1, d2, d3] => { results := [.lit (.bool false)], args := [d1, d2, d3] }
  | _ => none }
def PatchRefusesWrongFalsely : Prop := patchRefusesRow.holds Tryz.pinned (OpenSpec.ofChange patchRefusesWrong)

/-- 'weighbridgelaw10.PatchPads': WHATEVER THE INPUT: true; the input reads as it did. -/
def patchPadsSpec : ChangeSpec := { name := "patchPads", fn := fun _ => fun
  | [d1, d2] => { results := [.lit (.bool true)], args := [d1, d2] }
  | _ => none }
def patchPadsRow : OpenClaim := { program := "ytpjaajeojiaeiaagreatdoor", sum := "bebea15bd830ee62ceed179c0594999e6cbcf9b181845c75a55e324eeb88255a", func := "weighbridge/weighbridgelaw10.PatchPads", spec := "patchPads", unfollowed := true, recurses := true, named := ["weighbridge/icmp.unreachable", "weighbridge/icmp.timeExceeded", "weighbridge/icmp.parameterProblem"], apart := false, laid := [("weighbridge/icmp.unreachable", laid_weighbridge_icmp_unreachable), ("weighbridge/icmp.timeExceeded", laid_weighbridge_icmp_timeExceeded), ("weighbridge/icmp.parameterProblem", laid_weighbridge_icmp_parameterProblem)] }
def PatchPadsSaid : Prop := patchPadsRow.holds Tryz.pinned (OpenSpec.ofChange patchPadsSpec)

/-- ITS FALSE NEIGHBOUR: 'it returns false'. Refute it at one input. -/
def patchPadsWrong : ChangeSpec := { name := "patchPads", fn := fun _ => fun
  | [d1, d2] => { results := [.lit (.bool false)], args := [d1, d2] }
  | _ => none }
def PatchPadsWrongFalsely : Prop := patchPadsRow.holds Tryz.pinned (OpenSpec.ofChange patchPadsWrong)

/- THE SECOND FORM. 'bulk': how many values and letters a reading holds, each counted each time it is reached (what is shared counts as often as it is met; a slice's spare places count too). A statement '..UptoSaid' is the law's where the arguments, and the package variables that the reading takes, are together of bulk at most 1048576: NARROWER than '..Said'. Prove '..Said' where nothing that the law and all that it calls make is longer than what came in: it says more and counts as full. Else prove '..UptoSaid'. A law counts once. -/
mutual
def uptoBulk {H : Type} : DataW H → Nat
  | .lit (.string bytes) => bytes.length + 1
  | .lit _ => 1
  | .nil => 1
  | .ptr d => uptoBulk d + 1
  | .slice elems spare => uptoBulkAll elems + uptoBulkAll spare + 1
  | .agg parts => uptoBulkAll parts + 1
  | .iface _ d => uptoBulk d + 1
  | .map entries => uptoBulkEntries entries + 1
  | .held _ => 1
def uptoBulkAll {H : Type} : List (DataW H) → Nat
  | [] => 0
  | d :: r => uptoBulk d + uptoBulkAll r
def uptoBulkEntries {H : Type} : List (Lit × DataW H) → Nat
  | [] => 0
  | x :: r => uptoBulkEntry x + uptoBulkEntries r
def uptoBulkEntry {H : Type} : Lit × DataW H → Nat
  | (.string bytes, d) => bytes.length + uptoBulk d + 1
  | (_, d) => uptoBulk d + 1
 end
def uptoSmall : (H : Type) → List (DataW H) → Bool := fun _ ds => decide (uptoBulkAll ds ≤ 1048576)
def OpenSpec.upto (s : _root_.Go.ChangeSpec) : _root_.Go.OpenSpec := { _root_.Go.OpenSpec.ofChange s with cond := some uptoSmall }

/-- 'weighbridgelaw10.PatchPlain', WHERE WHAT IT READS IS OF BULK AT MOST 1048576: true; the input reads as it did. -/
def patchPlainUptoRow : OpenClaim := { program := "ytpjaajeojiaeiaagreatdoor", sum := "bebea15bd830ee62ceed179c0594999e6cbcf9b181845c75a55e324eeb88255a", func := "weighbridge/weighbridgelaw10.PatchPlain", spec := "patchPlain", unfollowed := true, recurses := true, named := ["weighbridge/icmp.unreachable", "weighbridge/icmp.timeExceeded", "weighbridge/icmp.parameterProblem"], apart := false, laid := [("weighbridge/icmp.unreachable", laid_weighbridge_icmp_unreachable), ("weighbridge/icmp.timeExceeded", laid_weighbridge_icmp_timeExceeded), ("weighbridge/icmp.parameterProblem", laid_weighbridge_icmp_parameterProblem)], narrowed := true }
def PatchPlainUptoSaid : Prop := patchPlainUptoRow.holds Tryz.pinned (OpenSpec.upto patchPlainSpec)

/-- 'weighbridgelaw10.PatchAbout', WHERE WHAT IT READS IS OF BULK AT MOST 1048576: true; the input reads as it did. -/
def patchAboutUptoRow : OpenClaim := { program := "ytpjaajeojiaeiaagreatdoor", sum := "bebea15bd830ee62ceed179c0594999e6cbcf9b181845c75a55e324eeb88255a", func := "weighbridge/weighbridgelaw10.PatchAbout", spec := "patchAbout", unfollowed := true, recurses := true, named := ["weighbridge/icmp.unreachable", "weighbridge/icmp.timeExceeded", "weighbridge/icmp.parameterProblem"], apart := false, laid := [("weighbridge/icmp.unreachable", laid_weighbridge_icmp_unreachable), ("weighbridge/icmp.timeExceeded", laid_weighbridge_icmp_timeExceeded), ("weighbridge/icmp.parameterProblem", laid_weighbridge_icmp_parameterProblem)], narrowed := true }
def PatchAboutUptoSaid : Prop := patchAboutUptoRow.holds Tryz.pinned (OpenSpec.upto patchAboutSpec)

/-- 'weighbridgelaw10.PatchBack', WHERE WHAT IT READS IS OF BULK AT MOST 1048576: true; the input reads as it did. -/
def patchBackUptoRow : OpenClaim := { program := "ytpjaajeojiaeiaagreatdoor", sum := "bebea15bd830ee62ceed179c0594999e6cbcf9b181845c75a55e324eeb88255a", func := "weighbridge/weighbridgelaw10.PatchBack", spec := "patchBack", unfollowed := true, recurses := true, named := ["weighbridge/icmp.unreachable", "weighbridge/icmp.timeExceeded", "weighbridge/icmp.parameterProblem"], apart := false, laid := [("weighbridge/icmp.unreachable", laid_weighbridge_icmp_unreachable), ("weighbridge/icmp.timeExceeded", laid_weighbridge_icmp_timeExceeded), ("weighbridge/icmp.parameterProblem", laid_weighbridge_icmp_parameterProblem)], narrowed := true }
def PatchBackUptoSaid : Prop := patchBackUptoRow.holds Tryz.pinned (OpenSpec.upto patchBackSpec)

/-- 'weighbridgelaw10.PatchSame', WHERE WHAT IT READS IS OF BULK AT MOST 1048576: true; the input reads as it did. -/
def patchSameUptoRow : OpenClaim := { program := "ytpjaajeojiaeiaagreatdoor", sum := "bebea15bd830ee62ceed179c0594999e6cbcf9b181845c75a55e324eeb88255a", func := "weighbridge/weighbridgelaw10.PatchSame", spec := "patchSame", unfollowed := true, recurses := true, named := ["weighbridge/icmp.unreachable", "weighbridge/icmp.timeExceeded", "weighbridge/icmp.parameterProblem"], apart := false, laid := [("weighbridge/icmp.unreachable", laid_weighbridge_icmp_unreachable), ("weighbridge/icmp.timeExceeded", laid_weighbridge_icmp_timeExceeded), ("weighbridge/icmp.parameterProblem", laid_weighbridge_icmp_parameterProblem)], narrowed := true }
def PatchSameUptoSaid : Prop := patchSameUptoRow.holds Tryz.pinned (OpenSpec.upto patchSameSpec)

/-- 'weighbridgelaw10.PatchInside', WHERE WHAT IT READS IS OF BULK AT MOST 1048576: true; the input reads as it did. -/
def patchInsideUptoRow : OpenClaim := { program := "ytpjaajeojiaeiaagreatdoor", sum := "bebea15bd830ee62ceed179c0594999e6cbcf9b181845c75a55e324eeb88255a", func := "weighbridge/weighbridgelaw10.PatchInside", spec := "patchInside", unfollowed := true, recurses := true, named := ["weighbridge/icmp.unreachable", "weighbridge/icmp.timeExceeded", "weighbridge/icmp.parameterProblem"], apart := false, laid := [("weighbridge/icmp.unreachable", laid_weighbridge_icmp_unreachable), ("weighbridge/icmp.timeExceeded", laid_weighbridge_icmp_timeExceeded), ("weighbridge/icmp.parameterProblem", laid_weighbridge_icmp_parameterProblem)], narrowed := true }
def PatchInsideUptoSaid : Prop := patchInsideUptoRow.holds Tryz.pinned (OpenSpec.upto patchInsideSpec)

/-- 'weighbridgelaw10.PatchRefuses', WHERE WHAT IT READS IS OF BULK AT MOST 1048576: true; the input reads as it did. -/
def patchRefusesUptoRow : OpenClaim := { program := "ytpjaajeojiaeiaagreatdoor", sum := "bebea15bd830ee62ceed179c0594999e6cbcf9b181845c75a55e324eeb88255a", func := "weighbridge/weighbridgelaw10.PatchRefuses", spec := "patchRefuses", unfollowed := true, recurses := true, named := ["weighbridge/icmp.unreachable", "weighbridge/icmp.timeExceeded", "weighbridge/icmp.parameterProblem"], apart := false, laid := [("weighbridge/icmp.unreachable", laid_weighbridge_icmp_unreachable), ("weighbridge/icmp.timeExceeded", laid_weighbridge_icmp_timeExceeded), ("weighbridge/icmp.parameterProblem", laid_weighbridge_icmp_parameterProblem)], narrowed := true }
def PatchRefusesUptoSaid : Prop := patchRefusesUptoRow.holds Tryz.pinned (OpenSpec.upto patchRefusesSpec)

/-- 'weighbridgelaw10.PatchPads', WHERE WHAT IT READS IS OF BULK AT MOST 1048576: true; the input reads as it did. -/
def patchPadsUptoRow : OpenClaim := { program := "ytpjaajeojiaeiaagreatdoor", sum := "bebea15bd830ee62ceed179c0594999e6cbcf9b181845c75a55e324eeb88255a", func := "weighbridge/weighbridgelaw10.PatchPads", spec := "patchPads", unfollowed := true, recurses := true, named := ["weighbridge/icmp.unreachable", "weighbridge/icmp.timeExceeded", "weighbridge/icmp.parameterProblem"], apart := false, laid := [("weighbridge/icmp.unreachable", laid_weighbridge_icmp_unreachable), ("weighbridge/icmp.timeExceeded", laid_weighbridge_icmp_timeExceeded), ("weighbridge/icmp.parameterProblem", laid_weighbridge_icmp_parameterProblem)], narrowed := true }
def PatchPadsUptoSaid : Prop := patchPadsUptoRow.holds Tryz.pinned (OpenSpec.upto patchPadsSpec)

end Rows
end Go.Proofs.YtpjaajeojiaeiaaGreatDoor
