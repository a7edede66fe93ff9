/-
  No cell of these rows narrows 'for every input' (looked for: loops, veiled, ifaces, maps, wideKeys, modest, calm, conditions, laid).
  DERIVED. THE GIVEN ROWS OF THIS SEAT. 4 by the template 'for every input the law returns true; each argument reads behind the call as it read before'; 0 by the template 'total and deterministic' (their statements: YtbncjinkojeioaaTotals.lean).
  GIVEN WITH THE SEED: the statements are not yours to turn. If you find one false, say at which input.
  Laid BY PROGRAM, IN A SANDBOX (cutbox-rows.mjs): the forced cells as the released guide's own fill.sh prints them over the translation 1452d3c7888c137c… (all of the seat's roots in one cut). By AI agents, Wed Nov 11 2026. No macro, syntax, notation, axiom, sorry.
-/
import Derived.Test.YtbncjinkojeioaaChecked
import GoSem.Claim
import GoSem.ClaimJoined
import GoSem.ClaimMapViews
import Derived.JoinedTies
import Derived.KernelRfl
namespace Go.Proofs.Ytbncjinkojeioaa
/- THE CELL 'sum', in the pinned program and in every row, IS THE sha256 OF THE DUMP (.gsa) THAT YtbncjinkojeioaaProg.lean LOADS. Nothing in Lean hashes anything: it is a label: what it is worth is what the hold of that sum in a sandbox is worth. -/
noncomputable def Try.pinned : Pinned := { name := "ytbncjinkojeioaa", sum := "1452d3c7888c137cabe71b4aeddc129a33eeb124111ab1533332bf36ee6fb6a6", checked := Try.checked }
namespace Rows
def none {H : Type} : Left H := { results := [], args := [] }

/-- 'weighbridgelaw14.CursorPlays': WHATEVER THE INPUT: true; the input reads as it did. -/
def cursorPlaysSpec : ChangeSpec := { name := "cursorPlays", fn := fun _ => fun
  | [d1, d2] => { results := [.lit (.bool true)], args := [d1, d2] }
  | _ => none }
def cursorPlaysRow : OpenClaim := { program := "ytbncjinkojeioaa", sum := "1452d3c7888c137cabe71b4aeddc129a33eeb124111ab1533332bf36ee6fb6a6", func := "weighbridge/weighbridgelaw14.CursorPlays", spec := "cursorPlays", apart := false }
def CursorPlaysSaid : Prop := cursorPlaysRow.holds Try.pinned (OpenSpec.ofChange cursorPlaysSpec)

/-- ITS FALSE NEIGHBOUR: 'it returns false'. Refute it at one input. -/
def cursorPlaysWrong : ChangeSpec := { name := "cursorPlays", fn := fun _ => fun
  | [d1, d2] => { results := [.lit (.bool false)], args := [d1, d2] }
  | _ => none }
def CursorPlaysWrongFalsely : Prop := cursorPlaysRow.holds Try.pinned (OpenSpec.ofChange cursorPlaysWrong)

/-- 'weighbridgelaw14.CursorRounds': WHATEVER THE INPUT: true; the input reads as it did. -/
def cursorRoundsSpec : ChangeSpec := { name := "cursorRounds", fn := fun _ => fun
  | [d1, d2] => { results := [.lit (.bool true)], args := [d1, d2] }
  | _ => none }
def cursorRoundsRow : OpenClaim := { program := "ytbncjinkojeioaa", sum := "1452d3c7888c137cabe71b4aeddc129a33eeb124111ab1533332bf36ee6fb6a6", func := "weighbridge/weighbridgelaw14.CursorRounds", spec := "cursorRounds", apart := false }
def CursorRoundsSaid : Prop := cursorRoundsRow.holds Try.pinned (OpenSpec.ofChange cursorRoundsSpec)

/-- ITS FALSE NEIGHBOUR: 'it returns false'. Refute it at one input. -/
def cursorRoundsWrong : ChangeSpec := { name := "cursorRounds", fn := fun _ => fun
  | [d1, d2] => { results := [.lit (.bool false)], args := [d1, d2] }
  | _ => none }
def CursorRoundsWrongFalsely : Prop := cursorRoundsRow.holds Try.pinned (OpenSpec.ofChange cursorRoundsWrong)

/-- 'weighbridgelaw14.CursorTurns': WHATEVER THE INPUT: true; the input reads as it did. -/
def cursorTurnsSpec : ChangeSpec := { name := "cursorTurns", fn := fun _ => fun
  | [d1, d2] => { results := [.lit (.bool true)], args := [d1, d2] }
  | _ => none }
def cursorTurnsRow : OpenClaim := { program := "ytbncjinkojeioaa", sum := "1452d3c7888c137cabe71b4aeddc129a33eeb124111ab1533332bf36ee6fb6a6", func := "weighbridge/weighbridgelaw14.CursorTurns", spec := "cursorTurns", apart := false }
def CursorTurnsSaid : Prop := cursorTurnsRow.holds Try.pinned (OpenSpec.ofChange cursorTurnsSpec)

/-- ITS FALSE NEIGHBOUR: 'it returns false'. Refute it at one input. -/
def cursorTurnsWrong : ChangeSpec := { name := "cursorTurns", fn := fun _ => fun
  | [d1, d2] => { results := [.lit (.bool false)], args := [d1, d2] }
  | _ => none }
def CursorTurnsWrongFalsely : Prop := cursorTurnsRow.holds Try.pinned (OpenSpec.ofChange cursorTurnsWrong)

/-- 'weighbridgelaw14.CursorHolds': WHATEVER THE INPUT: true; the input reads as it did. -/
def cursorHoldsSpec : ChangeSpec := { name := "cursorHolds", fn := fun _ => fun
  | [d1, d2] => { results := [.lit (.bool true)], args := [d1, d2] }
  | _ => none }
def cursorHoldsRow : OpenClaim := { program := "ytbncjinkojeioaa", sum := "1452d3c7888c137cabe71b4aeddc129a33eeb124111ab1533332bf36ee6fb6a6", func := "weighbridge/weighbridgelaw14.CursorHolds", spec := "cursorHolds", apart := false }
def CursorHoldsSaid : Prop := cursorHoldsRow.holds Try.pinned (OpenSpec.ofChange cursorHoldsSpec)

/-- ITS FALSE NEIGHBOUR: 'it returns false'. Refute it at one input. -/
def cursorHoldsWrong : ChangeSpec := { name := "cursorHolds", fn := fun _ => fun
  | [d1, d2] => { results := [.lit (.bool false)], args := [d1, d2] }
  | _ => none }
def CursorHoldsWrongFalsely : Prop := cursorHoldsRow.holds Try.pinned (OpenSpec.ofChange cursorHoldsWrong)

/- THE SECOND FORM. 'bulk': how many values and letters a reading holds, each counted each time it is reached (what is shared counts as often as it is met; a slice's spare places count too). A statement '..UptoSaid' is the law's where the arguments, and the package variables that the reading takes, are together of bulk at most 1048576: NARROWER than '..Said'. Prove '..Said' where nothing that the law and all that it calls make is longer than what came in: it says more and counts as full. Else prove '..UptoSaid'. A law counts once. -/
mutual
def uptoBulk {H : Type} : DataW H → Nat
  | .lit (.string bytes) => bytes.length + 1
  | .lit _ => 1
  | .nil => 1
  | .ptr d => uptoBulk d + 1
  | .slice elems spare => uptoBulkAll elems + uptoBulkAll spare + 1
  | .agg parts => uptoBulkAll parts + 1
  | .iface _ d => uptoBulk d + 1
  | .map entries => uptoBulkEntries entries + 1
  | .held _ => 1
def uptoBulkAll {H : Type} : List (DataW H) → Nat
  | [] => 0
  | d :: r => uptoBulk d + uptoBulkAll r
def uptoBulkEntries {H : Type} : List (Lit × DataW H) → Nat
  | [] => 0
  | x :: r => uptoBulkEntry x + uptoBulkEntries r
def uptoBulkEntry {H : Type} : Lit × DataW H → Nat
  | (.string bytes, d) => bytes.length + uptoBulk d + 1
  | (_, d) => uptoBulk d + 1
 end
def uptoSmall : (H : Type) → List (DataW H) → Bool := fun _ ds => decide (uptoBulkAll ds ≤ 1048576)
def OpenSpec.upto (s : _root_.Go.ChangeSpec) : _root_.Go.OpenSpec := { _root_.Go.OpenSpec.ofChange s with cond := some uptoSmall }

/-- 'weighbridgelaw14.CursorPlays', WHERE WHAT IT READS IS OF BULK AT MOST 1048576: true; the input reads as it did. -/
def cursorPlaysUptoRow : OpenClaim := { program := "ytbncjinkojeioaa", sum := "1452d3c7888c137cabe71b4aeddc129a33eeb124111ab1533332bf36ee6fb6a6", func := "weighbridge/weighbridgelaw14.CursorPlays", spec := "cursorPlays", apart := false, narrowed := true }
def CursorPlaysUptoSaid : Prop := cursorPlaysUptoRow.holds Try.pinned (OpenSpec.upto cursorPlaysSpec)

/-- 'weighbridgelaw14.CursorRounds', WHERE WHAT IT READS IS OF BULK AT MOST 1048576: true; the input reads as it did. -/
def cursorRoundsUptoRow : OpenClaim := { program := "ytbncjinkojeioaa", sum := "1452d3c7888c137cabe71b4aeddc129a33eeb124111ab1533332bf36ee6fb6a6", func := "weighbridge/weighbridgelaw14.CursorRounds", spec := "cursorRounds", apart := false, narrowed := true }
def CursorRoundsUptoSaid : Prop := cursorRoundsUptoRow.holds Try.pinned (OpenSpec.upto cursorRoundsSpec)

/-- 'weighbridgelaw14.CursorTurns', WHERE WHAT IT READS IS OF BULK AT MOST 1048576: true; the input reads as it did. -/
def cursorTurnsUptoRow : OpenClaim := { program := "ytbncjinkojeioaa", sum := "1452d3c7888c137cabe71b4aeddc129a33eeb124111ab1533332bf36ee6fb6a6", func := "weighbridge/weighbridgelaw14.CursorTurns", spec := "cursorTurns", apart := false, narrowed := true }
def CursorTurnsUptoSaid : Prop := cursorTurnsUptoRow.holds Try.pinned (OpenSpec.upto cursorTurnsSpec)

/-- 'weighbridgelaw14.CursorHolds', WHERE WHAT IT READS IS OF BULK AT MOST 1048576: true; the input reads as it did. -/
def cursorHoldsUptoRow : OpenClaim := { program := "ytbncjinkojeioaa", sum := "1452d3c7888c137cabe71b4aeddc129a33eeb124111ab1533332bf36ee6fb6a6", func := "weighbridge/weighbridgelaw14.CursorHolds", spec := "cursorHolds", apart := false, narrowed := true }
def CursorHoldsUptoSaid : Prop := cursorHoldsUptoRow.holds Try.pinned (OpenSpec.upto cursorHoldsSpec)

end Rows
end Go.Proofs.Ytbncjinkojeioaa
