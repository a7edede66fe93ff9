/-
  DERIVED. GIVEN WITH THE SEED: THE CARDS: each row of YtinllnaekcifjaaGreatDoorRows.lean that lists a variable, with what it lists TIED to the program's text (the seventh form; the later family's looks); each row that meets fmt, with fmt's text TOLD by the authors' own Lean function (tested against real Go, not proved from fmt's source: count such statements apart). THE CARD IS WHAT COUNTS. Prove the row's statement (the work); the ties are given (YtinllnaekcifjaaGreatDoorTie.lean); close each card by the builder's one call (the guide's Derived/Test/ToyasCard.lean, 'card_holds'). Laid BY PROGRAM, IN A SANDBOX (cutbox-door.mjs). By AI agents, Wed Nov 11 2026. No macro, syntax, notation, axiom, sorry.
-/
import Derived.Test.YtinllnaekcifjaaGreatDoorRows
import GoSem.ClaimSeven
namespace Go.Proofs.YtinllnaekcifjaaGreatDoor
namespace Rows

/-- THE TIED CARD OF 'weighbridgelaw09.PacketClassifies'. -/
def packetClassifiesCard : Claim7 := { stood := { row := packetClassifiesRow, standIns := [], harness := (true, "19c4c51c1ca56c296dbacd08f5755a553b31a79d258b3f2a2d8197cfdaba3f54"), looks := false }, kinds := [], alts := [], laidByText := true, laidKinds := [.data, .data, .data], laidTests := true, laidLooks := .later }
def PacketClassifiesCardSaid : Prop := Claim7.holds Tryz.pinned (.plain (OpenSpec.ofChange packetClassifiesSpec)) packetClassifiesCard

/-- THE SECOND FORM's CARD OF 'weighbridgelaw09.PacketClassifies'. -/
def packetClassifiesUptoCard : Claim7 := { stood := { row := packetClassifiesUptoRow, standIns := [], harness := (true, "19c4c51c1ca56c296dbacd08f5755a553b31a79d258b3f2a2d8197cfdaba3f54"), looks := false }, kinds := [], alts := [], laidByText := true, laidKinds := [.data, .data, .data], laidTests := true, laidLooks := .later }
def PacketClassifiesUptoCardSaid : Prop := Claim7.holds Tryz.pinned (.plain (OpenSpec.upto packetClassifiesSpec)) packetClassifiesUptoCard
end Rows
end Go.Proofs.YtinllnaekcifjaaGreatDoor
