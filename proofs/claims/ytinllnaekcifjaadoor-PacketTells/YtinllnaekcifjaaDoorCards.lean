/-
  DERIVED. GIVEN WITH THE SEED: THE CARDS: each row of YtinllnaekcifjaaDoorRows.lean that lists a variable, with what it lists TIED to the program's text (the seventh form; the later family's looks); each row that meets fmt, with fmt's text TOLD by the authors' own Lean function (tested against real Go, not proved from fmt's source: count such statements apart). THE CARD IS WHAT COUNTS. Prove the row's statement (the work); the ties are given (YtinllnaekcifjaaDoorTie.lean); close each card by the builder's one call (the guide's Derived/Test/ToyasCard.lean, 'card_holds'). Laid BY PROGRAM, IN A SANDBOX (cutbox-door.mjs). By AI agents, Wed Nov 11 2026. No macro, syntax, notation, axiom, sorry.
-/
import Derived.Test.YtinllnaekcifjaaDoorRows
import GoSem.ClaimSeven
namespace Go.Proofs.YtinllnaekcifjaaDoor
namespace Rows

/-- THE TIED CARD OF 'weighbridgelaw09.PacketKeys'. -/
def packetKeysCard : Claim7 := { stood := { row := packetKeysRow, standIns := [], harness := (true, "aa8c624654515f7238fa51b3a645de82ac3191353543505946a0b63c1233214b"), looks := false }, kinds := [], alts := [], laidByText := true, laidKinds := [.data, .data, .data], laidTests := true, laidLooks := .later }
def PacketKeysCardSaid : Prop := Claim7.holds Tryd.pinned (.plain (OpenSpec.ofChange packetKeysSpec)) packetKeysCard

/-- THE TIED CARD OF 'weighbridgelaw09.PacketBack'. -/
def packetBackCard : Claim7 := { stood := { row := packetBackRow, standIns := [], harness := (true, "aa8c624654515f7238fa51b3a645de82ac3191353543505946a0b63c1233214b"), looks := false }, kinds := [], alts := [], laidByText := true, laidKinds := [.data, .data, .data], laidTests := true, laidLooks := .later }
def PacketBackCardSaid : Prop := Claim7.holds Tryd.pinned (.plain (OpenSpec.ofChange packetBackSpec)) packetBackCard

/-- THE TIED CARD OF 'weighbridgelaw09.PacketTells'. -/
def packetTellsCard : Claim7 := { stood := { row := packetTellsRow, standIns := [], harness := (true, "aa8c624654515f7238fa51b3a645de82ac3191353543505946a0b63c1233214b"), looks := false }, kinds := [], alts := [], laidByText := true, laidKinds := [.data, .data, .data], laidTests := true, laidLooks := .later }
def PacketTellsCardSaid : Prop := Claim7.holds Tryd.pinned (.plain (OpenSpec.ofChange packetTellsSpec)) packetTellsCard

/-- THE TIED CARD OF 'weighbridgelaw09.PacketParts'. -/
def packetPartsCard : Claim7 := { stood := { row := packetPartsRow, standIns := [], harness := (true, "aa8c624654515f7238fa51b3a645de82ac3191353543505946a0b63c1233214b"), looks := false }, kinds := [], alts := [], laidByText := true, laidKinds := [.data, .data, .data], laidTests := true, laidLooks := .later }
def PacketPartsCardSaid : Prop := Claim7.holds Tryd.pinned (.plain (OpenSpec.ofChange packetPartsSpec)) packetPartsCard

/-- THE TIED CARD OF 'weighbridgelaw09.PacketSums'. -/
def packetSumsCard : Claim7 := { stood := { row := packetSumsRow, standIns := [], harness := (true, "aa8c624654515f7238fa51b3a645de82ac3191353543505946a0b63c1233214b"), looks := false }, kinds := [], alts := [], laidByText := true, laidKinds := [.data, .data, .data], laidTests := true, laidLooks := .later }
def PacketSumsCardSaid : Prop := Claim7.holds Tryd.pinned (.plain (OpenSpec.ofChange packetSumsSpec)) packetSumsCard

/-- THE SECOND FORM's CARD OF 'weighbridgelaw09.PacketKeys'. -/
def packetKeysUptoCard : Claim7 := { stood := { row := packetKeysUptoRow, standIns := [], harness := (true, "aa8c624654515f7238fa51b3a645de82ac3191353543505946a0b63c1233214b"), looks := false }, kinds := [], alts := [], laidByText := true, laidKinds := [.data, .data, .data], laidTests := true, laidLooks := .later }
def PacketKeysUptoCardSaid : Prop := Claim7.holds Tryd.pinned (.plain (OpenSpec.upto packetKeysSpec)) packetKeysUptoCard

/-- THE SECOND FORM's CARD OF 'weighbridgelaw09.PacketBack'. -/
def packetBackUptoCard : Claim7 := { stood := { row := packetBackUptoRow, standIns := [], harness := (true, "aa8c624654515f7238fa51b3a645de82ac3191353543505946a0b63c1233214b"), looks := false }, kinds := [], alts := [], laidByText := true, laidKinds := [.data, .data, .data], laidTests := true, laidLooks := .later }
def PacketBackUptoCardSaid : Prop := Claim7.holds Tryd.pinned (.plain (OpenSpec.upto packetBackSpec)) packetBackUptoCard

/-- THE SECOND FORM's CARD OF 'weighbridgelaw09.PacketTells'. -/
def packetTellsUptoCard : Claim7 := { stood := { row := packetTellsUptoRow, standIns := [], harness := (true, "aa8c624654515f7238fa51b3a645de82ac3191353543505946a0b63c1233214b"), looks := false }, kinds := [], alts := [], laidByText := true, laidKinds := [.data, .data, .data], laidTests := true, laidLooks := .later }
def PacketTellsUptoCardSaid : Prop := Claim7.holds Tryd.pinned (.plain (OpenSpec.upto packetTellsSpec)) packetTellsUptoCard

/-- THE SECOND FORM's CARD OF 'weighbridgelaw09.PacketParts'. -/
def packetPartsUptoCard : Claim7 := { stood := { row := packetPartsUptoRow, standIns := [], harness := (true, "aa8c624654515f7238fa51b3a645de82ac3191353543505946a0b63c1233214b"), looks := false }, kinds := [], alts := [], laidByText := true, laidKinds := [.data, .data, .data], laidTests := true, laidLooks := .later }
def PacketPartsUptoCardSaid : Prop := Claim7.holds Tryd.pinned (.plain (OpenSpec.upto packetPartsSpec)) packetPartsUptoCard

/-- THE SECOND FORM's CARD OF 'weighbridgelaw09.PacketSums'. -/
def packetSumsUptoCard : Claim7 := { stood := { row := packetSumsUptoRow, standIns := [], harness := (true, "aa8c624654515f7238fa51b3a645de82ac3191353543505946a0b63c1233214b"), looks := false }, kinds := [], alts := [], laidByText := true, laidKinds := [.data, .data, .data], laidTests := true, laidLooks := .later }
def PacketSumsUptoCardSaid : Prop := Claim7.holds Tryd.pinned (.plain (OpenSpec.upto packetSumsSpec)) packetSumsUptoCard
end Rows
end Go.Proofs.YtinllnaekcifjaaDoor
