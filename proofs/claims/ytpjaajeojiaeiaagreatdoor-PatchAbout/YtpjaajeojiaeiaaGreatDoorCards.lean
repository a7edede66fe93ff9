/-
  DERIVED. GIVEN WITH THE SEED: THE CARDS: each row of YtpjaajeojiaeiaaGreatDoorRows.lean that lists a variable, with what it lists TIED to the program's text (the seventh form; the later family's looks); each row that meets fmt, with fmt's text TOLD by the authors' own Lean function (tested against real Go, not proved from fmt's source: count such statements apart). THE CARD IS WHAT COUNTS. Prove the row's statement (the work); the ties are given (YtpjaajeojiaeiaaGreatDoorTie.lean); close each card by the builder's one call (the guide's Derived/Test/ToyasCard.lean, 'card_holds'). Laid BY PROGRAM, IN A SANDBOX (cutbox-door.mjs). By AI agents, Wed Nov 11 2026. No macro, syntax, notation, axiom, sorry.
-/
import Derived.Test.YtpjaajeojiaeiaaGreatDoorRows
import GoSem.ClaimSeven
namespace Go.Proofs.YtpjaajeojiaeiaaGreatDoor
namespace Rows

/-- THE TIED CARD OF 'weighbridgelaw10.PatchPlain'. -/
def patchPlainCard : Claim7 := { stood := { row := patchPlainRow, standIns := [], harness := (true, "378835c0d2cb3b1574d9ddc72c7f9da1180a0c68d4a58fe4e706f335d8aecbaf"), looks := false }, kinds := [], alts := [], laidByText := true, laidKinds := [.data, .data, .data], laidTests := true, laidLooks := .later }
def PatchPlainCardSaid : Prop := Claim7.holds Tryz.pinned (.plain (OpenSpec.ofChange patchPlainSpec)) patchPlainCard

/-- THE TIED CARD OF 'weighbridgelaw10.PatchAbout'. -/
def patchAboutCard : Claim7 := { stood := { row := patchAboutRow, standIns := [], harness := (true, "378835c0d2cb3b1574d9ddc72c7f9da1180a0c68d4a58fe4e706f335d8aecbaf"), looks := false }, kinds := [], alts := [], laidByText := true, laidKinds := [.data, .data, .data], laidTests := true, laidLooks := .later }
def PatchAboutCardSaid : Prop := Claim7.holds Tryz.pinned (.plain (OpenSpec.ofChange patchAboutSpec)) patchAboutCard

/-- THE TIED CARD OF 'weighbridgelaw10.PatchBack'. -/
def patchBackCard : Claim7 := { stood := { row := patchBackRow, standIns := [], harness := (true, "378835c0d2cb3b1574d9ddc72c7f9da1180a0c68d4a58fe4e706f335d8aecbaf"), looks := false }, kinds := [], alts := [], laidByText := true, laidKinds := [.data, .data, .data], laidTests := true, laidLooks := .later }
def PatchBackCardSaid : Prop := Claim7.holds Tryz.pinned (.plain (OpenSpec.ofChange patchBackSpec)) patchBackCard

/-- THE TIED CARD OF 'weighbridgelaw10.PatchSame'. -/
def patchSameCard : Claim7 := { stood := { row := patchSameRow, standIns := [], harness := (true, "378835c0d2cb3b1574d9ddc72c7f9da1180a0c68d4a58fe4e706f335d8aecbaf"), looks := false }, kinds := [], alts := [], laidByText := true, laidKinds := [.data, .data, .data], laidTests := true, laidLooks := .later }
def PatchSameCardSaid : Prop := Claim7.holds Tryz.pinned (.plain (OpenSpec.ofChange patchSameSpec)) patchSameCard

/-- THE TIED CARD OF 'weighbridgelaw10.PatchInside'. -/
def patchInsideCard : Claim7 := { stood := { row := patchInsideRow, standIns := [], harness := (true, "378835c0d2cb3b1574d9ddc72c7f9da1180a0c68d4a58fe4e706f335d8aecbaf"), looks := false }, kinds := [], alts := [], laidByText := true, laidKinds := [.data, .data, .data], laidTests := true, laidLooks := .later }
def PatchInsideCardSaid : Prop := Claim7.holds Tryz.pinned (.plain (OpenSpec.ofChange patchInsideSpec)) patchInsideCard

/-- THE TIED CARD OF 'weighbridgelaw10.PatchRefuses'. -/
def patchRefusesCard : Claim7 := { stood := { row := patchRefusesRow, standIns := [], harness := (true, "378835c0d2cb3b1574d9ddc72c7f9da1180a0c68d4a58fe4e706f335d8aecbaf"), looks := false }, kinds := [], alts := [], laidByText := true, laidKinds := [.data, .data, .data], laidTests := true, laidLooks := .later }
def PatchRefusesCardSaid : Prop := Claim7.holds Tryz.pinned (.plain (OpenSpec.ofChange patchRefusesSpec)) patchRefusesCard

/-- THE TIED CARD OF 'weighbridgelaw10.PatchPads'. -/
def patchPadsCard : Claim7 := { stood := { row := patchPadsRow, standIns := [], harness := (true, "378835c0d2cb3b1574d9ddc72c7f9da1180a0c68d4a58fe4e706f335d8aecbaf"), looks := false }, kinds := [], alts := [], laidByText := true, laidKinds := [.data, .data, .data], laidTests := true, laidLooks := .later }
def PatchPadsCardSaid : Prop := Claim7.holds Tryz.pinned (.plain (OpenSpec.ofChange patchPadsSpec)) patchPadsCard

/-- THE SECOND FORM's CARD OF 'weighbridgelaw10.PatchPlain'. -/
def patchPlainUptoCard : Claim7 := { stood := { row := patchPlainUptoRow, standIns := [], harness := (true, "378835c0d2cb3b1574d9ddc72c7f9da1180a0c68d4a58fe4e706f335d8aecbaf"), looks := false }, kinds := [], alts := [], laidByText := true, laidKinds := [.data, .data, .data], laidTests := true, laidLooks := .later }
def PatchPlainUptoCardSaid : Prop := Claim7.holds Tryz.pinned (.plain (OpenSpec.upto patchPlainSpec)) patchPlainUptoCard

/-- THE SECOND FORM's CARD OF 'weighbridgelaw10.PatchAbout'. -/
def patchAboutUptoCard : Claim7 := { stood := { row := patchAboutUptoRow, standIns := [], harness := (true, "378835c0d2cb3b1574d9ddc72c7f9da1180a0c68d4a58fe4e706f335d8aecbaf"), looks := false }, kinds := [], alts := [], laidByText := true, laidKinds := [.data, .data, .data], laidTests := true, laidLooks := .later }
def PatchAboutUptoCardSaid : Prop := Claim7.holds Tryz.pinned (.plain (OpenSpec.upto patchAboutSpec)) patchAboutUptoCard

/-- THE SECOND FORM's CARD OF 'weighbridgelaw10.PatchBack'. -/
def patchBackUptoCard : Claim7 := { stood := { row := patchBackUptoRow, standIns := [], harness := (true, "378835c0d2cb3b1574d9ddc72c7f9da1180a0c68d4a58fe4e706f335d8aecbaf"), looks := false }, kinds := [], alts := [], laidByText := true, laidKinds := [.data, .data, .data], laidTests := true, laidLooks := .later }
def PatchBackUptoCardSaid : Prop := Claim7.holds Tryz.pinned (.plain (OpenSpec.upto patchBackSpec)) patchBackUptoCard

/-- THE SECOND FORM's CARD OF 'weighbridgelaw10.PatchSame'. -/
def patchSameUptoCard : Claim7 := { stood := { row := patchSameUptoRow, standIns := [], harness := (true, "378835c0d2cb3b1574d9ddc72c7f9da1180a0c68d4a58fe4e706f335d8aecbaf"), looks := false }, kinds := [], alts := [], laidByText := true, laidKinds := [.data, .data, .data], laidTests := true, laidLooks := .later }
def PatchSameUptoCardSaid : Prop := Claim7.holds Tryz.pinned (.plain (OpenSpec.upto patchSameSpec)) patchSameUptoCard

/-- THE SECOND FORM's CARD OF 'weighbridgelaw10.PatchInside'. -/
def patchInsideUptoCard : Claim7 := { stood := { row := patchInsideUptoRow, standIns := [], harness := (true, "378835c0d2cb3b1574d9ddc72c7f9da1180a0c68d4a58fe4e706f335d8aecbaf"), looks := false }, kinds := [], alts := [], laidByText := true, laidKinds := [.data, .data, .data], laidTests := true, laidLooks := .later }
def PatchInsideUptoCardSaid : Prop := Claim7.holds Tryz.pinned (.plain (OpenSpec.upto patchInsideSpec)) patchInsideUptoCard

/-- THE SECOND FORM's CARD OF 'weighbridgelaw10.PatchRefuses'. -/
def patchRefusesUptoCard : Claim7 := { stood := { row := patchRefusesUptoRow, standIns := [], harness := (true, "378835c0d2cb3b1574d9ddc72c7f9da1180a0c68d4a58fe4e706f335d8aecbaf"), looks := false }, kinds := [], alts := [], laidByText := true, laidKinds := [.data, .data, .data], laidTests := true, laidLooks := .later }
def PatchRefusesUptoCardSaid : Prop := Claim7.holds Tryz.pinned (.plain (OpenSpec.upto patchRefusesSpec)) patchRefusesUptoCard

/-- THE SECOND FORM's CARD OF 'weighbridgelaw10.PatchPads'. -/
def patchPadsUptoCard : Claim7 := { stood := { row := patchPadsUptoRow, standIns := [], harness := (true, "378835c0d2cb3b1574d9ddc72c7f9da1180a0c68d4a58fe4e706f335d8aecbaf"), looks := false }, kinds := [], alts := [], laidByText := true, laidKinds := [.data, .data, .data], laidTests := true, laidLooks := .later }
def PatchPadsUptoCardSaid : Prop := Claim7.holds Tryz.pinned (.plain (OpenSpec.upto patchPadsSpec)) patchPadsUptoCard
end Rows
end Go.Proofs.YtpjaajeojiaeiaaGreatDoor
