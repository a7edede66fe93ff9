/-
  DERIVED. GIVEN WITH THE SEED: THE CARDS: each row of YteggaeleehlhmaaDoorRows.lean that lists a variable, with what it lists TIED to the program's text (the seventh form; the later family's looks); each row that meets fmt, with fmt's text TOLD by the authors' own Lean function (tested against real Go, not proved from fmt's source: count such statements apart). THE CARD IS WHAT COUNTS. Prove the row's statement (the work); the ties are given (YteggaeleehlhmaaDoorTie.lean); close each card by the builder's one call (the guide's Derived/Test/ToyasCard.lean, 'card_holds'). Laid BY PROGRAM, IN A SANDBOX (cutbox-door.mjs). By AI agents, Wed Nov 11 2026. No macro, syntax, notation, axiom, sorry.
-/
import Derived.Test.YteggaeleehlhmaaDoorRows
import GoSem.ClaimSeven
namespace Go.Proofs.YteggaeleehlhmaaDoor
namespace Rows

/-- THE TIED CARD OF 'weighbridgelaw07.IcmpBuilds'. -/
def icmpBuildsCard : Claim7 := { stood := { row := icmpBuildsRow, standIns := [], harness := (true, "077eb40922b13e3b944ff3d3721a2a94d47dfedc1d95343a869752d791fbb0f3"), looks := false }, kinds := [], alts := [], laidByText := true, laidKinds := [.data, .data, .data, .data], laidTests := true, laidLooks := .later }
def IcmpBuildsCardSaid : Prop := Claim7.holds Tryd.pinned (.plain (OpenSpec.ofChange icmpBuildsSpec)) icmpBuildsCard

/-- THE TIED CARD OF 'weighbridgelaw07.IcmpParses'. -/
def icmpParsesCard : Claim7 := { stood := { row := icmpParsesRow, standIns := [], harness := (true, "077eb40922b13e3b944ff3d3721a2a94d47dfedc1d95343a869752d791fbb0f3"), looks := false }, kinds := [], alts := [], laidByText := true, laidKinds := [.data, .data, .data, .data], laidTests := true, laidLooks := .later }
def IcmpParsesCardSaid : Prop := Claim7.holds Tryd.pinned (.plain (OpenSpec.ofChange icmpParsesSpec)) icmpParsesCard

/-- THE TIED CARD OF 'weighbridgelaw07.IcmpBack'. -/
def icmpBackCard : Claim7 := { stood := { row := icmpBackRow, standIns := [], harness := (true, "077eb40922b13e3b944ff3d3721a2a94d47dfedc1d95343a869752d791fbb0f3"), looks := false }, kinds := [], alts := [], laidByText := true, laidKinds := [.data, .data, .data, .data], laidTests := true, laidLooks := .later }
def IcmpBackCardSaid : Prop := Claim7.holds Tryd.pinned (.plain (OpenSpec.ofChange icmpBackSpec)) icmpBackCard

/-- THE TIED CARD OF 'weighbridgelaw07.IcmpKinds'. -/
def icmpKindsCard : Claim7 := { stood := { row := icmpKindsRow, standIns := [], harness := (true, "077eb40922b13e3b944ff3d3721a2a94d47dfedc1d95343a869752d791fbb0f3"), looks := false }, kinds := [], alts := [], laidByText := true, laidKinds := [.data, .data, .data, .data], laidTests := true, laidLooks := .later }
def IcmpKindsCardSaid : Prop := Claim7.holds Tryd.pinned (.plain (OpenSpec.ofChange icmpKindsSpec)) icmpKindsCard

/-- THE TIED CARD OF 'weighbridgelaw07.IcmpCut'. -/
def icmpCutCard : Claim7 := { stood := { row := icmpCutRow, standIns := [], harness := (true, "077eb40922b13e3b944ff3d3721a2a94d47dfedc1d95343a869752d791fbb0f3"), looks := false }, kinds := [], alts := [], laidByText := true, laidKinds := [.data, .data, .data, .data], laidTests := true, laidLooks := .later }
def IcmpCutCardSaid : Prop := Claim7.holds Tryd.pinned (.plain (OpenSpec.ofChange icmpCutSpec)) icmpCutCard

/-- THE SECOND FORM's CARD OF 'weighbridgelaw07.IcmpBuilds'. -/
def icmpBuildsUptoCard : Claim7 := { stood := { row := icmpBuildsUptoRow, standIns := [], harness := (true, "077eb40922b13e3b944ff3d3721a2a94d47dfedc1d95343a869752d791fbb0f3"), looks := false }, kinds := [], alts := [], laidByText := true, laidKinds := [.data, .data, .data, .data], laidTests := true, laidLooks := .later }
def IcmpBuildsUptoCardSaid : Prop := Claim7.holds Tryd.pinned (.plain (OpenSpec.upto icmpBuildsSpec)) icmpBuildsUptoCard

/-- THE SECOND FORM's CARD OF 'weighbridgelaw07.IcmpParses'. -/
def icmpParsesUptoCard : Claim7 := { stood := { row := icmpParsesUptoRow, standIns := [], harness := (true, "077eb40922b13e3b944ff3d3721a2a94d47dfedc1d95343a869752d791fbb0f3"), looks := false }, kinds := [], alts := [], laidByText := true, laidKinds := [.data, .data, .data, .data], laidTests := true, laidLooks := .later }
def IcmpParsesUptoCardSaid : Prop := Claim7.holds Tryd.pinned (.plain (OpenSpec.upto icmpParsesSpec)) icmpParsesUptoCard

/-- THE SECOND FORM's CARD OF 'weighbridgelaw07.IcmpBack'. -/
def icmpBackUptoCard : Claim7 := { stood := { row := icmpBackUptoRow, standIns := [], harness := (true, "077eb40922b13e3b944ff3d3721a2a94d47dfedc1d95343a869752d791fbb0f3"), looks := false }, kinds := [], alts := [], laidByText := true, laidKinds := [.data, .data, .data, .data], laidTests := true, laidLooks := .later }
def IcmpBackUptoCardSaid : Prop := Claim7.holds Tryd.pinned (.plain (OpenSpec.upto icmpBackSpec)) icmpBackUptoCard

/-- THE SECOND FORM's CARD OF 'weighbridgelaw07.IcmpKinds'. -/
def icmpKindsUptoCard : Claim7 := { stood := { row := icmpKindsUptoRow, standIns := [], harness := (true, "077eb40922b13e3b944ff3d3721a2a94d47dfedc1d95343a869752d791fbb0f3"), looks := false }, kinds := [], alts := [], laidByText := true, laidKinds := [.data, .data, .data, .data], laidTests := true, laidLooks := .later }
def IcmpKindsUptoCardSaid : Prop := Claim7.holds Tryd.pinned (.plain (OpenSpec.upto icmpKindsSpec)) icmpKindsUptoCard

/-- THE SECOND FORM's CARD OF 'weighbridgelaw07.IcmpCut'. -/
def icmpCutUptoCard : Claim7 := { stood := { row := icmpCutUptoRow, standIns := [], harness := (true, "077eb40922b13e3b944ff3d3721a2a94d47dfedc1d95343a869752d791fbb0f3"), looks := false }, kinds := [], alts := [], laidByText := true, laidKinds := [.data, .data, .data, .data], laidTests := true, laidLooks := .later }
def IcmpCutUptoCardSaid : Prop := Claim7.holds Tryd.pinned (.plain (OpenSpec.upto icmpCutSpec)) icmpCutUptoCard
end Rows
end Go.Proofs.YteggaeleehlhmaaDoor
