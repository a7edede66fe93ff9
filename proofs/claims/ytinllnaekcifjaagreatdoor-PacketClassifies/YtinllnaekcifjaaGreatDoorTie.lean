/-
  DERIVED. GIVEN WITH THE SEED: THE PROGRAM's TIES (one call each: nine closed facts by the kernel) AND EACH ROW's TIE, after the 31st guide's Derived/Test/Toyas{Tie, Card}.lean. No idea stands in it: it is a product of the set-up. Laid BY PROGRAM, IN A SANDBOX (cutbox-door.mjs). By AI agents, Wed Nov 11 2026. No macro, syntax, notation, axiom, sorry.
-/
import Derived.Test.YtinllnaekcifjaaGreatDoorRows
import Derived.LaidByTextLater
import Derived.SevenTiedAt
import Derived.LaidSub
import Derived.LaidOnce
namespace Go.Proofs.YtinllnaekcifjaaGreatDoor
open Go
set_option maxRecDepth 100000
theorem seatTie1 : Tryz.prog.laidByTextLater [("weighbridge/icmp.unreachable", Rows.laid_weighbridge_icmp_unreachable), ("weighbridge/icmp.timeExceeded", Rows.laid_weighbridge_icmp_timeExceeded), ("weighbridge/icmp.parameterProblem", Rows.laid_weighbridge_icmp_parameterProblem)] [.data, .data, .data] true :=
  Program.laidByTextLater_by_one 24 8 3 (by kernel_rfl) (by kernel_rfl) (by kernel_rfl) (by kernel_rfl) (by kernel_rfl) (by kernel_rfl) (fun _ _ => by kernel_rfl)
theorem noOwnUnsafe : Tryz.pinned.checked.prog.headLifts.contains "ownunsafe" = false := by kernel_rfl
theorem tie : Tryz.prog.laidByTextLater [("weighbridge/icmp.unreachable", Rows.laid_weighbridge_icmp_unreachable), ("weighbridge/icmp.timeExceeded", Rows.laid_weighbridge_icmp_timeExceeded), ("weighbridge/icmp.parameterProblem", Rows.laid_weighbridge_icmp_parameterProblem)] [.data, .data, .data] true :=
  Program.laidByTextLater.sub seatTie1 ["weighbridge/icmp.unreachable", "weighbridge/icmp.timeExceeded", "weighbridge/icmp.parameterProblem"] (by kernel_rfl) (by kernel_rfl)
theorem packetClassifies_row_tie : Rows.packetClassifiesRow.laidByTextAt .later Tryz.pinned [.data, .data, .data] true :=
  OpenClaim.laidByTextAt_later rfl rfl tie noOwnUnsafe
theorem packetClassifiesUpto_row_tie : Rows.packetClassifiesUptoRow.laidByTextAt .later Tryz.pinned [.data, .data, .data] true :=
  OpenClaim.laidByTextAt_later rfl rfl tie noOwnUnsafe
end Go.Proofs.YtinllnaekcifjaaGreatDoor
