/- From what the rows list of the package's three variables to what the contracts ask; and a world in which they lie so. -/
import Derived.Test.YtpjaajeojiaeiaaGreatDoorIcA
import Derived.Test.YtpjaajeojiaeiaaGreatDoorCards
import Derived.Test.YtpjaajeojiaeiaaGreatDoorTie
import Derived.Lib.LaidTab
import Derived.Stop.LaidErr
import Derived.Stop.Joined
import Derived.LaidMore
import Derived.Lay
import Derived.OpenShut
import Derived.ShutString
import Derived.SizedLaws
import Derived.SevenTiedAt
import Derived.Deep.DeepHandedRow
namespace Go.Proofs.YtpjaajeojiaeiaaGreatDoor
open Go.ChangeShapes Go.WideShapes Go.ChangeAt Go.RowKit
set_option maxRecDepth 100000

theorem own : ownKnob Tryz.prog.godebug = none := by kernel_rfl
theorem cellsI : Tryz.prog.cellsOf 3 = 1 := by kernel_rfl
theorem cellsC : Tryz.prog.cellsOf 182 = 2 := by kernel_rfl
/-- A listed struct of two numbers, the first of a list: its cells. -/
theorem two_of_head {name : String} {g : Nat} {x y : Int} {rest : List (String × DataW Unit)} {W : World} (hg : Tryz.prog.globalNamed name = some g) (hty : (Tryz.prog.globals[g]?).map (·.type) = some 182)
  (h : laidMet Tryz.prog ((name, .agg [.lit (.int .i64 x), .lit (.int .i64 y)]) :: rest) W) : W.cell? ⟨g, 0, none⟩ = some (.int .i64 x) ∧ W.cell? ⟨g, 1, none⟩ = some (.int .i64 y) := by
 obtain ⟨ps, ⟨g', t', cs, fuel, p, q, hg', ht', hvar, hd, _, _⟩, _⟩ := h
 obtain rfl := Option.some.inj (hg.symm.trans hg')
 obtain rfl := Option.some.inj (hty.symm.trans ht')
 obtain ⟨xs, n, _, hx, hl, hlen, hff⟩ := DataW.trod_struct Tryz.underlying182 hd
 have hcs : cs.toList.length = 2 := hl.trans cellsC
 obtain ⟨l⟩ := cs
 match l, hcs with
 | [c0, c1], _ =>
  match xs, hlen with
  | [y0, y1], _ =>
   have h0 := hff 0 _ rfl
   have h1 := hff 1 _ rfl
   simp [cellsI] at h0 h1
   obtain ⟨a0, e0, rfl, -⟩ := DataW.trod_int Tryz.underlying3 h0
   obtain ⟨a1, e1, rfl, -⟩ := DataW.trod_int Tryz.underlying3 h1
   obtain rfl := List.cons.inj e0 |>.1
   obtain rfl := List.cons.inj e1 |>.1
   simp at hx
   obtain ⟨⟨rfl, rfl⟩, -⟩ := hx
   exact ⟨by simpa using World.var?_cell hg hvar 0, by simpa using World.var?_cell hg hvar 1⟩
theorem gU : Tryz.prog.globalNamed "weighbridge/icmp.unreachable" = some 0 := by kernel_rfl
theorem gT : Tryz.prog.globalNamed "weighbridge/icmp.timeExceeded" = some 1 := by kernel_rfl
theorem gP : Tryz.prog.globalNamed "weighbridge/icmp.parameterProblem" = some 2 := by kernel_rfl
theorem tU : (Tryz.prog.globals[0]?).map (·.type) = some 182 := by kernel_rfl
theorem tT : (Tryz.prog.globals[1]?).map (·.type) = some 182 := by kernel_rfl
theorem tP : (Tryz.prog.globals[2]?).map (·.type) = some 182 := by kernel_rfl
theorem env_of {W : World} (h : laidMetH Tryz.prog Rows.patchBackRow.laid W) : Ic.Env W := by
 rw [MakeChecks.laidMetH_plain _ _ _ (by kernel_rfl)] at h
 exact ⟨two_of_head gU tU h, two_of_head gT tT h.tail, two_of_head gP tP h.tail.tail⟩

/-- A world for a witness. -/
theorem laid_met (os : Os) (args : Array Value) : laidMetH Tryz.prog Rows.patchBackRow.laid ((World.laidAll Tryz.prog os Rows.patchBackRow.laid).forCall (fun _ _ => 0) ⟨#[], args, []⟩).memory := by
 rw [MakeChecks.laidMetH_plain _ _ _ (by kernel_rfl)]; exact laidMet_laidAll _ (by kernel_rfl) (by kernel_rfl)
end Go.Proofs.YtpjaajeojiaeiaaGreatDoor
