/- From what the rows list of the library's variables to what the contracts ask; and a world in which they lie so. -/
import Derived.Test.YtnnhkjjnolhaoaaDoorAdEnv
import Derived.Test.YtnnhkjjnolhaoaaDoorCards
import Derived.Test.YtnnhkjjnolhaoaaDoorTie
import Derived.Lib.LaidTab
import Derived.Stop.LaidErr
import Derived.Stop.Joined
import Derived.LaidMore
import Derived.Lay
import Derived.OpenShut
import Derived.ShutString
import Derived.SevenTiedAt
namespace Go.Proofs.YtnnhkjjnolhaoaaDoor
open Go.ChangeShapes Go.WideShapes Go.ChangeAt Go.RowKit
set_option maxRecDepth 100000

theorem gTens : Tryd.prog.globalNamed "internal/strconv.uint64pow10" = some 3 := by kernel_rfl
theorem gTensT : (Tryd.prog.globals[3]?).map (·.type) = some 101 := by kernel_rfl
theorem gSyn : Tryd.prog.globalNamed "strconv.ErrSyntax" = some 1 := by kernel_rfl
theorem gSynT : (Tryd.prog.globals[1]?).map (·.type) = some 55 := by kernel_rfl
theorem gRan : Tryd.prog.globalNamed "strconv.ErrRange" = some 2 := by kernel_rfl
theorem gRanT : (Tryd.prog.globals[2]?).map (·.type) = some 55 := by kernel_rfl
theorem star : "*" ++ "errors.errorString" = "*errors.errorString" := by decide
/-- The one type of that name. -/
theorem rowE (u : TypeId) (h : Tryd.prog.typeName? 3 u = some "*errors.errorString") : u = 107 :=
  typeName_ptr_named (nm := "errors.errorString") (by rw [star]; kernel_rfl) (by kernel_rfl) (by decide) u (by rw [star]; exact h)
theorem cellsE : Tryd.prog.cellsOf 109 = 1 := by kernel_rfl
theorem cellsS : Tryd.prog.cellsOf 9 = 1 := by kernel_rfl
theorem cellsU : Tryd.prog.cellsOf 60 = 1 := by kernel_rfl
theorem cellsT : Tryd.prog.cellsOf 101 = 20 := by kernel_rfl
theorem tens_eq : (Rows.laid_internal_strconv_uint64pow10 : DataW Unit) = Lib.tabData .u64 Lib.pow10Tab := by kernel_rfl

theorem env_of {W : World} (h : laidMetH Tryd.prog Rows.addrTextsRow.laid W) : Env W := by
  rw [MakeChecks.laidMetH_plain _ _ _ (by kernel_rfl)] at h
  have h3 := h.tail.tail
  have h5 := h3.tail.tail
  have h6 := h5.tail
  rw [tens_eq] at h3
  have hT := Lib.tabIs_of_head gTens gTensT Tryd.underlying101 Tryd.underlying60 cellsU cellsT h3
  obtain ⟨a5, s5, hv5, -, -, -⟩ := laid_sentinel h5 gRan gRanT Tryd.underlying55 rowE Tryd.underlying107 Tryd.underlying109 rfl rfl Tryd.underlying9 cellsE cellsS
  obtain ⟨a6, s6, hv6, -, -, -⟩ := laid_sentinel h6 gSyn gSynT Tryd.underlying55 rowE Tryd.underlying107 Tryd.underlying109 rfl rfl Tryd.underlying9 cellsE cellsS
  exact ⟨hT, ⟨_, _, hv6⟩, ⟨_, _, hv5⟩⟩

theorem own : ownKnob Tryd.prog.godebug = none := by kernel_rfl
theorem laid_met (os : Os) (args : Array Value) : laidMetH Tryd.prog Rows.addrTextsRow.laid ((World.laidAll Tryd.prog os Rows.addrTextsRow.laid).forCall (fun _ _ => 0) ⟨#[], args, []⟩).memory := by
  rw [MakeChecks.laidMetH_plain _ _ _ (by kernel_rfl)]; exact laidMet_laidAll _ (by kernel_rfl) (by kernel_rfl)
theorem laid_shaped (os : Os) : World.Shaped Tryd.prog (World.laidAll Tryd.prog os Rows.addrTextsRow.laid) := World.shaped_of_ZipB (by kernel_rfl) (by kernel_rfl)
end Go.Proofs.YtnnhkjjnolhaoaaDoor
