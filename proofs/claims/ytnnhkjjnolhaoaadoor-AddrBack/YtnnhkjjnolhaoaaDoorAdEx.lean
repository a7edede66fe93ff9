/- The chapter's examples hold: what each statement asks first. -/
import Derived.Test.YtnnhkjjnolhaoaaDoorAdPnet
namespace Go.Proofs.YtnnhkjjnolhaoaaDoor
open Go.ChangeShapes Go.WideShapes Go.ChangeAt Go.RowKit

theorem ex_addr : (ByteArray.mk #[49, 57, 50, 46, 49, 54, 56, 46, 48, 46, 49]).data.toList = Ad.txt 3232235521 := by decide +kernel
theorem ex_net : Ad.IsNet (ByteArray.mk #[49, 48, 46, 48, 46, 48, 46, 48, 47, 56]).data.toList 167772160 8 := by
  refine ⟨by decide, by decide, by decide +kernel, by decide +kernel⟩
theorem ex_eq : (Ad.txt 3232235521 == [49, 57, 50, 46, 49, 54, 56, 46, 48, 46, 49]) = true := by decide +kernel
theorem ex_in : Ad.hasB 167772160 8 167772165 = true := by decide +kernel
theorem ex_out : Ad.hasB 167772160 8 184549376 = false := by decide +kernel

set_option maxHeartbeats 1000000 in
theorem examples_ok (w : World) (hE : Env w) : Calls Tryd.prog 10 #[] w fun e w' => e = .returned (.bool true) ∧ Below w.heap.size w w' := by
  have q1 := ex_eq
  have q2 := ex_in
  have q3 := ex_out
  go_enter Tryd.func10, Tryd.ntmps10
  go_wp2_with fail
  refine (parse_txt 3232235521 _ _ (by decide) ex_addr hE).mono ?_
  rintro e w1 ⟨rfl, hb1⟩
  have E1 := hE.on hb1
  go_wp2_with fail
  refine (pnet_yes _ 167772160 8 _ (by decide) E1 ex_net).mono ?_
  rintro e w2 ⟨rfl, hb2⟩
  have B2 := Below.then hb1 hb2
  have B3 := B2.alloc B2.size (.cells #[.int .u32 167772160, .int .i64 8] 30)
  have E3 := hE.on B3
  go_wp2_with fail
  refine (text_any 3232235521 _ (by decide) (by decide) E3).mono ?_
  rintro e w4 ⟨rfl, hb4⟩
  have B4 := Below.then B3 hb4
  have c0 : w4.cell? ⟨w2.heap.size, 0, none⟩ = some (.int .u32 167772160) := by rw [hb4.cell (by simp)]; simp [go_sem]
  have c1 : w4.cell? ⟨w2.heap.size, 1, none⟩ = some (.int .i64 8) := by rw [hb4.cell (by simp)]; simp [go_sem]
  have hz4 : w2.heap.size < w4.heap.size := by have := hb4.size; simp at this; omega
  have HB := hide B4
  clear hb1 E1 hb2 B2 B3 E3 hb4 B4
  go_wp2_with fail
  refine (has_any _ _ _ _ (by decide) (by decide)).mono ?_
  rintro e w5 ⟨rfl, hb5⟩
  have c0' : w5.cell? ⟨w2.heap.size, 0, none⟩ = some (.int .u32 167772160) := by rw [hb5.cell hz4]; exact c0
  have c1' : w5.cell? ⟨w2.heap.size, 1, none⟩ = some (.int .i64 8) := by rw [hb5.cell hz4]; exact c1
  have HB5 := hide (Below.then (unhide HB) hb5)
  clear hb5
  go_wp2_with fail
  refine (has_any _ _ _ _ (by decide) (by decide)).mono ?_
  rintro e w6 ⟨rfl, hb6⟩
  go_wp2_with fail
  go_ret
  exact ⟨rfl, Below.then (unhide HB5) hb6⟩
end Go.Proofs.YtnnhkjjnolhaoaaDoor
