/- The chapter's examples hold: what each statement asks first. -/
import Derived.Test.YteggaeleehlhmaaDoorIcRefP
namespace Go.Proofs.YteggaeleehlhmaaDoor
open Go.ChangeShapes Go.WideShapes Go.ChangeAt Go.RowKit

def exH : Hd := ⟨3, 4, 1400, ⟨#[120]⟩⟩
theorem exW : exH.Wf := ⟨by decide, by decide, by decide, by decide⟩
theorem exG : Good exH := ⟨by decide, by decide, by decide, by decide, by decide, by decide⟩

set_option maxRecDepth 100000 in
set_option maxHeartbeats 2000000 in
theorem examples_ok (w : World) (hE : Env w) : Calls Tryd.prog 8 #[] w fun e w' => e = .returned (.bool true) ∧ Below w.heap.size w w' := by
  have hk0 := kept_new w exH 24
  simp only [exH] at hk0
  obtain ⟨p1, p2⟩ := parse_built exG
  have hsz : (built exH).size = 9 := built_size exG
  have hbe := buildE_of exG (by decide)
  have hbS := buildS_of hbe
  generalize built exH = s at *
  have HBC : Hid (∀ u, Calls Tryd.prog 9 #[.agg #[.int .i64 3, .int .i64 4, .int .u32 1400, .string ⟨#[120]⟩]] u fun e u' => e = .returned (.tuple #[.string s, .int .i64 0]) ∧ Below u.heap.size u u') := fun u => by
    have := build_any exH u exW
    rw [hbe, hbS] at this
    exact this
  have HPC : Hid (∀ u, Calls Tryd.prog 16 #[.string s] u fun e u' => e = .returned (.tuple #[.agg #[.int .i64 3, .int .i64 4, .int .u32 1400, .string ⟨#[120]⟩], .int .i64 0]) ∧ Below u.heap.size u u') := fun u => by
    have := parse_any s u (by omega)
    rw [p1, p2] at this
    exact this
  have HMC : Hid (∀ u, Env u → Calls Tryd.prog 12 #[.agg #[.int .i64 3, .int .i64 4, .int .u32 1400, .string ⟨#[120]⟩]] u fun e u' => e = .returned (.tuple #[.int .i64 1400, .bool true]) ∧ Below u.heap.size u u') := fun u hu => by
    have := mtu_any exH u exW hu
    exact this
  have HEC : Hid (∀ u, Env u → Calls Tryd.prog 14 #[.int .i64 8] u fun e u' => e = .returned (.bool false) ∧ Below u.heap.size u u') := fun u hu => error_any 8 u hu
  have hs9 : (s.size : Int) = 9 := by omega
  have HE := hide hE
  have HK := hide hk0
  clear hbe hbS p1 p2 hsz hk0 hE
  go_enter Tryd.func8, Tryd.ntmps8
  go_wp2_with fail
  refine (unhide HBC _).mono ?_
  rintro e w1 ⟨rfl, hb1⟩
  have hk1 := (unhide HK).on hb1
  have HK := hide hk1
  clear hb1 hk1
  go_wp2_with fail
  refine (unhide HPC _).mono ?_
  rintro e w2 ⟨rfl, hb2⟩
  have hk2 := (unhide HK).on hb2
  have hn := newHd w2 exH 24
  have hna := alloc_on w2 (.cells #[.int .i64 exH.kind, .int .i64 exH.code, .int .u32 exH.rest, .string exH.body] 24)
  have hz2 : w2.heap.size < (w2.alloc (.cells #[.int .i64 exH.kind, .int .i64 exH.code, .int .u32 exH.rest, .string exH.body] 24)).heap.size := by simp
  simp only [exH] at hn hna hz2
  have hk3 := hk2.on hna
  obtain ⟨c0, c1, c2, c3⟩ := hk3.cells
  have HK := hide hk3
  have HN := hide hn
  clear hb2 hk2 hn hna hk3
  go_wp2_with fail
  refine (unhide HMC _ ((unhide HE).on (unhide HK).below)).mono ?_
  rintro e w3 ⟨rfl, hb3⟩
  have hk4 := (unhide HK).on hb3
  clear c0 c1 c2 c3
  obtain ⟨c0, c1, c2, c3⟩ := hk4.cells
  have hn4 := (unhide HN).on hb3 hz2
  have d0 := hn4.at_ 0 (by decide)
  have d1 := hn4.at_ 1 (by decide)
  have d2 := hn4.at_ 2 (by decide)
  have d3 := hn4.at_ 3 (by decide)
  simp only [hcell] at d0 d1 d2 d3
  have HK := hide hk4
  clear hb3 hk4 hn4 HN
  go_wp2_with fail
  refine (unhide HEC _ ((unhide HE).on (unhide HK).below)).mono ?_
  rintro e w4 ⟨rfl, hb4⟩
  have hk5 := (unhide HK).on hb4
  have HK := hide hk5
  clear hb4 hk5 c0 c1 c2 c3 d0 d1 d2 d3
  go_wp2_with fail
  go_ret
  exact ⟨rfl, (unhide HK).below⟩
end Go.Proofs.YteggaeleehlhmaaDoor
