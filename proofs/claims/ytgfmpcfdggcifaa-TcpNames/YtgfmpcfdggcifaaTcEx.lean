/- The chapter's examples hold: what each statement asks first. -/
import Derived.Test.YtgfmpcfdggcifaaTcMath
import Derived.Test.YtgfmpcfdggcifaaTcName
namespace Go.Proofs.Ytgfmpcfdggcifaa
open Go.ChangeShapes Go.WideShapes Go.ChangeAt Go.RowKit

def exH : Hd := ⟨1, 2, 0, 0, 2, 0, 0, ⟨#[]⟩⟩
def exB : ByteArray := ⟨#[120]⟩
theorem exW : exH.Wf := ⟨by decide, by decide, by decide, by decide, by decide, by decide, by decide, by decide⟩
theorem exR : RightP exH := ⟨by decide, by decide, by decide, by decide, by decide, by decide, by decide, opts_nil⟩
theorem exN : nameN 18 6 = ⟨#[83, 65]⟩ := by decide +kernel

set_option maxRecDepth 100000 in
set_option maxHeartbeats 2000000 in
theorem examples_ok (w : World) : Calls Try.prog 10 #[] w fun e w' => e = .returned (.bool true) ∧ Below w.heap.size w w' := by
  have hk0 := kept_new w exH 24
  simp only [exH] at hk0
  obtain ⟨p1, p2, p3⟩ := parse_built exR exW exB
  have hsz : (built exH exB).size = 21 := built_size exR exW exB
  have hbe := buildE_of (body := exB) exR (by decide)
  have hbS := buildS_of hbe
  have HN := hide exN
  generalize built exH exB = s at *
  have HBC : Hid (∀ u, Calls Try.prog 11 #[.agg #[.int .i64 1, .int .i64 2, .int .u32 0, .int .u32 0, .int .i64 2, .int .i64 0, .int .i64 0, .string ⟨#[]⟩], .string ⟨#[120]⟩] u fun e u' => e = .returned (.tuple #[.string s, .int .i64 0]) ∧ Below u.heap.size u u') := fun u => by
    have := build_any exH exB u exW (by decide)
    rw [hbe, hbS] at this
    exact this
  clear hbe hbS
  go_enter Try.func10, Try.ntmps10
  go_wp2_with fail
  refine (HBC.out _).mono ?_
  rintro e w1 ⟨rfl, hb1⟩
  have hk1 := hk0.on hb1
  clear hb1 hk0 HBC
  have HK := hide hk1
  clear hk1
  go_wp2_with fail
  refine (parse_any _ _ (by rw [hsz]; decide)).mono ?_
  rintro e w2 ⟨rfl, hb2⟩
  rw [p1, p2, p3, show exH.val = .agg #[.int .i64 1, .int .i64 2, .int .u32 0, .int .u32 0, .int .i64 2, .int .i64 0, .int .i64 0, .string ⟨#[]⟩] from rfl]
  have hk2 := (unhide HK).on hb2
  have hn := newHd w2 exH 24
  have hna := alloc_on w2 (.cells #[.int .i64 exH.src, .int .i64 exH.dst, .int .u32 exH.seq, .int .u32 exH.ack, .int .i64 exH.flags, .int .i64 exH.win, .int .i64 exH.urg, .string exH.opts] 24)
  simp only [exH] at hn hna
  have hk3 := hk2.on hna
  have c0 := hk3.at_ 0 (by decide)
  have c1 := hk3.at_ 1 (by decide)
  have c2 := hk3.at_ 2 (by decide)
  have c3 := hk3.at_ 3 (by decide)
  have c4 := hk3.at_ 4 (by decide)
  have c5 := hk3.at_ 5 (by decide)
  have c6 := hk3.at_ 6 (by decide)
  have c7 := hk3.at_ 7 (by decide)
  have d0 := hn.at_ 0 (by decide)
  have d1 := hn.at_ 1 (by decide)
  have d2 := hn.at_ 2 (by decide)
  have d3 := hn.at_ 3 (by decide)
  have d4 := hn.at_ 4 (by decide)
  have d5 := hn.at_ 5 (by decide)
  have d6 := hn.at_ 6 (by decide)
  have d7 := hn.at_ 7 (by decide)
  simp only [hcell] at c0 c1 c2 c3 c4 c5 c6 c7 d0 d1 d2 d3 d4 d5 d6 d7
  have HK := hide hk3
  clear hb2 hk2 hn hna hk3 p1 p2 p3
  have hebe : exB = ⟨#[120]⟩ := rfl
  go_wp2_with fail
  refine (name_any 18 _).mono ?_
  rintro e w3 ⟨rfl, hb3⟩
  have hk4 := (unhide HK).on hb3
  rw [unhide HN]
  have HK := hide hk4
  clear hb3 hk4
  go_wp2_with fail
  go_ret
  exact ⟨rfl, (unhide HK).below⟩
end Go.Proofs.Ytgfmpcfdggcifaa
