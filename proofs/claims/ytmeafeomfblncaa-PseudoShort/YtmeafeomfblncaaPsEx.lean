/- The chapter's examples hold: what each statement asks first. -/
import Derived.Test.YtmeafeomfblncaaPsRef
import Derived.Lib.MinMax
namespace Go.Proofs.Ytmeafeomfblncaa
open Go.ChangeShapes Go.WideShapes Go.ChangeAt Go.RowKit

def exS : ByteArray := ⟨#[0, 1, 0, 2, 0, 9, 0, 0, 120]⟩
def exT : ByteArray := ⟨#[0, 1, 0, 2, 0, 9, 135, 214, 120]⟩
set_option maxRecDepth 100000 in
theorem exF : fillS 17 1 2 exS = exT := by decide +kernel
set_option maxRecDepth 100000 in
theorem exFB : fillB 17 1 2 exS = true := by decide +kernel
set_option maxRecDepth 100000 in
theorem exV0 : verE 17 1 2 exT = 0 := by decide +kernel
set_option maxRecDepth 100000 in
theorem exV7 : verE 17 1 3 exT = 7 := by decide +kernel
theorem exV9 : verE 1 1 2 exT = 9 := by decide +kernel

set_option maxRecDepth 100000 in
set_option maxHeartbeats 2000000 in
theorem examples_ok (w : World) : Calls Try.prog 9 #[] w fun e w' => e = .returned (.bool true) ∧ Below w.heap.size w w' := by
  have HF : Hid (Calls Try.prog 12 #[.int .i64 17, .int .u32 1, .int .u32 2, .string ⟨#[0, 1, 0, 2, 0, 9, 0, 0, 120]⟩] w fun e w' => e = .returned (.tuple #[.string exT, .bool true]) ∧ Below w.heap.size w w') := by
    have h := pfill_any 17 1 2 exS w ⟨by decide, by decide⟩ ⟨by decide, by decide⟩ ⟨by decide, by decide⟩ (by decide)
    rw [exF, exFB] at h
    exact h
  have HP : Hid (∀ u, Calls Try.prog 14 #[.int .i64 6] u fun e w' => e = .returned (.tuple #[.int .i64 16, .bool true]) ∧ Below u.heap.size u w') := fun u => place_any 6 u ⟨by decide, by decide⟩
  have H0 : Hid (∀ u, Calls Try.prog 16 #[.int .i64 17, .int .u32 1, .int .u32 2, .string exT] u fun e w' => e = .returned (.int .i64 0) ∧ Below u.heap.size u w') := fun u => by
    have h := pverify_any 17 1 2 exT u ⟨by decide, by decide⟩ ⟨by decide, by decide⟩ ⟨by decide, by decide⟩ (by decide)
    rw [exV0] at h; exact h
  have H7 : Hid (∀ u, Calls Try.prog 16 #[.int .i64 17, .int .u32 1, .int .u32 3, .string exT] u fun e w' => e = .returned (.int .i64 7) ∧ Below u.heap.size u w') := fun u => by
    have h := pverify_any 17 1 3 exT u ⟨by decide, by decide⟩ ⟨by decide, by decide⟩ ⟨by decide, by decide⟩ (by decide)
    rw [exV7] at h; exact h
  have H9 : Hid (∀ u, Calls Try.prog 16 #[.int .i64 1, .int .u32 1, .int .u32 2, .string exT] u fun e w' => e = .returned (.int .i64 9) ∧ Below u.heap.size u w') := fun u => by
    have h := pverify_any 1 1 2 exT u ⟨by decide, by decide⟩ ⟨by decide, by decide⟩ ⟨by decide, by decide⟩ (by decide)
    rw [exV9] at h; exact h
  generalize exT = T at *
  go_enter Try.func9, Try.ntmps9
  go_wp2_with fail
  refine (unhide HF).mono ?_
  rintro e w1 ⟨rfl, hb⟩
  have HB1 := hide hb
  clear hb
  go_wp2_with fail
  refine (unhide HP _).mono ?_
  rintro e w2 ⟨rfl, hb⟩
  have HB2 := hide (Below.then (unhide HB1) hb)
  clear hb
  go_wp2_with fail
  refine (unhide H0 _).mono ?_
  rintro e w3 ⟨rfl, hb⟩
  have HB3 := hide (Below.then (unhide HB2) hb)
  clear hb
  go_wp2_with fail
  refine (unhide H7 _).mono ?_
  rintro e w4 ⟨rfl, hb⟩
  have HB4 := hide (Below.then (unhide HB3) hb)
  clear hb
  go_wp2_with fail
  refine (unhide H9 _).mono ?_
  rintro e w5 ⟨rfl, hb⟩
  have HB5 := hide (Below.then (unhide HB4) hb)
  clear hb
  go_wp2_with fail
  go_ret
  exact ⟨rfl, unhide HB5⟩
end Go.Proofs.Ytmeafeomfblncaa
