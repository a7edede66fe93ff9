/- What Error and MTU of package icmp compute, and the reference's: one contract a function. -/
import Derived.Test.YteggaeleehlhmaaDoorIcMath
namespace Go.Proofs.YteggaeleehlhmaaDoor
open Go.ChangeShapes Go.WideShapes Go.ChangeAt Go.RowKit

set_option maxHeartbeats 1000000 in
theorem error_any (k : Int) (w : World) (hE : Env w) :
    Calls Tryd.prog 14 #[.int .i64 k] w fun e w' => e = .returned (.bool (errB k)) ∧ Below w.heap.size w w' := by
  obtain ⟨-, ⟨b0, b1⟩, ⟨c0, c1⟩, ⟨d0, d1⟩⟩ := hE.alloc (.cells #[.int .i64 k, .int .i64 0] 54)
  clear hE
  have HB := hide (alloc_on w (.cells #[.int .i64 k, .int .i64 0] 54))
  have HR : Hid (errB k = ((k == 3) || (k == 11) || (k == 12))) := rfl
  generalize errB k = R at *
  cases h3 : k == 3 with
  | true =>
    go_enter Tryd.func14, Tryd.ntmps14
    go_wp2
    go_ret
    exact ⟨ret_bool (by rw [HR.out, h3]; rfl), unhide HB⟩
  | false =>
    cases h11 : k == 11 with
    | true =>
      go_enter Tryd.func14, Tryd.ntmps14
      go_wp2
      go_ret
      exact ⟨ret_bool (by rw [HR.out, h3, h11]; rfl), unhide HB⟩
    | false =>
      cases h12 : k == 12 with
      | true =>
        go_enter Tryd.func14, Tryd.ntmps14
        go_wp2
        go_ret
        exact ⟨ret_bool (by rw [HR.out, h3, h11, h12]; rfl), unhide HB⟩
      | false =>
        go_enter Tryd.func14, Tryd.ntmps14
        go_wp2
        go_ret
        exact ⟨ret_bool (by rw [HR.out, h3, h11, h12]; rfl), unhide HB⟩

set_option maxHeartbeats 400000 in
theorem rerror_any (k : Int) (w : World) :
    Calls Tryd.prog 15 #[.int .i64 k] w fun e w' => e = .returned (.bool (errB k)) ∧ w' = w := by
  have HR : Hid (errB k = ((k == 3) || (k == 11) || (k == 12))) := rfl
  generalize errB k = R at *
  cases h3 : k == 3 with
  | true =>
    go_enter Tryd.func15, Tryd.ntmps15
    go_wp2
    go_ret
    exact ⟨ret_bool (by rw [HR.out, h3]; rfl), rfl⟩
  | false =>
    cases h11 : k == 11 with
    | true =>
      go_enter Tryd.func15, Tryd.ntmps15
      go_wp2
      go_ret
      exact ⟨ret_bool (by rw [HR.out, h3, h11]; rfl), rfl⟩
    | false =>
      go_enter Tryd.func15, Tryd.ntmps15
      go_wp2
      go_ret
      exact ⟨ret_bool (by rw [HR.out, h3, h11]; simp), rfl⟩

theorem mtuN_of {h : Hd} (e : mtuB h = true) : mtuN h = h.rest % 65536 := if_pos e
theorem mtuN_no {h : Hd} (e : mtuB h = false) : mtuN h = 0 := if_neg (by rw [e]; decide)

set_option maxHeartbeats 1000000 in
theorem mtu_any (h : Hd) (w : World) (hw : h.Wf) (hE : Env w) :
    Calls Tryd.prog 12 #[h.val] w fun e w' => e = .returned (.tuple #[.int .i64 (mtuN h), .bool (mtuB h)]) ∧ Below w.heap.size w w' := by
  obtain ⟨⟨a0, a1⟩, -⟩ := hE.alloc (.cells #[.int .i64 h.kind, .int .i64 h.code, .int .u32 h.rest, .string h.body] 24)
  clear hE
  have HB := hide (alloc_on w (.cells #[.int .i64 h.kind, .int .i64 h.code, .int .u32 h.rest, .string h.body] 24))
  obtain ⟨r0, r1⟩ := hw.rest
  have k1 := Ck.and_low h.rest r0 r1
  have k2 := Oct.wraps_i64 (h.rest % 65536) (by omega) (by omega)
  have HM : Hid (mtuB h = ((h.kind == 3) && (h.code == 4))) := rfl
  cases h3 : h.kind == 3 with
  | false =>
    have e : Hid (mtuB h = false) := by show _ = _; rw [HM.out, h3]; rfl
    have e2 : Hid (mtuN h = 0) := mtuN_no e.out
    go_enter Tryd.func12, Tryd.ntmps12
    go_wp2
    go_ret2
    exact ⟨ret_ib e2.out.symm e.out.symm, unhide HB⟩
  | true =>
    cases h4 : h.code == 4 with
    | false =>
      have e : Hid (mtuB h = false) := by show _ = _; rw [HM.out, h3, h4]; rfl
      have e2 : Hid (mtuN h = 0) := mtuN_no e.out
      go_enter Tryd.func12, Tryd.ntmps12
      go_wp2
      go_ret2
      exact ⟨ret_ib e2.out.symm e.out.symm, unhide HB⟩
    | true =>
      have e : Hid (mtuB h = true) := by show _ = _; rw [HM.out, h3, h4]; rfl
      have e2 : Hid (mtuN h = h.rest % 65536) := mtuN_of e.out
      go_enter Tryd.func12, Tryd.ntmps12
      go_wp2
      go_ret2
      exact ⟨ret_ib e2.out.symm e.out.symm, unhide HB⟩

set_option maxHeartbeats 1000000 in
theorem rmtu_any (h : Hd) (w : World) (hw : h.Wf) :
    Calls Tryd.prog 13 #[h.val] w fun e w' => e = .returned (.tuple #[.int .i64 (mtuN h), .bool (mtuB h)]) ∧ Below w.heap.size w w' := by
  have HB := hide (alloc_on w (.cells #[.int .i64 h.kind, .int .i64 h.code, .int .u32 h.rest, .string h.body] 31))
  obtain ⟨r0, r1⟩ := hw.rest
  have k0 : h.rest.tmod 65536 = h.rest % 65536 := Int.tmod_eq_emod_of_nonneg r0
  have k1 := wrap_u32 (h.rest % 65536) (by omega) (by omega)
  have k2 := Oct.wraps_i64 (h.rest % 65536) (by omega) (by omega)
  have HM : Hid (mtuB h = ((h.kind == 3) && (h.code == 4))) := rfl
  cases h3 : h.kind == 3 with
  | false =>
    have e : Hid (mtuB h = false) := by show _ = _; rw [HM.out, h3]; rfl
    have e2 : Hid (mtuN h = 0) := mtuN_no e.out
    have h3' : (h.kind != 3) = true := by rw [bne, h3]; rfl
    go_enter Tryd.func13, Tryd.ntmps13
    go_wp2
    go_ret2
    exact ⟨ret_ib e2.out.symm e.out.symm, unhide HB⟩
  | true =>
    have h3' : (h.kind != 3) = false := by rw [bne, h3]; rfl
    cases h4 : h.code == 4 with
    | false =>
      have h4' : (h.code != 4) = true := by rw [bne, h4]; rfl
      have e : Hid (mtuB h = false) := by show _ = _; rw [HM.out, h3, h4]; rfl
      have e2 : Hid (mtuN h = 0) := mtuN_no e.out
      go_enter Tryd.func13, Tryd.ntmps13
      go_wp2
      go_ret2
      exact ⟨ret_ib e2.out.symm e.out.symm, unhide HB⟩
    | true =>
      have h4' : (h.code != 4) = false := by rw [bne, h4]; rfl
      have e : Hid (mtuB h = true) := by show _ = _; rw [HM.out, h3, h4]; rfl
      have e2 : Hid (mtuN h = h.rest % 65536) := mtuN_of e.out
      go_enter Tryd.func13, Tryd.ntmps13
      go_wp2
      go_ret2
      exact ⟨ret_ib e2.out.symm e.out.symm, unhide HB⟩
end Go.Proofs.YteggaeleehlhmaaDoor
