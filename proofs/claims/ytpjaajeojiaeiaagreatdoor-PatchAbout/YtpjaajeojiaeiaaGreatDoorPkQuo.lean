/- What the closures of quoted, of package packet, answer: one contract a closure. -/
import Derived.Test.YtpjaajeojiaeiaaGreatDoorPkFirst
import Derived.Test.YtpjaajeojiaeiaaGreatDoorPkInv
import Derived.Test.YtpjaajeojiaeiaaGreatDoorTcC
namespace Go.Proofs.YtpjaajeojiaeiaaGreatDoor
open Go.ChangeShapes Go.WideShapes Go.ChangeAt Go.RowKit

theorem ret_b {a b : Bool} (h : a = b) : Ending.returned (.bool a) = .returned (.bool b) := by rw [h]
/-- What is read of a quote: its header's size, the first error, whose it is. -/
def qSize (q : ByteArray) : Int := got q 0 1 % 16 * 4
def qB3 (q : ByteArray) : Bool := got q 0 1 / 16 != 4
def qB4 (q : ByteArray) : Bool := decide (qSize q < 20) || decide ((q.size : Int) < qSize q)
def qB5 (q : ByteArray) : Bool := got q 6 2 % 8192 != 0
def qB6 (q : ByteArray) : Bool := (got q 9 1 != 6) && (got q 9 1 != 17)
def qB7 (q : ByteArray) : Bool := decide ((q.size : Int) - qSize q < 8)
def qE (q : ByteArray) : Int :=
 if decide ((q.size : Int) < 20) = true then 2 else if qB3 q = true then 3 else if qB4 q = true then 4 else if qB5 q = true then 8 else if qB6 q = true then 9 else if qB7 q = true then 2 else 0
def qT (q : ByteArray) : Tp := if qE q = 0 then ⟨got q 9 1, got q 12 4, got q 16 4, got q (qSize q) 2, got q (qSize q + 2) 2⟩ else zeroTp
def qN (q : ByteArray) : Int := if qE q = 0 then qSize q else 0

theorem got_rng (q : ByteArray) (p : Int) : (0 ≤ got q p 1 ∧ got q p 1 ≤ 255) ∧ (0 ≤ got q p 2 ∧ got q p 2 ≤ 65535) ∧ (0 ≤ got q p 4 ∧ got q p 4 ≤ 4294967295) := by
 have h1 := Tc.got_lt q p 1
 have := Tc.got_hi2 q p
 have := Tc.got_hi4 q p
 have := Tc.got_lo q p 1
 have := Tc.got_lo q p 2
 have := Tc.got_lo q p 4
 simp at h1
 omega

set_option maxHeartbeats 400000 in
theorem q1_any (b : Nat) (q : ByteArray) (at_ size : Int) (W : World) (hq : q.size ≤ maxLen) (hr : Row W b [.string q]) :
  Calls Tryz.prog 142 #[.int .i64 at_, .int .i64 size, .pointer (some ⟨b, 0, none⟩)] W fun e W' => e = .returned (.int .i64 (got q at_ size)) ∧ W' = W := by
 have c := hr.cell 0 _ rfl
 clear hr
 go_enter Tryz.func142, Tryz.ntmps142
 go_wp2_with fail
 refine (get_any _ _ _ _ hq).mono ?_
 rintro e w1 ⟨rfl, rfl⟩
 go_wp2_with fail
 go_ret
 exact ⟨rfl, rfl⟩

set_option maxHeartbeats 400000 in
theorem q2_any (b : Nat) (q : ByteArray) (W : World) (hr : Row W b [.string q]) :
  Calls Tryz.prog 143 #[.pointer (some ⟨b, 0, none⟩)] W fun e W' => e = .returned (.bool (decide ((q.size : Int) < 20))) ∧ Below W.heap.size W W' := by
 have c := hr.cell 0 _ rfl
 clear hr
 go_enter Tryz.func143, Tryz.ntmps143
 go_wp2
 go_ret
 exact ⟨rfl, Below.refl _ _⟩

set_option maxHeartbeats 400000 in
theorem q3_any (b : Nat) (x : Int) (W : World) (hr : Row W b [.int .i64 x]) :
  Calls Tryz.prog 144 #[.pointer (some ⟨b, 0, none⟩)] W fun e W' => e = .returned (.bool (x / 16 != 4)) ∧ Below W.heap.size W W' := by
 have c := hr.cell 0 _ rfl
 clear hr
 go_enter Tryz.func144, Tryz.ntmps144
 go_wp2
 go_ret
 exact ⟨rfl, Below.refl _ _⟩

set_option maxHeartbeats 400000 in
theorem q4_any (b b1 : Nat) (x : Int) (q : ByteArray) (W : World) (hr : Row W b [.int .i64 x]) (hq : Row W b1 [.string q]) :
  Calls Tryz.prog 145 #[.pointer (some ⟨b, 0, none⟩), .pointer (some ⟨b1, 0, none⟩)] W fun e W' => e = .returned (.bool (decide (x < 20) || decide ((q.size : Int) < x))) ∧ Below W.heap.size W W' := by
 have c := hr.cell 0 _ rfl
 have d := hq.cell 0 _ rfl
 clear hr hq
 cases hx : decide (x < 20) with
 | true =>
  go_enter Tryz.func145, Tryz.ntmps145
  go_wp2
  go_ret
  exact ⟨rfl, Below.refl _ _⟩
 | false =>
  go_enter Tryz.func145, Tryz.ntmps145
  go_wp2
  go_ret
  exact ⟨rfl, Below.refl _ _⟩

set_option maxHeartbeats 400000 in
theorem q5_any (b b1 : Nat) (q : ByteArray) (W : World) (hq : q.size ≤ maxLen) (h1 : Row W b1 [.string q]) (hr : Row W b [.func (.func 142) #[] #[.pointer (some ⟨b1, 0, none⟩)]]) :
  Calls Tryz.prog 146 #[.pointer (some ⟨b, 0, none⟩)] W fun e W' => e = .returned (.bool (qB5 q)) ∧ Below W.heap.size W W' := by
 have c := hr.cell 0 _ rfl
 have HQ := hide (q1_any b1 q 6 2 W hq h1)
 have HG : Hid (qB5 q = (got q 6 2 % 8192 != 0)) := rfl
 obtain ⟨-, ⟨g0, g1⟩, -⟩ := got_rng q 6
 clear hr h1
 generalize got q 6 2 = x at *
 generalize qB5 q = R at *
 have k : bits .and .i64 x 8191 = x % 8192 := bits_mask .i64 40 (by decide) Oct.wraps_i64 13 (by decide) x g0 (by omega)
 go_enter Tryz.func146, Tryz.ntmps146
 go_wp2_with fail
 refine (unhide HQ).mono ?_
 rintro e w1 ⟨rfl, rfl⟩
 go_wp2_with fail
 go_ret
 exact ⟨ret_b HG.out.symm, Below.refl _ _⟩

set_option maxHeartbeats 400000 in
theorem q6_any (b : Nat) (x : Int) (W : World) (hr : Row W b [.int .i64 x]) :
  Calls Tryz.prog 147 #[.pointer (some ⟨b, 0, none⟩)] W fun e W' => e = .returned (.bool ((x != 6) && (x != 17))) ∧ Below W.heap.size W W' := by
 have c := hr.cell 0 _ rfl
 clear hr
 cases hx : x != 6 with
 | true =>
  go_enter Tryz.func147, Tryz.ntmps147
  go_wp2
  go_ret
  exact ⟨rfl, Below.refl _ _⟩
 | false =>
  go_enter Tryz.func147, Tryz.ntmps147
  go_wp2
  go_ret
  exact ⟨rfl, Below.refl _ _⟩

set_option maxHeartbeats 400000 in
theorem q7_any (b b1 : Nat) (x : Int) (q : ByteArray) (W : World) (hq : q.size ≤ 281474976710656) (h0 : 0 ≤ x) (hx : x ≤ 60) (hr : Row W b [.int .i64 x]) (h1 : Row W b1 [.string q]) :
  Calls Tryz.prog 148 #[.pointer (some ⟨b1, 0, none⟩), .pointer (some ⟨b, 0, none⟩)] W fun e W' => e = .returned (.bool (decide ((q.size : Int) - x < 8))) ∧ Below W.heap.size W W' := by
 have c := hr.cell 0 _ rfl
 have d := h1.cell 0 _ rfl
 clear hr h1
 go_enter Tryz.func148, Tryz.ntmps148
 go_wp2
 go_ret
 exact ⟨rfl, Below.refl _ _⟩
end Go.Proofs.YtpjaajeojiaeiaaGreatDoor
