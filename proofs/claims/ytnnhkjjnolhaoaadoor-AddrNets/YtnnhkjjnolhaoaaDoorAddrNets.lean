/- AddrNets answers true for all addresses a and b, every int and every text, and changes nothing that was there before; the library's variables are as the program's text lays them (the card ties that). -/
import Derived.Test.YtnnhkjjnolhaoaaDoorAdLaid
import Derived.Test.YtnnhkjjnolhaoaaDoorAdEx
import Derived.Test.YtnnhkjjnolhaoaaDoorAdRefp
namespace Go.Proofs.YtnnhkjjnolhaoaaDoor.addrNets
open Go.ChangeShapes Go.WideShapes Go.ChangeAt Go.RowKit
open Go.ChangeMaps (open_string shut_string)
set_option linter.unusedVariables false
theorem cell_on {W W' : World} {a : Addr} {v : Value} (h : W.cell? a = some v) (hb : Below W.heap.size W W') : W'.cell? a = some v := by
  rw [hb.cell (block_lt_of_cell h)]; exact h
/-- The net at block B. -/
def Two (W : World) (B : Nat) (p q : Value) : Prop := W.cell? ⟨B, 0, none⟩ = some p ∧ W.cell? ⟨B, 1, none⟩ = some q
theorem Two.on {W W' : World} {B : Nat} {p q : Value} (h : Two W B p q) (hb : Below W.heap.size W W') : Two W' B p q := ⟨cell_on h.1 hb, cell_on h.2 hb⟩
theorem Two.new (w : World) (p q : Value) : Two (w.alloc (.cells #[p, q] 30)) w.heap.size p q := by
  refine ⟨?_, ?_⟩ <;> simp [go_sem]
theorem below_one (w : World) (o : Obj) : Below w.heap.size w (w.alloc o) := (Below.refl _ _).alloc (Nat.le_refl _) o


set_option maxHeartbeats 1000000 in
set_option maxRecDepth 100000 in
theorem walk_oy (a0 a1 a2 : Int) (a3 : ByteArray) (w : World) (hE : Env w) (b0 : 0 ≤ a0) (b1 : a0 ≤ 4294967295) (d0 : 0 ≤ a2) (d1 : a2 ≤ 4294967295) (z3 : a3.size ≤ 140737488355328)
    (hm : a1 < 0 ∨ 32 < a1)
    (hr : Ad.hasB a0 a1 a0 = false)
    (X Y : Nat) (hn : Ad.IsNet a3.data.toList X Y)
    : Calls Tryd.prog 4 #[.int .u32 a0, .int .i64 a1, .int .u32 a2, .string a3] w fun e w' => e = .returned (.bool true) ∧ Below w.heap.size w w' := by
  have KN := hide hn
  clear hn
  have KM := hide hm
  clear hm
  go_enter Tryd.func4, Tryd.ntmps4
  go_wp2_with fail
  refine (examples_ok _ hE).mono ?_
  rintro e w1 ⟨rfl, hb1⟩
  have B1 := hide hb1
  clear hb1
  go_wp2_with fail
  refine (mask_no _ _ (unhide KM)).mono ?_
  rintro e w1 ⟨rfl, rfl⟩
  go_wp2_with fail
  refine (rmask_no _ _ (unhide KM)).mono ?_
  rintro e w1 ⟨rfl, rfl⟩
  have B2 := hide (Below.then (unhide B1) (below_one w1 (.cells #[.int .u32 a0, .int .i64 a1] 30)))
  have N2 := hide (Two.new w1 (.int .u32 a0) (.int .i64 a1))
  clear B1
  go_wp2_with fail
  refine (ntext_no _ _ _ b0 b1 hr).mono ?_
  rintro e w3 ⟨rfl, hb3⟩
  have B3 := hide (Below.then (unhide B2) hb3)
  have N3 := hide ((unhide N2).on hb3)
  clear hb3 B2 N2
  go_wp2_with fail
  refine (rntext_no _ _ _ b0 b1 hr).mono ?_
  rintro e w4 ⟨rfl, hb4⟩
  have B4 := hide (Below.then (unhide B3) hb4)
  have N4 := hide ((unhide N3).on hb4)
  clear hb4 B3 N3
  go_wp2_with fail
  refine (pnet_yes a3 X Y _ z3 (hE.on (unhide B4)) (unhide KN)).mono ?_
  rintro e w5 ⟨rfl, hb5⟩
  have B5 := hide (Below.then (Below.then (unhide B4) hb5) (below_one w5 (.cells #[.int .u32 X, .int .i64 Y] 30)))
  have N5 := hide (((unhide N4).on hb5).on (below_one w5 (.cells #[.int .u32 X, .int .i64 Y] 30)))
  have M5 := hide (Two.new w5 (.int .u32 X) (.int .i64 Y))
  clear hb5 B4 N4
  go_wp2_with fail
  refine (rpnet_yes a3 X Y _ z3 (unhide KN)).mono ?_
  rintro e w6 ⟨rfl, hb6⟩
  have B6 := hide (Below.then (unhide B5) hb6)
  have N6 := (unhide N5).on hb6
  have M6 := hide ((unhide M5).on hb6)
  have K6 := hide N6
  obtain ⟨p0, p1⟩ := N6
  clear hb6 B5 N5 M5
  go_wp2_with fail
  refine (has_any _ _ _ _ d0 d1).mono ?_
  rintro e w7 ⟨rfl, hb7⟩
  have B7 := hide (Below.then (unhide B6) hb7)
  obtain ⟨q0, q1⟩ := (unhide M6).on hb7
  clear hb7 B6 M6
  go_wp2_with fail
  refine (rhas _ _ _ _ b0 b1 d0 d1).mono ?_
  rintro e w7 ⟨rfl, rfl⟩
  go_wp2_with fail
  go_ret
  exact ⟨rfl, unhide B7⟩

set_option maxHeartbeats 1000000 in
set_option maxRecDepth 100000 in
theorem walk_on (a0 a1 a2 : Int) (a3 : ByteArray) (w : World) (hE : Env w) (b0 : 0 ≤ a0) (b1 : a0 ≤ 4294967295) (d0 : 0 ≤ a2) (d1 : a2 ≤ 4294967295) (z3 : a3.size ≤ 140737488355328)
    (hm : a1 < 0 ∨ 32 < a1)
    (hr : Ad.hasB a0 a1 a0 = false)
    (hn : ∀ X Y : Nat, ¬ Ad.IsNet a3.data.toList X Y)
    : Calls Tryd.prog 4 #[.int .u32 a0, .int .i64 a1, .int .u32 a2, .string a3] w fun e w' => e = .returned (.bool true) ∧ Below w.heap.size w w' := by
  have KN := hide hn
  clear hn
  have KM := hide hm
  clear hm
  go_enter Tryd.func4, Tryd.ntmps4
  go_wp2_with fail
  refine (examples_ok _ hE).mono ?_
  rintro e w1 ⟨rfl, hb1⟩
  have B1 := hide hb1
  clear hb1
  go_wp2_with fail
  refine (mask_no _ _ (unhide KM)).mono ?_
  rintro e w1 ⟨rfl, rfl⟩
  go_wp2_with fail
  refine (rmask_no _ _ (unhide KM)).mono ?_
  rintro e w1 ⟨rfl, rfl⟩
  have B2 := hide (Below.then (unhide B1) (below_one w1 (.cells #[.int .u32 a0, .int .i64 a1] 30)))
  have N2 := hide (Two.new w1 (.int .u32 a0) (.int .i64 a1))
  clear B1
  go_wp2_with fail
  refine (ntext_no _ _ _ b0 b1 hr).mono ?_
  rintro e w3 ⟨rfl, hb3⟩
  have B3 := hide (Below.then (unhide B2) hb3)
  have N3 := hide ((unhide N2).on hb3)
  clear hb3 B2 N2
  go_wp2_with fail
  refine (rntext_no _ _ _ b0 b1 hr).mono ?_
  rintro e w4 ⟨rfl, hb4⟩
  have B4 := hide (Below.then (unhide B3) hb4)
  have N4 := hide ((unhide N3).on hb4)
  clear hb4 B3 N3
  go_wp2_with fail
  refine (pnet_no a3 _ z3 (hE.on (unhide B4)) (unhide KN)).mono ?_
  rintro e w5 ⟨rfl, hb5⟩
  have B5 := hide (Below.then (Below.then (unhide B4) hb5) (below_one w5 (.cells #[.int .u32 0, .int .i64 0] 30)))
  have N5 := hide (((unhide N4).on hb5).on (below_one w5 (.cells #[.int .u32 0, .int .i64 0] 30)))
  have M5 := hide (Two.new w5 (.int .u32 0) (.int .i64 0))
  clear hb5 B4 N4
  go_wp2_with fail
  refine (rpnet_no a3 _ z3 (unhide KN)).mono ?_
  rintro e w6 ⟨rfl, hb6⟩
  have B6 := hide (Below.then (unhide B5) hb6)
  have N6 := (unhide N5).on hb6
  have M6 := hide ((unhide M5).on hb6)
  have K6 := hide N6
  obtain ⟨p0, p1⟩ := N6
  clear hb6 B5 N5 M5
  go_wp2_with fail
  refine (has_any _ _ _ _ d0 d1).mono ?_
  rintro e w7 ⟨rfl, hb7⟩
  have B7 := hide (Below.then (unhide B6) hb7)
  obtain ⟨q0, q1⟩ := (unhide M6).on hb7
  clear hb7 B6 M6
  go_wp2_with fail
  refine (rhas _ _ _ _ b0 b1 d0 d1).mono ?_
  rintro e w7 ⟨rfl, rfl⟩
  go_wp2_with fail
  go_ret
  exact ⟨rfl, unhide B7⟩

set_option maxHeartbeats 1000000 in
set_option maxRecDepth 100000 in
theorem walk_iwy (a0 a1 a2 : Int) (a3 : ByteArray) (w : World) (hE : Env w) (b0 : 0 ≤ a0) (b1 : a0 ≤ 4294967295) (d0 : 0 ≤ a2) (d1 : a2 ≤ 4294967295) (z3 : a3.size ≤ 140737488355328)
    (hm0 : 0 ≤ a1) (hm1 : a1 ≤ 32)
    (hr : Ad.hasB a0 a1 a0 = false)
    (X Y : Nat) (hn : Ad.IsNet a3.data.toList X Y)
    : Calls Tryd.prog 4 #[.int .u32 a0, .int .i64 a1, .int .u32 a2, .string a3] w fun e w' => e = .returned (.bool true) ∧ Below w.heap.size w w' := by
  have KN := hide hn
  clear hn
  go_enter Tryd.func4, Tryd.ntmps4
  go_wp2_with fail
  refine (examples_ok _ hE).mono ?_
  rintro e w1 ⟨rfl, hb1⟩
  have B1 := hide hb1
  clear hb1
  go_wp2_with fail
  refine (mask_yes _ _ hm0 hm1).mono ?_
  rintro e w1 ⟨rfl, rfl⟩
  go_wp2_with fail
  refine (rmask_yes _ _ hm0 hm1).mono ?_
  rintro e w1 ⟨rfl, rfl⟩
  have B2 := hide (Below.then (unhide B1) (below_one w1 (.cells #[.int .u32 a0, .int .i64 a1] 30)))
  have N2 := hide (Two.new w1 (.int .u32 a0) (.int .i64 a1))
  clear B1
  go_wp2_with fail
  refine (ntext_no _ _ _ b0 b1 hr).mono ?_
  rintro e w3 ⟨rfl, hb3⟩
  have B3 := hide (Below.then (unhide B2) hb3)
  have N3 := hide ((unhide N2).on hb3)
  clear hb3 B2 N2
  go_wp2_with fail
  refine (rntext_no _ _ _ b0 b1 hr).mono ?_
  rintro e w4 ⟨rfl, hb4⟩
  have B4 := hide (Below.then (unhide B3) hb4)
  have N4 := hide ((unhide N3).on hb4)
  clear hb4 B3 N3
  go_wp2_with fail
  refine (pnet_yes a3 X Y _ z3 (hE.on (unhide B4)) (unhide KN)).mono ?_
  rintro e w5 ⟨rfl, hb5⟩
  have B5 := hide (Below.then (Below.then (unhide B4) hb5) (below_one w5 (.cells #[.int .u32 X, .int .i64 Y] 30)))
  have N5 := hide (((unhide N4).on hb5).on (below_one w5 (.cells #[.int .u32 X, .int .i64 Y] 30)))
  have M5 := hide (Two.new w5 (.int .u32 X) (.int .i64 Y))
  clear hb5 B4 N4
  go_wp2_with fail
  refine (rpnet_yes a3 X Y _ z3 (unhide KN)).mono ?_
  rintro e w6 ⟨rfl, hb6⟩
  have B6 := hide (Below.then (unhide B5) hb6)
  have N6 := (unhide N5).on hb6
  have M6 := hide ((unhide M5).on hb6)
  have K6 := hide N6
  obtain ⟨p0, p1⟩ := N6
  clear hb6 B5 N5 M5
  go_wp2_with fail
  refine (has_any _ _ _ _ d0 d1).mono ?_
  rintro e w7 ⟨rfl, hb7⟩
  have B7 := hide (Below.then (unhide B6) hb7)
  obtain ⟨q0, q1⟩ := (unhide M6).on hb7
  clear hb7 B6 M6
  go_wp2_with fail
  refine (rhas _ _ _ _ b0 b1 d0 d1).mono ?_
  rintro e w7 ⟨rfl, rfl⟩
  go_wp2_with fail
  go_ret
  exact ⟨rfl, unhide B7⟩

set_option maxHeartbeats 1000000 in
set_option maxRecDepth 100000 in
theorem walk_iwn (a0 a1 a2 : Int) (a3 : ByteArray) (w : World) (hE : Env w) (b0 : 0 ≤ a0) (b1 : a0 ≤ 4294967295) (d0 : 0 ≤ a2) (d1 : a2 ≤ 4294967295) (z3 : a3.size ≤ 140737488355328)
    (hm0 : 0 ≤ a1) (hm1 : a1 ≤ 32)
    (hr : Ad.hasB a0 a1 a0 = false)
    (hn : ∀ X Y : Nat, ¬ Ad.IsNet a3.data.toList X Y)
    : Calls Tryd.prog 4 #[.int .u32 a0, .int .i64 a1, .int .u32 a2, .string a3] w fun e w' => e = .returned (.bool true) ∧ Below w.heap.size w w' := by
  have KN := hide hn
  clear hn
  go_enter Tryd.func4, Tryd.ntmps4
  go_wp2_with fail
  refine (examples_ok _ hE).mono ?_
  rintro e w1 ⟨rfl, hb1⟩
  have B1 := hide hb1
  clear hb1
  go_wp2_with fail
  refine (mask_yes _ _ hm0 hm1).mono ?_
  rintro e w1 ⟨rfl, rfl⟩
  go_wp2_with fail
  refine (rmask_yes _ _ hm0 hm1).mono ?_
  rintro e w1 ⟨rfl, rfl⟩
  have B2 := hide (Below.then (unhide B1) (below_one w1 (.cells #[.int .u32 a0, .int .i64 a1] 30)))
  have N2 := hide (Two.new w1 (.int .u32 a0) (.int .i64 a1))
  clear B1
  go_wp2_with fail
  refine (ntext_no _ _ _ b0 b1 hr).mono ?_
  rintro e w3 ⟨rfl, hb3⟩
  have B3 := hide (Below.then (unhide B2) hb3)
  have N3 := hide ((unhide N2).on hb3)
  clear hb3 B2 N2
  go_wp2_with fail
  refine (rntext_no _ _ _ b0 b1 hr).mono ?_
  rintro e w4 ⟨rfl, hb4⟩
  have B4 := hide (Below.then (unhide B3) hb4)
  have N4 := hide ((unhide N3).on hb4)
  clear hb4 B3 N3
  go_wp2_with fail
  refine (pnet_no a3 _ z3 (hE.on (unhide B4)) (unhide KN)).mono ?_
  rintro e w5 ⟨rfl, hb5⟩
  have B5 := hide (Below.then (Below.then (unhide B4) hb5) (below_one w5 (.cells #[.int .u32 0, .int .i64 0] 30)))
  have N5 := hide (((unhide N4).on hb5).on (below_one w5 (.cells #[.int .u32 0, .int .i64 0] 30)))
  have M5 := hide (Two.new w5 (.int .u32 0) (.int .i64 0))
  clear hb5 B4 N4
  go_wp2_with fail
  refine (rpnet_no a3 _ z3 (unhide KN)).mono ?_
  rintro e w6 ⟨rfl, hb6⟩
  have B6 := hide (Below.then (unhide B5) hb6)
  have N6 := (unhide N5).on hb6
  have M6 := hide ((unhide M5).on hb6)
  have K6 := hide N6
  obtain ⟨p0, p1⟩ := N6
  clear hb6 B5 N5 M5
  go_wp2_with fail
  refine (has_any _ _ _ _ d0 d1).mono ?_
  rintro e w7 ⟨rfl, hb7⟩
  have B7 := hide (Below.then (unhide B6) hb7)
  obtain ⟨q0, q1⟩ := (unhide M6).on hb7
  clear hb7 B6 M6
  go_wp2_with fail
  refine (rhas _ _ _ _ b0 b1 d0 d1).mono ?_
  rintro e w7 ⟨rfl, rfl⟩
  go_wp2_with fail
  go_ret
  exact ⟨rfl, unhide B7⟩

set_option maxHeartbeats 1000000 in
set_option maxRecDepth 100000 in
theorem walk_iry (a0 a1 a2 : Int) (a3 : ByteArray) (w : World) (hE : Env w) (b0 : 0 ≤ a0) (b1 : a0 ≤ 4294967295) (d0 : 0 ≤ a2) (d1 : a2 ≤ 4294967295) (z3 : a3.size ≤ 140737488355328)
    (hm0 : 0 ≤ a1) (hm1 : a1 ≤ 32)
    (hr : Ad.hasB a0 a1 a0 = true)
    (X Y : Nat) (hn : Ad.IsNet a3.data.toList X Y)
    : Calls Tryd.prog 4 #[.int .u32 a0, .int .i64 a1, .int .u32 a2, .string a3] w fun e w' => e = .returned (.bool true) ∧ Below w.heap.size w w' := by
  have KN := hide hn
  clear hn
  go_enter Tryd.func4, Tryd.ntmps4
  go_wp2_with fail
  refine (examples_ok _ hE).mono ?_
  rintro e w1 ⟨rfl, hb1⟩
  have B1 := hide hb1
  clear hb1
  go_wp2_with fail
  refine (mask_yes _ _ hm0 hm1).mono ?_
  rintro e w1 ⟨rfl, rfl⟩
  go_wp2_with fail
  refine (rmask_yes _ _ hm0 hm1).mono ?_
  rintro e w1 ⟨rfl, rfl⟩
  have B2 := hide (Below.then (unhide B1) (below_one w1 (.cells #[.int .u32 a0, .int .i64 a1] 30)))
  have N2 := hide (Two.new w1 (.int .u32 a0) (.int .i64 a1))
  clear B1
  go_wp2_with fail
  refine (ntext_yes _ _ _ b0 b1 hr (hE.on (unhide B2))).mono ?_
  rintro e w3 ⟨rfl, hb3⟩
  have B3 := hide (Below.then (unhide B2) hb3)
  have N3 := hide ((unhide N2).on hb3)
  clear hb3 B2 N2
  go_wp2_with fail
  refine (rntext_yes _ _ _ b0 b1 hr).mono ?_
  rintro e w4 ⟨rfl, hb4⟩
  have B4 := hide (Below.then (unhide B3) hb4)
  have N4 := hide ((unhide N3).on hb4)
  clear hb4 B3 N3
  go_wp2_with fail
  refine (pnet_yes a3 X Y _ z3 (hE.on (unhide B4)) (unhide KN)).mono ?_
  rintro e w5 ⟨rfl, hb5⟩
  have B5 := hide (Below.then (Below.then (unhide B4) hb5) (below_one w5 (.cells #[.int .u32 X, .int .i64 Y] 30)))
  have N5 := hide (((unhide N4).on hb5).on (below_one w5 (.cells #[.int .u32 X, .int .i64 Y] 30)))
  have M5 := hide (Two.new w5 (.int .u32 X) (.int .i64 Y))
  clear hb5 B4 N4
  go_wp2_with fail
  refine (rpnet_yes a3 X Y _ z3 (unhide KN)).mono ?_
  rintro e w6 ⟨rfl, hb6⟩
  have B6 := hide (Below.then (unhide B5) hb6)
  have N6 := (unhide N5).on hb6
  have M6 := hide ((unhide M5).on hb6)
  have K6 := hide N6
  obtain ⟨p0, p1⟩ := N6
  clear hb6 B5 N5 M5
  go_wp2_with fail
  refine (has_any _ _ _ _ d0 d1).mono ?_
  rintro e w7 ⟨rfl, hb7⟩
  have B7 := hide (Below.then (unhide B6) hb7)
  obtain ⟨q0, q1⟩ := (unhide M6).on hb7
  clear hb7 B6 M6
  go_wp2_with fail
  refine (rhas _ _ _ _ b0 b1 d0 d1).mono ?_
  rintro e w7 ⟨rfl, rfl⟩
  go_wp2_with fail
  go_ret
  exact ⟨rfl, unhide B7⟩

set_option maxHeartbeats 1000000 in
set_option maxRecDepth 100000 in
theorem walk_irn (a0 a1 a2 : Int) (a3 : ByteArray) (w : World) (hE : Env w) (b0 : 0 ≤ a0) (b1 : a0 ≤ 4294967295) (d0 : 0 ≤ a2) (d1 : a2 ≤ 4294967295) (z3 : a3.size ≤ 140737488355328)
    (hm0 : 0 ≤ a1) (hm1 : a1 ≤ 32)
    (hr : Ad.hasB a0 a1 a0 = true)
    (hn : ∀ X Y : Nat, ¬ Ad.IsNet a3.data.toList X Y)
    : Calls Tryd.prog 4 #[.int .u32 a0, .int .i64 a1, .int .u32 a2, .string a3] w fun e w' => e = .returned (.bool true) ∧ Below w.heap.size w w' := by
  have KN := hide hn
  clear hn
  go_enter Tryd.func4, Tryd.ntmps4
  go_wp2_with fail
  refine (examples_ok _ hE).mono ?_
  rintro e w1 ⟨rfl, hb1⟩
  have B1 := hide hb1
  clear hb1
  go_wp2_with fail
  refine (mask_yes _ _ hm0 hm1).mono ?_
  rintro e w1 ⟨rfl, rfl⟩
  go_wp2_with fail
  refine (rmask_yes _ _ hm0 hm1).mono ?_
  rintro e w1 ⟨rfl, rfl⟩
  have B2 := hide (Below.then (unhide B1) (below_one w1 (.cells #[.int .u32 a0, .int .i64 a1] 30)))
  have N2 := hide (Two.new w1 (.int .u32 a0) (.int .i64 a1))
  clear B1
  go_wp2_with fail
  refine (ntext_yes _ _ _ b0 b1 hr (hE.on (unhide B2))).mono ?_
  rintro e w3 ⟨rfl, hb3⟩
  have B3 := hide (Below.then (unhide B2) hb3)
  have N3 := hide ((unhide N2).on hb3)
  clear hb3 B2 N2
  go_wp2_with fail
  refine (rntext_yes _ _ _ b0 b1 hr).mono ?_
  rintro e w4 ⟨rfl, hb4⟩
  have B4 := hide (Below.then (unhide B3) hb4)
  have N4 := hide ((unhide N3).on hb4)
  clear hb4 B3 N3
  go_wp2_with fail
  refine (pnet_no a3 _ z3 (hE.on (unhide B4)) (unhide KN)).mono ?_
  rintro e w5 ⟨rfl, hb5⟩
  have B5 := hide (Below.then (Below.then (unhide B4) hb5) (below_one w5 (.cells #[.int .u32 0, .int .i64 0] 30)))
  have N5 := hide (((unhide N4).on hb5).on (below_one w5 (.cells #[.int .u32 0, .int .i64 0] 30)))
  have M5 := hide (Two.new w5 (.int .u32 0) (.int .i64 0))
  clear hb5 B4 N4
  go_wp2_with fail
  refine (rpnet_no a3 _ z3 (unhide KN)).mono ?_
  rintro e w6 ⟨rfl, hb6⟩
  have B6 := hide (Below.then (unhide B5) hb6)
  have N6 := (unhide N5).on hb6
  have M6 := hide ((unhide M5).on hb6)
  have K6 := hide N6
  obtain ⟨p0, p1⟩ := N6
  clear hb6 B5 N5 M5
  go_wp2_with fail
  refine (has_any _ _ _ _ d0 d1).mono ?_
  rintro e w7 ⟨rfl, hb7⟩
  have B7 := hide (Below.then (unhide B6) hb7)
  obtain ⟨q0, q1⟩ := (unhide M6).on hb7
  clear hb7 B6 M6
  go_wp2_with fail
  refine (rhas _ _ _ _ b0 b1 d0 d1).mono ?_
  rintro e w7 ⟨rfl, rfl⟩
  go_wp2_with fail
  go_ret
  exact ⟨rfl, unhide B7⟩

set_option maxHeartbeats 1000000 in
set_option maxRecDepth 100000 in
theorem walk (a0 : Int) (a1 : Int) (a2 : Int) (a3 : ByteArray) (w0 : (Lit.int .u32 a0).wf = true) (w1 : (Lit.int .i64 a1).wf = true) (w2 : (Lit.int .u32 a2).wf = true) (z3 : a3.size ≤ 140737488355328) (w : World) (hE : Env w) :
    Calls Tryd.prog 4 #[.int .u32 a0, .int .i64 a1, .int .u32 a2, .string a3] w fun e w' => e = .returned (.bool true) ∧ Below w.heap.size w w' := by
  have b0 : 0 ≤ a0 := (bounds_u32 w0).1
  have b1 : a0 ≤ 4294967295 := (bounds_u32 w0).2
  have d0 : 0 ≤ a2 := (bounds_u32 w2).1
  have d1 : a2 ≤ 4294967295 := (bounds_u32 w2).2
  by_cases hm : a1 < 0 ∨ 32 < a1
  · by_cases hn : ∃ X Y : Nat, Ad.IsNet a3.data.toList X Y
    · obtain ⟨X, Y, hn⟩ := hn
      exact walk_oy a0 a1 a2 a3 w hE b0 b1 d0 d1 z3 hm (Ad.has_out hm) X Y hn
    · exact walk_on a0 a1 a2 a3 w hE b0 b1 d0 d1 z3 hm (Ad.has_out hm) (fun X Y h => hn ⟨X, Y, h⟩)
  · cases hr : Ad.hasB a0 a1 a0 with
    | false =>
      by_cases hn : ∃ X Y : Nat, Ad.IsNet a3.data.toList X Y
      · obtain ⟨X, Y, hn⟩ := hn
        exact walk_iwy a0 a1 a2 a3 w hE b0 b1 d0 d1 z3 (by omega) (by omega) hr X Y hn
      · exact walk_iwn a0 a1 a2 a3 w hE b0 b1 d0 d1 z3 (by omega) (by omega) hr (fun X Y h => hn ⟨X, Y, h⟩)
    | true =>
      by_cases hn : ∃ X Y : Nat, Ad.IsNet a3.data.toList X Y
      · obtain ⟨X, Y, hn⟩ := hn
        exact walk_iry a0 a1 a2 a3 w hE b0 b1 d0 d1 z3 (by omega) (by omega) hr X Y hn
      · exact walk_irn a0 a1 a2 a3 w hE b0 b1 d0 d1 z3 (by omega) (by omega) hr (fun X Y h => hn ⟨X, Y, h⟩)

set_option maxRecDepth 100000 in
theorem lifted (os : Os) (started : os.Started) (H : Type) (enc : TypeId × Value → H) :
    ReturnsInHanded {} Tryd.checked os 4 .any (fun w args => (Rows.addrNetsSpec.pre enc Tryd.prog Tryd.f4 [] false w args ∧ laidMetH Tryd.prog Rows.addrNetsRow.laid w) ∧ sizedMet enc Tryd.prog Tryd.f4 (OpenSpec.ofChange Rows.addrNetsSpec) false w args)
      (Rows.addrNetsSpec.post enc Tryd.prog Tryd.f4 false true false false) := by
  refine returnsInHanded_of_change_and (C := Tryd.checked) (X := fun w _ => laidMetH Tryd.prog Rows.addrNetsRow.laid w) (fun _ _ _ hh h => h.of_heap hh) own started (by kernel_rfl) Tryd.func4
    (ChangeSpec.witness_shaped (enc := enc) (C := Tryd.checked) (os := os) (X := fun w _ => laidMetH Tryd.prog Rows.addrNetsRow.laid w) false (World.laidAll Tryd.prog os Rows.addrTextsRow.laid) #[.int .u32 0, .int .i64 0, .int .u32 0, .string ByteArray.empty] 8 (World.laidAll_os _ _ _)
      (laid_shaped os) (by kernel_rfl) (by kernel_rfl) (by kernel_rfl) (laid_met os _)) ?_
  intro W base args ds gs before hval0 hW _ hsz hL _
  have hval : ∀ (j : Nat) t v, Tryd.f4.params[j]? = some t → args[j]? = some v → Value.okWide Tryd.prog W .any base t v := hval0
  have hW' := hW
  obtain ⟨p, q, hA0, hV, rfl, hfz, hnd⟩ := hW
  have hA : DataW.TrodAll enc Tryd.prog W 0 (fun _ => true) true Tryd.f4.params.toList args.toList ds p := hA0
  rw [Tryd.params4] at hA hval
  obtain ⟨v0, vs0, d0, ds0, p0, q0, hargs, rfl, rfl, h0, r0⟩ := trodAll_cons hA
  obtain ⟨v1, vs1, d1, ds1, p1, q1, rfl, rfl, rfl, h1, r1⟩ := trodAll_cons r0
  obtain ⟨v2, vs2, d2, ds2, p2, q2, rfl, rfl, rfl, h2, r2⟩ := trodAll_cons r1
  obtain ⟨v3, vs3, d3, ds3, p3, q3, rfl, rfl, rfl, h3, r3⟩ := trodAll_cons r2
  obtain ⟨rfl, rfl, rfl⟩ := trodAll_nil r3
  obtain rfl : args = #[v0, v1, v2, v3] := by cases args; simp_all
  obtain ⟨rfl, rfl⟩ := trodVars_none hV
  obtain ⟨a0, rfl, rfl, rfl, w0⟩ := open_int Tryd.underlying22 (hval 0 22 v0 rfl rfl) h0
  obtain ⟨a1, rfl, rfl, rfl, w1⟩ := open_int Tryd.underlying3 (hval 1 3 v1 rfl rfl) h1
  obtain ⟨a2, rfl, rfl, rfl, w2⟩ := open_int Tryd.underlying22 (hval 2 22 v2 rfl rfl) h2
  obtain ⟨a3, rfl, rfl, rfl, w3⟩ := open_string Tryd.underlying9 (hval 3 9 v3 rfl rfl) h3
  simp only [List.append_nil] at hW'
  have z3 : a3.size ≤ 140737488355328 := by
    have hq : a3.data.toList.length ≤ reachBytes := sized_string hsz (j := 3) (t := 9) rfl rfl
    rw [len_eq] at hq
    exact Nat.le_trans hq (Nat.le_of_lt reachBytes_lt)
  refine (walk a0 a1 a2 a3 w0 w1 w2 z3 W (env_of hL)).mono fun e W' ⟨he, hb⟩ => ?_
  subst he
  exact ⟨_, rfl, _, _, _, [], [], [], hW', (trodAll_cons_mk (shut_bool Tryd.underlying4 _) trodAll_mk0), (trodAll_cons_mk (shut_int Tryd.underlying22 w0) (trodAll_cons_mk (shut_int Tryd.underlying3 w1) (trodAll_cons_mk (shut_int Tryd.underlying22 w2) (trodAll_cons_mk (shut_string Tryd.underlying9 w3) trodAll_mk0)))), rfl, hb.frame _, fun h => by cases h⟩

theorem over : Rows.addrNetsRow.holds Tryd.pinned (OpenSpec.ofChange Rows.addrNetsSpec) :=
  OpenClaim.holds_of_wide 4 Tryd.f4 rfl rfl rfl rfl rfl rfl rfl ⟨rfl, rfl, rfl, rfl, rfl⟩ rfl rfl rfl rfl rfl (by kernel_rfl) Tryd.func4 (by kernel_rfl)
    (of_decide_eq_true (by kernel_rfl)) (by unfold Func.isWrapper; first | (rw [if_pos (by decide +kernel)]; kernel_rfl) | (rw [if_neg (by decide +kernel)]; exact ⟨rfl, rfl⟩))
    (fun os started H enc _ => lifted os started H enc)

theorem proved : Rows.AddrNetsCardSaid :=
  Claim7.holds_tied_plain_at .later [] [.data, .data, .data, .data, .sentinel, .sentinel, .pinned] true (true, "175afbf1b3771384037ba59ab58552f86875b3316abe2b1edeec32f6b76d1a09") true over (fun _ h => by cases h) (by kernel_rfl) (fun _ h => by cases h) addrNets_row_tie rfl ⟨rfl, rfl⟩ (by kernel_rfl) rfl
    (fun f fn hf hfn => by
      obtain rfl : f = 4 := Option.some.inj ((show Tryd.prog.funcNamed Rows.addrNetsRow.func = some 4 by kernel_rfl).symm.trans hf) |>.symm
      obtain rfl : fn = Tryd.f4 := (Option.some.inj (Tryd.func4.symm.trans hfn)).symm
      exact ⟨by kernel_rfl, fun j t ht => by
        rw [Tryd.params4] at ht
        have hm : t ∈ [22, 3, 22, 9] := by simpa using Array.mem_of_getElem? ht
        have hall : ([22, 3, 22, 9].all fun u => !Tryd.prog.wantsStandIn u) = true := by kernel_rfl
        exact (show Tryd.prog.wantsStandIn t = false by simpa using List.all_eq_true.1 hall t hm)⟩)
    (by kernel_rfl)
#print axioms proved
end Go.Proofs.YtnnhkjjnolhaoaaDoor.addrNets
