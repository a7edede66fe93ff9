/- The law IcmpParses returns true for every text, message, place and byte whose bulk together is at most 1048576, and changes nothing that was there before, where the package's four variables hold what the program's own text lays in them; no other condition but the form's own. -/
import Derived.Test.YteggaeleehlhmaaDoorIcLaid
import Derived.Test.YteggaeleehlhmaaDoorIcOpen
import Derived.Test.YteggaeleehlhmaaDoorIcBit
import Derived.Test.YteggaeleehlhmaaDoorIpGrow
namespace Go.Proofs.YteggaeleehlhmaaDoor.icmpParses
open Go.ChangeShapes Go.WideShapes Go.ChangeAt Go.RowKit
open Go.ChangeMaps (open_string shut_string)
set_option linter.unusedVariables false
theorem hdrew {V u : World} {B : Nat} (hb : Below B V.drew u) : Below B V u := ⟨hb.os, hb.tape, hb.output, hb.size, hb.block⟩
theorem cells_of {W : World} {b : Nat} {h : Hd} (k : HdAt W b h) : W.cell? ⟨b, 0, none⟩ = some (.int .i64 h.kind) ∧ W.cell? ⟨b, 1, none⟩ = some (.int .i64 h.code) ∧ W.cell? ⟨b, 2, none⟩ = some (.int .u32 h.rest) ∧ W.cell? ⟨b, 3, none⟩ = some (.string h.body) :=
  ⟨k 0 (by decide), k 1 (by decide), k 2 (by decide), k 3 (by decide)⟩
set_option maxHeartbeats 4000000 in
set_option maxRecDepth 100000 in
theorem walk (w : World) (hE : Env w) (a0 : ByteArray) (z0 : a0.size ≤ 1048576) (a1 : Hd) (w1 : a1.Wf) (s1 : a1.body.size ≤ 1048576) (a2 : Bool) (a3 : Int) (w3 : (Lit.int .i64 a3).wf = true) (a4 : Int) (w4 : (Lit.int .u8 a4).wf = true) :
    Calls Tryd.prog 4 #[.string a0, a1.val, .bool a2, .int .i64 a3, .int .u8 a4] w fun e w' => e = .returned (.bool true) ∧ Below w.heap.size w w' := by
  obtain ⟨b0, b1⟩ := bounds_i64 w3
  obtain ⟨y0, y1⟩ := bounds_u8 w4
  have HPA := hide (fun (x : ByteArray) (u : World) (hx : x.size ≤ 1048576) => parse_any x u (by omega))
  have HRA := hide (fun (x : ByteArray) (u : World) (hx : x.size ≤ 1048576) => rparse_any x u hx)
  have HRF := hide (fun u => ref_any a1 u)
  have HRB := hide (fun u => rbuild_any a1 u w1)
  have HGO : Hid (buildE a1 = 0 → buildS a1 = built a1 ∧ 8 ≤ (built a1).size ∧ (built a1).size ≤ 1500) := fun he => by
    obtain ⟨g, hs⟩ := good_of he w1
    have := built_size g
    exact ⟨buildS_of he, by omega, by omega⟩
  have HX := hide (fun u hu => examples_ok u hu)
  have HK := hide (kept_new w a1 24)
  have HE := hide hE
  clear hE w1 w3 w4
  go_enter Tryd.func4, Tryd.ntmps4
  go_wp2_with fail
  refine (unhide HX _ ((unhide HE).on (unhide HK).below)).mono ?_
  rintro e v1 ⟨rfl, hb1⟩
  have hk1 := (unhide HK).on hb1
  obtain ⟨c0, c1, c2, c3⟩ := hk1.cells
  have HK := hide hk1
  clear hb1 hk1
  go_wp2_with fail
  refine (unhide HRF _).mono ?_
  rintro e v2 ⟨rfl, hb2⟩
  have hk2 := (unhide HK).on hb2
  have HK := hide hk2
  clear hb2 hk2 c0 c1 c2 c3
  go_wp2_with fail
  refine (unhide HRB _).mono ?_
  rintro e v3 ⟨rfl, hb3⟩
  have HB := hide ((unhide HK).on hb3).below
  clear hb3 HK HX HRF HRB
  cases a2 with
  | false =>
    generalize buildS a1 = BS at *
    generalize buildE a1 = BE at *
    go_wp2_with fail
    refine (unhide HPA a0 _ z0).mono ?_
    rintro e p1 ⟨rfl, hb1⟩
    have HB1 := hide ((unhide HB).trans (hb1.mono (unhide HB).size))
    have HRP := hide (fun u => unhide HRA a0 u z0)
    generalize hP : parseH a0 = P at *
    generalize parseE a0 = PE at *
    clear hb1 hP
    have hA1 := (newHd p1 P 24).at_
    have hz1 : p1.heap.size < (p1.alloc (.cells #[.int .i64 P.kind, .int .i64 P.code, .int .u32 P.rest, .string P.body] 24)).heap.size := by simp
    have HB2 := hide ((unhide HB1).trans ((alloc_on p1 (.cells #[.int .i64 P.kind, .int .i64 P.code, .int .u32 P.rest, .string P.body] 24)).mono (unhide HB1).size))
    have HA1 := hide hA1
    have HZ1 := hide hz1
    clear hA1 hz1
    go_wp2_with fail
    refine (unhide HRP _).mono ?_
    rintro e p2 ⟨rfl, hb2⟩
    have hA2 := (unhide HA1).on hb2 (unhide HZ1)
    have hz2 : p1.heap.size < p2.heap.size := Nat.lt_of_lt_of_le (unhide HZ1) hb2.size
    have HBB := hide ((unhide HB2).trans (hb2.mono (unhide HB2).size))
    clear hb2 HZ1 HA1
    have hA2 := hA2.on (alloc_on p2 (.cells #[.int .i64 P.kind, .int .i64 P.code, .int .u32 P.rest, .string P.body] 31)) hz2
    have hA3 := (newHd p2 P 31).at_
    have hz2 : p1.heap.size < (p2.alloc (.cells #[.int .i64 P.kind, .int .i64 P.code, .int .u32 P.rest, .string P.body] 31)).heap.size := by simp; omega
    have hz3 : p2.heap.size < (p2.alloc (.cells #[.int .i64 P.kind, .int .i64 P.code, .int .u32 P.rest, .string P.body] 31)).heap.size := by simp
    have HB3 := hide ((unhide HBB).trans ((alloc_on p2 (.cells #[.int .i64 P.kind, .int .i64 P.code, .int .u32 P.rest, .string P.body] 31)).mono (unhide HBB).size))
    have HH := hide (And.intro hA2 (And.intro hA3 (And.intro hz2 hz3)))
    clear hA2 hA3 hz2 hz3
    go_wp2_with fail
    obtain ⟨hA2, hA3, hz2, hz3⟩ := unhide HH
    generalize p2.alloc (.cells #[.int .i64 P.kind, .int .i64 P.code, .int .u32 P.rest, .string P.body] 31) = V at *
    refine wp_region_grow (by kernel_rfl) [.bool true, .bool true, .agg #[.int .i64 P.kind, .int .i64 P.code, .int .u32 P.rest, .string P.body], .agg #[.int .i64 P.kind, .int .i64 P.code, .int .u32 P.rest, .string P.body], .agg #[.int .i64 P.kind, .int .i64 P.code, .int .u32 P.rest, .string P.body], .bool true, .bool true, .bool true, .int .i64 PE, .int .i64 PE, .bool true, .bool true, .bool true] (by kernel_rfl) ?op ?fin
    case op =>
      intro i o bx u ho hbel hS
      match i, ho with
      | 0, ho =>
        obtain rfl := Option.some.inj ho
        have d11 : bx.tmps.getD 11 undef = .bool true := hS.base 11 (by kernel_rfl)
        refine .inl ⟨rfl, ends_value' (c := .bool true) ?_⟩
        simp [execOp, Act.eval, d11]
      | 1, ho =>
        obtain rfl := Option.some.inj ho
        have d67 : bx.tmps.getD 67 undef = .bool true := hS.dep 0 67 (by kernel_rfl) (by kernel_rfl)
        refine .inl ⟨rfl, ends_value' (c := .bool true) ?_⟩
        simp [execOp, Act.eval, d67]
      | 2, ho =>
        obtain rfl := Option.some.inj ho
        have d15 : bx.tmps.getD 15 undef = .pointer (some ⟨p1.heap.size, 0, none⟩) := hS.base 15 (by kernel_rfl)
        have gd : bx.tmps.getD 68 undef = .bool true := hS.dep 1 68 (by kernel_rfl) (by kernel_rfl)
        have hl := cells_of (hA2.on (hdrew hbel) hz2)
        refine .inl ⟨wanted_yes (j := 1) (t := 68) (c := true) (by kernel_rfl) (by kernel_rfl) gd, ends_value' (c := .agg #[.int .i64 P.kind, .int .i64 P.code, .int .u32 P.rest, .string P.body]) ?_⟩
        simp [Act.eval, d15, go_sem, hl]
      | 3, ho =>
        obtain rfl := Option.some.inj ho
        have d69 : bx.tmps.getD 69 undef = .agg #[.int .i64 P.kind, .int .i64 P.code, .int .u32 P.rest, .string P.body] := hS.dep 2 69 (by kernel_rfl) (by kernel_rfl)
        have gd : bx.tmps.getD 68 undef = .bool true := hS.dep 1 68 (by kernel_rfl) (by kernel_rfl)
        refine .inl ⟨wanted_yes (j := 1) (t := 68) (c := true) (by kernel_rfl) (by kernel_rfl) gd, ends_call' (c := .agg #[.int .i64 P.kind, .int .i64 P.code, .int .u32 P.rest, .string P.body]) (f := 11) (args := #[.agg #[.int .i64 P.kind, .int .i64 P.code, .int .u32 P.rest, .string P.body]]) ?_ (ref_any P u)⟩
        simp [Act.eval, d69, go_sem]
      | 4, ho =>
        obtain rfl := Option.some.inj ho
        have d17 : bx.tmps.getD 17 undef = .pointer (some ⟨p2.heap.size, 0, none⟩) := hS.base 17 (by kernel_rfl)
        have gd : bx.tmps.getD 68 undef = .bool true := hS.dep 1 68 (by kernel_rfl) (by kernel_rfl)
        have hl := cells_of (hA3.on (hdrew hbel) hz3)
        refine .inl ⟨wanted_yes (j := 1) (t := 68) (c := true) (by kernel_rfl) (by kernel_rfl) gd, ends_value' (c := .agg #[.int .i64 P.kind, .int .i64 P.code, .int .u32 P.rest, .string P.body]) ?_⟩
        simp [Act.eval, d17, go_sem, hl]
      | 5, ho =>
        obtain rfl := Option.some.inj ho
        have d70 : bx.tmps.getD 70 undef = .agg #[.int .i64 P.kind, .int .i64 P.code, .int .u32 P.rest, .string P.body] := hS.dep 3 70 (by kernel_rfl) (by kernel_rfl)
        have d71 : bx.tmps.getD 71 undef = .agg #[.int .i64 P.kind, .int .i64 P.code, .int .u32 P.rest, .string P.body] := hS.dep 4 71 (by kernel_rfl) (by kernel_rfl)
        have gd : bx.tmps.getD 68 undef = .bool true := hS.dep 1 68 (by kernel_rfl) (by kernel_rfl)
        refine .inl ⟨wanted_yes (j := 1) (t := 68) (c := true) (by kernel_rfl) (by kernel_rfl) gd, ends_value' (c := .bool true) ?_⟩
        simp [Act.eval, d70, d71, go_sem]
      | 6, ho =>
        obtain rfl := Option.some.inj ho
        have d68 : bx.tmps.getD 68 undef = .bool true := hS.dep 1 68 (by kernel_rfl) (by kernel_rfl)
        have d72 : bx.tmps.getD 72 undef = .bool true := hS.dep 5 72 (by kernel_rfl) (by kernel_rfl)
        refine .inl ⟨rfl, ends_value' (c := .bool true) ?_⟩
        simp [Act.eval, d68, d72, go_sem]
      | 7, ho =>
        obtain rfl := Option.some.inj ho
        have d73 : bx.tmps.getD 73 undef = .bool true := hS.dep 6 73 (by kernel_rfl) (by kernel_rfl)
        refine .inl ⟨rfl, ends_value' (c := .bool true) ?_⟩
        simp [execOp, Act.eval, d73]
      | 8, ho =>
        obtain rfl := Option.some.inj ho
        have d16 : bx.tmps.getD 16 undef = .int .i64 PE := hS.base 16 (by kernel_rfl)
        have gd : bx.tmps.getD 74 undef = .bool true := hS.dep 7 74 (by kernel_rfl) (by kernel_rfl)
        refine .inl ⟨wanted_yes (j := 7) (t := 74) (c := true) (by kernel_rfl) (by kernel_rfl) gd, ends_value' (c := .int .i64 PE) ?_⟩
        simp [execOp, Act.eval, d16]
      | 9, ho =>
        obtain rfl := Option.some.inj ho
        have d18 : bx.tmps.getD 18 undef = .int .i64 PE := hS.base 18 (by kernel_rfl)
        have gd : bx.tmps.getD 74 undef = .bool true := hS.dep 7 74 (by kernel_rfl) (by kernel_rfl)
        refine .inl ⟨wanted_yes (j := 7) (t := 74) (c := true) (by kernel_rfl) (by kernel_rfl) gd, ends_value' (c := .int .i64 PE) ?_⟩
        simp [execOp, Act.eval, d18]
      | 10, ho =>
        obtain rfl := Option.some.inj ho
        have d75 : bx.tmps.getD 75 undef = .int .i64 PE := hS.dep 8 75 (by kernel_rfl) (by kernel_rfl)
        have d76 : bx.tmps.getD 76 undef = .int .i64 PE := hS.dep 9 76 (by kernel_rfl) (by kernel_rfl)
        have gd : bx.tmps.getD 74 undef = .bool true := hS.dep 7 74 (by kernel_rfl) (by kernel_rfl)
        refine .inl ⟨wanted_yes (j := 7) (t := 74) (c := true) (by kernel_rfl) (by kernel_rfl) gd, ends_value' (c := .bool true) ?_⟩
        simp [Act.eval, d75, d76, go_sem]
      | 11, ho =>
        obtain rfl := Option.some.inj ho
        have d74 : bx.tmps.getD 74 undef = .bool true := hS.dep 7 74 (by kernel_rfl) (by kernel_rfl)
        have d77 : bx.tmps.getD 77 undef = .bool true := hS.dep 10 77 (by kernel_rfl) (by kernel_rfl)
        refine .inl ⟨rfl, ends_value' (c := .bool true) ?_⟩
        simp [Act.eval, d74, d77, go_sem]
      | 12, ho =>
        obtain rfl := Option.some.inj ho
        have d78 : bx.tmps.getD 78 undef = .bool true := hS.dep 11 78 (by kernel_rfl) (by kernel_rfl)
        refine .inl ⟨rfl, ends_value' (c := .bool true) ?_⟩
        simp [execOp, Act.eval, d78]
      | n + 13, ho => exact absurd ho (by simp)
    case fin =>
      intro u hbel
      simp [putAll, dstAt, Act.put]
      go_wp2_with fail
      go_ret
      exact ⟨rfl, (unhide HB3).drew.trans (hbel.mono (Nat.le_of_lt (Nat.lt_of_le_of_lt (unhide HB1).size hz2)))⟩
  | true =>
    by_cases he : buildE a1 = 0
    case neg =>
      have hd : (buildE a1 == 0) = false := by simpa using he
      generalize buildS a1 = BS at *
      generalize buildE a1 = BE at *
      clear he
      go_wp2_with fail
      refine (unhide HPA a0 _ z0).mono ?_
      rintro e p1 ⟨rfl, hb1⟩
      have HB1 := hide ((unhide HB).trans (hb1.mono (unhide HB).size))
      have HRP := hide (fun u => unhide HRA a0 u z0)
      generalize hP : parseH a0 = P at *
      generalize parseE a0 = PE at *
      clear hb1 hP
      have hA1 := (newHd p1 P 24).at_
      have hz1 : p1.heap.size < (p1.alloc (.cells #[.int .i64 P.kind, .int .i64 P.code, .int .u32 P.rest, .string P.body] 24)).heap.size := by simp
      have HB2 := hide ((unhide HB1).trans ((alloc_on p1 (.cells #[.int .i64 P.kind, .int .i64 P.code, .int .u32 P.rest, .string P.body] 24)).mono (unhide HB1).size))
      have HA1 := hide hA1
      have HZ1 := hide hz1
      clear hA1 hz1
      go_wp2_with fail
      refine (unhide HRP _).mono ?_
      rintro e p2 ⟨rfl, hb2⟩
      have hA2 := (unhide HA1).on hb2 (unhide HZ1)
      have hz2 : p1.heap.size < p2.heap.size := Nat.lt_of_lt_of_le (unhide HZ1) hb2.size
      have HBB := hide ((unhide HB2).trans (hb2.mono (unhide HB2).size))
      clear hb2 HZ1 HA1
      have hA2 := hA2.on (alloc_on p2 (.cells #[.int .i64 P.kind, .int .i64 P.code, .int .u32 P.rest, .string P.body] 31)) hz2
      have hA3 := (newHd p2 P 31).at_
      have hz2 : p1.heap.size < (p2.alloc (.cells #[.int .i64 P.kind, .int .i64 P.code, .int .u32 P.rest, .string P.body] 31)).heap.size := by simp; omega
      have hz3 : p2.heap.size < (p2.alloc (.cells #[.int .i64 P.kind, .int .i64 P.code, .int .u32 P.rest, .string P.body] 31)).heap.size := by simp
      have HB3 := hide ((unhide HBB).trans ((alloc_on p2 (.cells #[.int .i64 P.kind, .int .i64 P.code, .int .u32 P.rest, .string P.body] 31)).mono (unhide HBB).size))
      have HH := hide (And.intro hA2 (And.intro hA3 (And.intro hz2 hz3)))
      clear hA2 hA3 hz2 hz3
      go_wp2_with fail
      obtain ⟨hA2, hA3, hz2, hz3⟩ := unhide HH
      generalize p2.alloc (.cells #[.int .i64 P.kind, .int .i64 P.code, .int .u32 P.rest, .string P.body] 31) = V at *
      refine wp_region_grow (by kernel_rfl) [.bool true, .bool true, .agg #[.int .i64 P.kind, .int .i64 P.code, .int .u32 P.rest, .string P.body], .agg #[.int .i64 P.kind, .int .i64 P.code, .int .u32 P.rest, .string P.body], .agg #[.int .i64 P.kind, .int .i64 P.code, .int .u32 P.rest, .string P.body], .bool true, .bool true, .bool true, .int .i64 PE, .int .i64 PE, .bool true, .bool true, .bool true] (by kernel_rfl) ?op ?fin
      case op =>
        intro i o bx u ho hbel hS
        match i, ho with
        | 0, ho =>
          obtain rfl := Option.some.inj ho
          have d11 : bx.tmps.getD 11 undef = .bool true := hS.base 11 (by kernel_rfl)
          refine .inl ⟨rfl, ends_value' (c := .bool true) ?_⟩
          simp [execOp, Act.eval, d11]
        | 1, ho =>
          obtain rfl := Option.some.inj ho
          have d67 : bx.tmps.getD 67 undef = .bool true := hS.dep 0 67 (by kernel_rfl) (by kernel_rfl)
          refine .inl ⟨rfl, ends_value' (c := .bool true) ?_⟩
          simp [execOp, Act.eval, d67]
        | 2, ho =>
          obtain rfl := Option.some.inj ho
          have d15 : bx.tmps.getD 15 undef = .pointer (some ⟨p1.heap.size, 0, none⟩) := hS.base 15 (by kernel_rfl)
          have gd : bx.tmps.getD 68 undef = .bool true := hS.dep 1 68 (by kernel_rfl) (by kernel_rfl)
          have hl := cells_of (hA2.on (hdrew hbel) hz2)
          refine .inl ⟨wanted_yes (j := 1) (t := 68) (c := true) (by kernel_rfl) (by kernel_rfl) gd, ends_value' (c := .agg #[.int .i64 P.kind, .int .i64 P.code, .int .u32 P.rest, .string P.body]) ?_⟩
          simp [Act.eval, d15, go_sem, hl]
        | 3, ho =>
          obtain rfl := Option.some.inj ho
          have d69 : bx.tmps.getD 69 undef = .agg #[.int .i64 P.kind, .int .i64 P.code, .int .u32 P.rest, .string P.body] := hS.dep 2 69 (by kernel_rfl) (by kernel_rfl)
          have gd : bx.tmps.getD 68 undef = .bool true := hS.dep 1 68 (by kernel_rfl) (by kernel_rfl)
          refine .inl ⟨wanted_yes (j := 1) (t := 68) (c := true) (by kernel_rfl) (by kernel_rfl) gd, ends_call' (c := .agg #[.int .i64 P.kind, .int .i64 P.code, .int .u32 P.rest, .string P.body]) (f := 11) (args := #[.agg #[.int .i64 P.kind, .int .i64 P.code, .int .u32 P.rest, .string P.body]]) ?_ (ref_any P u)⟩
          simp [Act.eval, d69, go_sem]
        | 4, ho =>
          obtain rfl := Option.some.inj ho
          have d17 : bx.tmps.getD 17 undef = .pointer (some ⟨p2.heap.size, 0, none⟩) := hS.base 17 (by kernel_rfl)
          have gd : bx.tmps.getD 68 undef = .bool true := hS.dep 1 68 (by kernel_rfl) (by kernel_rfl)
          have hl := cells_of (hA3.on (hdrew hbel) hz3)
          refine .inl ⟨wanted_yes (j := 1) (t := 68) (c := true) (by kernel_rfl) (by kernel_rfl) gd, ends_value' (c := .agg #[.int .i64 P.kind, .int .i64 P.code, .int .u32 P.rest, .string P.body]) ?_⟩
          simp [Act.eval, d17, go_sem, hl]
        | 5, ho =>
          obtain rfl := Option.some.inj ho
          have d70 : bx.tmps.getD 70 undef = .agg #[.int .i64 P.kind, .int .i64 P.code, .int .u32 P.rest, .string P.body] := hS.dep 3 70 (by kernel_rfl) (by kernel_rfl)
          have d71 : bx.tmps.getD 71 undef = .agg #[.int .i64 P.kind, .int .i64 P.code, .int .u32 P.rest, .string P.body] := hS.dep 4 71 (by kernel_rfl) (by kernel_rfl)
          have gd : bx.tmps.getD 68 undef = .bool true := hS.dep 1 68 (by kernel_rfl) (by kernel_rfl)
          refine .inl ⟨wanted_yes (j := 1) (t := 68) (c := true) (by kernel_rfl) (by kernel_rfl) gd, ends_value' (c := .bool true) ?_⟩
          simp [Act.eval, d70, d71, go_sem]
        | 6, ho =>
          obtain rfl := Option.some.inj ho
          have d68 : bx.tmps.getD 68 undef = .bool true := hS.dep 1 68 (by kernel_rfl) (by kernel_rfl)
          have d72 : bx.tmps.getD 72 undef = .bool true := hS.dep 5 72 (by kernel_rfl) (by kernel_rfl)
          refine .inl ⟨rfl, ends_value' (c := .bool true) ?_⟩
          simp [Act.eval, d68, d72, go_sem]
        | 7, ho =>
          obtain rfl := Option.some.inj ho
          have d73 : bx.tmps.getD 73 undef = .bool true := hS.dep 6 73 (by kernel_rfl) (by kernel_rfl)
          refine .inl ⟨rfl, ends_value' (c := .bool true) ?_⟩
          simp [execOp, Act.eval, d73]
        | 8, ho =>
          obtain rfl := Option.some.inj ho
          have d16 : bx.tmps.getD 16 undef = .int .i64 PE := hS.base 16 (by kernel_rfl)
          have gd : bx.tmps.getD 74 undef = .bool true := hS.dep 7 74 (by kernel_rfl) (by kernel_rfl)
          refine .inl ⟨wanted_yes (j := 7) (t := 74) (c := true) (by kernel_rfl) (by kernel_rfl) gd, ends_value' (c := .int .i64 PE) ?_⟩
          simp [execOp, Act.eval, d16]
        | 9, ho =>
          obtain rfl := Option.some.inj ho
          have d18 : bx.tmps.getD 18 undef = .int .i64 PE := hS.base 18 (by kernel_rfl)
          have gd : bx.tmps.getD 74 undef = .bool true := hS.dep 7 74 (by kernel_rfl) (by kernel_rfl)
          refine .inl ⟨wanted_yes (j := 7) (t := 74) (c := true) (by kernel_rfl) (by kernel_rfl) gd, ends_value' (c := .int .i64 PE) ?_⟩
          simp [execOp, Act.eval, d18]
        | 10, ho =>
          obtain rfl := Option.some.inj ho
          have d75 : bx.tmps.getD 75 undef = .int .i64 PE := hS.dep 8 75 (by kernel_rfl) (by kernel_rfl)
          have d76 : bx.tmps.getD 76 undef = .int .i64 PE := hS.dep 9 76 (by kernel_rfl) (by kernel_rfl)
          have gd : bx.tmps.getD 74 undef = .bool true := hS.dep 7 74 (by kernel_rfl) (by kernel_rfl)
          refine .inl ⟨wanted_yes (j := 7) (t := 74) (c := true) (by kernel_rfl) (by kernel_rfl) gd, ends_value' (c := .bool true) ?_⟩
          simp [Act.eval, d75, d76, go_sem]
        | 11, ho =>
          obtain rfl := Option.some.inj ho
          have d74 : bx.tmps.getD 74 undef = .bool true := hS.dep 7 74 (by kernel_rfl) (by kernel_rfl)
          have d77 : bx.tmps.getD 77 undef = .bool true := hS.dep 10 77 (by kernel_rfl) (by kernel_rfl)
          refine .inl ⟨rfl, ends_value' (c := .bool true) ?_⟩
          simp [Act.eval, d74, d77, go_sem]
        | 12, ho =>
          obtain rfl := Option.some.inj ho
          have d78 : bx.tmps.getD 78 undef = .bool true := hS.dep 11 78 (by kernel_rfl) (by kernel_rfl)
          refine .inl ⟨rfl, ends_value' (c := .bool true) ?_⟩
          simp [execOp, Act.eval, d78]
        | n + 13, ho => exact absurd ho (by simp)
      case fin =>
        intro u hbel
        simp [putAll, dstAt, Act.put]
        go_wp2_with fail
        go_ret
        exact ⟨rfl, (unhide HB3).drew.trans (hbel.mono (Nat.le_of_lt (Nat.lt_of_le_of_lt (unhide HB1).size hz2)))⟩
    case pos =>
      obtain ⟨hbS, hn0, hn1⟩ := unhide HGO he
      rw [hbS, he]
      clear HGO hbS he
      generalize built a1 = t at *
      obtain ⟨n, hn⟩ : ∃ n : Nat, t.size = n := ⟨_, rfl⟩
      have hn2 : 8 ≤ n := by omega
      have hn3 : n ≤ 1500 := by omega
      obtain ⟨c, V, hcv, hVb, hVt⟩ := conv_bytes t v3
      rw [hn] at hcv
      have hgV : v3.heap.size < V.heap.size := by have := (hVt 0 (by rw [Oct.len_eq]; omega)).1; exact block_lt_of_cell this
      have hw3 := (unhide HB).size
      have HBV := hide ((unhide HB).trans (hVb.mono hw3))
      have HHN := hide hn
      clear hVb HB hn hn0 hn1
      obtain ⟨A, hA0, hA1, hAd⟩ : ∃ A : Int, 0 ≤ A ∧ A ≤ 9223372036854775807 ∧ ((decide (a3 < 0) = true ∧ -(a3 + 1) = A) ∨ (decide (a3 < 0) = false ∧ a3 = A)) := by
        by_cases h : a3 < 0
        · exact ⟨-(a3 + 1), by omega, by omega, .inl ⟨by simpa using h, rfl⟩⟩
        · exact ⟨a3, by omega, by omega, .inr ⟨by simpa using h, rfl⟩⟩
      rcases hAd with ⟨hd, hA⟩ | ⟨hd, hA⟩
      case inl =>
        go_wp2_with fail
        clear hA hd
        have hn := unhide HHN
        clear hcv
        generalize hg : v3.heap.size = g at *
        obtain ⟨Kn, hKn⟩ : ∃ Kn : Nat, (A % (n : Int)).toNat = Kn := ⟨_, rfl⟩
        have hK0 : 0 ≤ A % (n : Int) := Int.emod_nonneg _ (by omega)
        have hK1 : A % (n : Int) < n := Int.emod_lt_of_pos _ (by omega)
        have hKlt : Kn < n := by omega
        have hrem : A.tmod (n : Int) = A % (n : Int) := Int.tmod_eq_emod_of_nonneg (by omega)
        have hnz : ¬ n = 0 := by omega
        have hon : ∀ {u : World}, Below V.heap.size V.drew u → Bts u g t.data.toList := fun {u} hb => hVt.on (hdrew hb)
        have hlt : Kn < t.data.toList.length := by rw [Oct.len_eq]; omega
        have hbts : ∀ {u : World}, Below V.heap.size V.drew u → u.cell? ⟨g, Kn, none⟩ = some (.int .u8 ((t.data.toList.getD Kn 0).toNat : Int)) := fun {u} hb => (hon hb Kn hlt).1
        have hbtf : ∀ {u : World}, Below V.heap.size V.drew u → u.frozen? ⟨g, Kn, none⟩ = false := fun {u} hb => (hon hb Kn hlt).2
        obtain ⟨X, hX⟩ : ∃ X : Int, bits .xor .u8 ((t.data.toList.getD Kn 0).toNat : Int) a4 = X := ⟨_, rfl⟩
        have hXb := bounds_u8 (wf_bits .xor .u8 ((t.data.toList.getD Kn 0).toNat : Int) a4)
        rw [hX] at hXb
        obtain ⟨hX0, hX1⟩ := hXb
        generalize hbK : ((t.data.toList.getD Kn 0).toNat : Int) = bK at *
        refine wp_region_grow_store (by kernel_rfl) [.slice (some ⟨g, 0, none⟩) n c, .int .i64 A, .slice (some ⟨g, 0, none⟩) n c, .int .i64 n, .int .i64 (A % n), .slice (some ⟨g, 0, none⟩) n c, .int .i64 A, .slice (some ⟨g, 0, none⟩) n c, .int .i64 n, .int .i64 (A % n), .pointer (some ⟨g, Kn, none⟩), .int .u8 bK, .int .u8 a4, .int .u8 X, .pointer (some ⟨g, Kn, none⟩), undef] 15 (fun v => v.setCell ⟨g, Kn, none⟩ (.int .u8 X)) (by kernel_rfl) (by decide) rfl ?op ?store ?fin
        case op =>
          intro i o bx u ho hne hbel hS
          match i, ho with
          | 0, ho =>
            obtain rfl := Option.some.inj ho
            have d14 : bx.tmps.getD 14 undef = .slice (some ⟨g, 0, none⟩) n c := hS.base 14 (by kernel_rfl)
            refine .inl ⟨rfl, ends_value (c := .slice (some ⟨g, 0, none⟩) n c) ?_⟩
            simp [execOp, Act.eval, d14]
          | 1, ho =>
            obtain rfl := Option.some.inj ho
            have d3 : bx.tmps.getD 3 undef = .int .i64 A := hS.base 3 (by kernel_rfl)
            refine .inl ⟨rfl, ends_value (c := .int .i64 A) ?_⟩
            simp [execOp, Act.eval, d3]
          | 2, ho =>
            obtain rfl := Option.some.inj ho
            have d14 : bx.tmps.getD 14 undef = .slice (some ⟨g, 0, none⟩) n c := hS.base 14 (by kernel_rfl)
            refine .inl ⟨rfl, ends_value (c := .slice (some ⟨g, 0, none⟩) n c) ?_⟩
            simp [execOp, Act.eval, d14]
          | 3, ho =>
            obtain rfl := Option.some.inj ho
            have d42 : bx.tmps.getD 42 undef = .slice (some ⟨g, 0, none⟩) n c := hS.dep 2 42 (by kernel_rfl) (by kernel_rfl)
            refine .inl ⟨rfl, ends_value (c := .int .i64 n) ?_⟩
            simp [Act.eval, d42, go_sem]
          | 4, ho =>
            obtain rfl := Option.some.inj ho
            have d41 : bx.tmps.getD 41 undef = .int .i64 A := hS.dep 1 41 (by kernel_rfl) (by kernel_rfl)
            have d43 : bx.tmps.getD 43 undef = .int .i64 n := hS.dep 3 43 (by kernel_rfl) (by kernel_rfl)
            refine .inl ⟨rfl, ends_value (c := .int .i64 (A % n)) ?_⟩
            simp [Act.eval, d41, d43, go_sem, hrem, hnz]
          | 5, ho =>
            obtain rfl := Option.some.inj ho
            have d14 : bx.tmps.getD 14 undef = .slice (some ⟨g, 0, none⟩) n c := hS.base 14 (by kernel_rfl)
            refine .inl ⟨rfl, ends_value (c := .slice (some ⟨g, 0, none⟩) n c) ?_⟩
            simp [execOp, Act.eval, d14]
          | 6, ho =>
            obtain rfl := Option.some.inj ho
            have d3 : bx.tmps.getD 3 undef = .int .i64 A := hS.base 3 (by kernel_rfl)
            refine .inl ⟨rfl, ends_value (c := .int .i64 A) ?_⟩
            simp [execOp, Act.eval, d3]
          | 7, ho =>
            obtain rfl := Option.some.inj ho
            have d14 : bx.tmps.getD 14 undef = .slice (some ⟨g, 0, none⟩) n c := hS.base 14 (by kernel_rfl)
            refine .inl ⟨rfl, ends_value (c := .slice (some ⟨g, 0, none⟩) n c) ?_⟩
            simp [execOp, Act.eval, d14]
          | 8, ho =>
            obtain rfl := Option.some.inj ho
            have d47 : bx.tmps.getD 47 undef = .slice (some ⟨g, 0, none⟩) n c := hS.dep 7 47 (by kernel_rfl) (by kernel_rfl)
            refine .inl ⟨rfl, ends_value (c := .int .i64 n) ?_⟩
            simp [Act.eval, d47, go_sem]
          | 9, ho =>
            obtain rfl := Option.some.inj ho
            have d46 : bx.tmps.getD 46 undef = .int .i64 A := hS.dep 6 46 (by kernel_rfl) (by kernel_rfl)
            have d48 : bx.tmps.getD 48 undef = .int .i64 n := hS.dep 8 48 (by kernel_rfl) (by kernel_rfl)
            refine .inl ⟨rfl, ends_value (c := .int .i64 (A % n)) ?_⟩
            simp [Act.eval, d46, d48, go_sem, hrem, hnz]
          | 10, ho =>
            obtain rfl := Option.some.inj ho
            have d45 : bx.tmps.getD 45 undef = .slice (some ⟨g, 0, none⟩) n c := hS.dep 5 45 (by kernel_rfl) (by kernel_rfl)
            have d49 : bx.tmps.getD 49 undef = .int .i64 (A % n) := hS.dep 9 49 (by kernel_rfl) (by kernel_rfl)
            refine .inl ⟨rfl, ends_value (c := .pointer (some ⟨g, Kn, none⟩)) ?_⟩
            simp [Act.eval, d45, d49, go_sem, hK0, hK1, hKn]
          | 11, ho =>
            obtain rfl := Option.some.inj ho
            have d50 : bx.tmps.getD 50 undef = .pointer (some ⟨g, Kn, none⟩) := hS.dep 10 50 (by kernel_rfl) (by kernel_rfl)
            have hl := (hbts (hbel (by kernel_rfl)))
            refine .inl ⟨rfl, ends_value (c := .int .u8 bK) ?_⟩
            simp [Act.eval, d50, go_sem, hl]
          | 12, ho =>
            obtain rfl := Option.some.inj ho
            have d4 : bx.tmps.getD 4 undef = .int .u8 a4 := hS.base 4 (by kernel_rfl)
            refine .inl ⟨rfl, ends_value (c := .int .u8 a4) ?_⟩
            simp [execOp, Act.eval, d4]
          | 13, ho =>
            obtain rfl := Option.some.inj ho
            have d51 : bx.tmps.getD 51 undef = .int .u8 bK := hS.dep 11 51 (by kernel_rfl) (by kernel_rfl)
            have d52 : bx.tmps.getD 52 undef = .int .u8 a4 := hS.dep 12 52 (by kernel_rfl) (by kernel_rfl)
            refine .inl ⟨rfl, ends_value (c := .int .u8 X) ?_⟩
            simp [Act.eval, d51, d52, go_sem, hX]
          | 14, ho =>
            obtain rfl := Option.some.inj ho
            have d40 : bx.tmps.getD 40 undef = .slice (some ⟨g, 0, none⟩) n c := hS.dep 0 40 (by kernel_rfl) (by kernel_rfl)
            have d44 : bx.tmps.getD 44 undef = .int .i64 (A % n) := hS.dep 4 44 (by kernel_rfl) (by kernel_rfl)
            refine .inl ⟨rfl, ends_value (c := .pointer (some ⟨g, Kn, none⟩)) ?_⟩
            simp [Act.eval, d40, d44, go_sem, hK0, hK1, hKn]
          | 15, _ => exact absurd rfl hne
          | n + 16, ho => exact absurd ho (by simp)
        case store =>
          intro o bx u ho hbel hS
          obtain rfl := Option.some.inj ho
          have d54 : bx.tmps.getD 54 undef = .pointer (some ⟨g, Kn, none⟩) := hS.dep 14 54 (by kernel_rfl) (by kernel_rfl)
          have d53 : bx.tmps.getD 53 undef = .int .u8 X := hS.dep 13 53 (by kernel_rfl) (by kernel_rfl)
          have hs1 := hbts hbel
          have hs2 := hbtf hbel
          refine ⟨rfl, ?_⟩
          simp [Act.eval, d54, d53, go_sem, hs1, hs2]
        case fin =>
          intro u hbel
          simp [putAll, dstAt, Act.put]
          have hB2 : Bts (u.setCell ⟨g, Kn, none⟩ (.int .u8 X)) g (t.data.toList.set Kn (UInt8.ofNat X.toNat)) := (hon hbel).set Kn (by rw [Oct.len_eq]; omega) X hX0 (by omega)
          have hbz : Below w.heap.size w (u.setCell ⟨g, Kn, none⟩ (.int .u8 X)) := ((unhide HBV).drew.trans (hbel.mono (by omega))).setCell (p := ⟨g, Kn, none⟩) (by show _ ≤ g; omega) _
          generalize u.setCell ⟨g, Kn, none⟩ (.int .u8 X) = Z at *
          have hlen : (t.data.toList.set Kn (UInt8.ofNat X.toNat)).length = n := by rw [List.length_set, Oct.len_eq]; exact hn
          have htx := hB2.text c
          rw [hlen] at htx
          have hxs : (ByteArray.mk (t.data.toList.set Kn (UInt8.ofNat X.toNat)).toArray).size ≤ 1048576 := by rw [Oct.mk_size, hlen]; omega
          clear hB2 hon hbts hbtf hbel
          generalize ByteArray.mk (t.data.toList.set Kn (UInt8.ofNat X.toNat)).toArray = x at *
          have HBZ := hide hbz
          clear hbz
          go_wp2_with fail
          clear htx
          refine (unhide HPA x _ hxs).mono ?_
          rintro e p1 ⟨rfl, hb1⟩
          have HB1 := hide ((unhide HBZ).trans (hb1.mono (unhide HBZ).size))
          have HRP := hide (fun u => unhide HRA x u hxs)
          generalize hP : parseH x = P at *
          generalize parseE x = PE at *
          clear hb1 hP
          have hA1 := (newHd p1 P 24).at_
          have hz1 : p1.heap.size < (p1.alloc (.cells #[.int .i64 P.kind, .int .i64 P.code, .int .u32 P.rest, .string P.body] 24)).heap.size := by simp
          have HB2 := hide ((unhide HB1).trans ((alloc_on p1 (.cells #[.int .i64 P.kind, .int .i64 P.code, .int .u32 P.rest, .string P.body] 24)).mono (unhide HB1).size))
          have HA1 := hide hA1
          have HZ1 := hide hz1
          clear hA1 hz1
          go_wp2_with fail
          refine (unhide HRP _).mono ?_
          rintro e p2 ⟨rfl, hb2⟩
          have hA2 := (unhide HA1).on hb2 (unhide HZ1)
          have hz2 : p1.heap.size < p2.heap.size := Nat.lt_of_lt_of_le (unhide HZ1) hb2.size
          have HBB := hide ((unhide HB2).trans (hb2.mono (unhide HB2).size))
          clear hb2 HZ1 HA1
          have hA2 := hA2.on (alloc_on p2 (.cells #[.int .i64 P.kind, .int .i64 P.code, .int .u32 P.rest, .string P.body] 31)) hz2
          have hA3 := (newHd p2 P 31).at_
          have hz2 : p1.heap.size < (p2.alloc (.cells #[.int .i64 P.kind, .int .i64 P.code, .int .u32 P.rest, .string P.body] 31)).heap.size := by simp; omega
          have hz3 : p2.heap.size < (p2.alloc (.cells #[.int .i64 P.kind, .int .i64 P.code, .int .u32 P.rest, .string P.body] 31)).heap.size := by simp
          have HB3 := hide ((unhide HBB).trans ((alloc_on p2 (.cells #[.int .i64 P.kind, .int .i64 P.code, .int .u32 P.rest, .string P.body] 31)).mono (unhide HBB).size))
          have HH := hide (And.intro hA2 (And.intro hA3 (And.intro hz2 hz3)))
          clear hA2 hA3 hz2 hz3
          go_wp2_with fail
          obtain ⟨hA2, hA3, hz2, hz3⟩ := unhide HH
          generalize p2.alloc (.cells #[.int .i64 P.kind, .int .i64 P.code, .int .u32 P.rest, .string P.body] 31) = V at *
          refine wp_region_grow (by kernel_rfl) [.bool true, .bool true, .agg #[.int .i64 P.kind, .int .i64 P.code, .int .u32 P.rest, .string P.body], .agg #[.int .i64 P.kind, .int .i64 P.code, .int .u32 P.rest, .string P.body], .agg #[.int .i64 P.kind, .int .i64 P.code, .int .u32 P.rest, .string P.body], .bool true, .bool true, .bool true, .int .i64 PE, .int .i64 PE, .bool true, .bool true, .bool true] (by kernel_rfl) ?op ?fin
          case op =>
            intro i o bx u ho hbel hS
            match i, ho with
            | 0, ho =>
              obtain rfl := Option.some.inj ho
              have d11 : bx.tmps.getD 11 undef = .bool true := hS.base 11 (by kernel_rfl)
              refine .inl ⟨rfl, ends_value' (c := .bool true) ?_⟩
              simp [execOp, Act.eval, d11]
            | 1, ho =>
              obtain rfl := Option.some.inj ho
              have d67 : bx.tmps.getD 67 undef = .bool true := hS.dep 0 67 (by kernel_rfl) (by kernel_rfl)
              refine .inl ⟨rfl, ends_value' (c := .bool true) ?_⟩
              simp [execOp, Act.eval, d67]
            | 2, ho =>
              obtain rfl := Option.some.inj ho
              have d15 : bx.tmps.getD 15 undef = .pointer (some ⟨p1.heap.size, 0, none⟩) := hS.base 15 (by kernel_rfl)
              have gd : bx.tmps.getD 68 undef = .bool true := hS.dep 1 68 (by kernel_rfl) (by kernel_rfl)
              have hl := cells_of (hA2.on (hdrew hbel) hz2)
              refine .inl ⟨wanted_yes (j := 1) (t := 68) (c := true) (by kernel_rfl) (by kernel_rfl) gd, ends_value' (c := .agg #[.int .i64 P.kind, .int .i64 P.code, .int .u32 P.rest, .string P.body]) ?_⟩
              simp [Act.eval, d15, go_sem, hl]
            | 3, ho =>
              obtain rfl := Option.some.inj ho
              have d69 : bx.tmps.getD 69 undef = .agg #[.int .i64 P.kind, .int .i64 P.code, .int .u32 P.rest, .string P.body] := hS.dep 2 69 (by kernel_rfl) (by kernel_rfl)
              have gd : bx.tmps.getD 68 undef = .bool true := hS.dep 1 68 (by kernel_rfl) (by kernel_rfl)
              refine .inl ⟨wanted_yes (j := 1) (t := 68) (c := true) (by kernel_rfl) (by kernel_rfl) gd, ends_call' (c := .agg #[.int .i64 P.kind, .int .i64 P.code, .int .u32 P.rest, .string P.body]) (f := 11) (args := #[.agg #[.int .i64 P.kind, .int .i64 P.code, .int .u32 P.rest, .string P.body]]) ?_ (ref_any P u)⟩
              simp [Act.eval, d69, go_sem]
            | 4, ho =>
              obtain rfl := Option.some.inj ho
              have d17 : bx.tmps.getD 17 undef = .pointer (some ⟨p2.heap.size, 0, none⟩) := hS.base 17 (by kernel_rfl)
              have gd : bx.tmps.getD 68 undef = .bool true := hS.dep 1 68 (by kernel_rfl) (by kernel_rfl)
              have hl := cells_of (hA3.on (hdrew hbel) hz3)
              refine .inl ⟨wanted_yes (j := 1) (t := 68) (c := true) (by kernel_rfl) (by kernel_rfl) gd, ends_value' (c := .agg #[.int .i64 P.kind, .int .i64 P.code, .int .u32 P.rest, .string P.body]) ?_⟩
              simp [Act.eval, d17, go_sem, hl]
            | 5, ho =>
              obtain rfl := Option.some.inj ho
              have d70 : bx.tmps.getD 70 undef = .agg #[.int .i64 P.kind, .int .i64 P.code, .int .u32 P.rest, .string P.body] := hS.dep 3 70 (by kernel_rfl) (by kernel_rfl)
              have d71 : bx.tmps.getD 71 undef = .agg #[.int .i64 P.kind, .int .i64 P.code, .int .u32 P.rest, .string P.body] := hS.dep 4 71 (by kernel_rfl) (by kernel_rfl)
              have gd : bx.tmps.getD 68 undef = .bool true := hS.dep 1 68 (by kernel_rfl) (by kernel_rfl)
              refine .inl ⟨wanted_yes (j := 1) (t := 68) (c := true) (by kernel_rfl) (by kernel_rfl) gd, ends_value' (c := .bool true) ?_⟩
              simp [Act.eval, d70, d71, go_sem]
            | 6, ho =>
              obtain rfl := Option.some.inj ho
              have d68 : bx.tmps.getD 68 undef = .bool true := hS.dep 1 68 (by kernel_rfl) (by kernel_rfl)
              have d72 : bx.tmps.getD 72 undef = .bool true := hS.dep 5 72 (by kernel_rfl) (by kernel_rfl)
              refine .inl ⟨rfl, ends_value' (c := .bool true) ?_⟩
              simp [Act.eval, d68, d72, go_sem]
            | 7, ho =>
              obtain rfl := Option.some.inj ho
              have d73 : bx.tmps.getD 73 undef = .bool true := hS.dep 6 73 (by kernel_rfl) (by kernel_rfl)
              refine .inl ⟨rfl, ends_value' (c := .bool true) ?_⟩
              simp [execOp, Act.eval, d73]
            | 8, ho =>
              obtain rfl := Option.some.inj ho
              have d16 : bx.tmps.getD 16 undef = .int .i64 PE := hS.base 16 (by kernel_rfl)
              have gd : bx.tmps.getD 74 undef = .bool true := hS.dep 7 74 (by kernel_rfl) (by kernel_rfl)
              refine .inl ⟨wanted_yes (j := 7) (t := 74) (c := true) (by kernel_rfl) (by kernel_rfl) gd, ends_value' (c := .int .i64 PE) ?_⟩
              simp [execOp, Act.eval, d16]
            | 9, ho =>
              obtain rfl := Option.some.inj ho
              have d18 : bx.tmps.getD 18 undef = .int .i64 PE := hS.base 18 (by kernel_rfl)
              have gd : bx.tmps.getD 74 undef = .bool true := hS.dep 7 74 (by kernel_rfl) (by kernel_rfl)
              refine .inl ⟨wanted_yes (j := 7) (t := 74) (c := true) (by kernel_rfl) (by kernel_rfl) gd, ends_value' (c := .int .i64 PE) ?_⟩
              simp [execOp, Act.eval, d18]
            | 10, ho =>
              obtain rfl := Option.some.inj ho
              have d75 : bx.tmps.getD 75 undef = .int .i64 PE := hS.dep 8 75 (by kernel_rfl) (by kernel_rfl)
              have d76 : bx.tmps.getD 76 undef = .int .i64 PE := hS.dep 9 76 (by kernel_rfl) (by kernel_rfl)
              have gd : bx.tmps.getD 74 undef = .bool true := hS.dep 7 74 (by kernel_rfl) (by kernel_rfl)
              refine .inl ⟨wanted_yes (j := 7) (t := 74) (c := true) (by kernel_rfl) (by kernel_rfl) gd, ends_value' (c := .bool true) ?_⟩
              simp [Act.eval, d75, d76, go_sem]
            | 11, ho =>
              obtain rfl := Option.some.inj ho
              have d74 : bx.tmps.getD 74 undef = .bool true := hS.dep 7 74 (by kernel_rfl) (by kernel_rfl)
              have d77 : bx.tmps.getD 77 undef = .bool true := hS.dep 10 77 (by kernel_rfl) (by kernel_rfl)
              refine .inl ⟨rfl, ends_value' (c := .bool true) ?_⟩
              simp [Act.eval, d74, d77, go_sem]
            | 12, ho =>
              obtain rfl := Option.some.inj ho
              have d78 : bx.tmps.getD 78 undef = .bool true := hS.dep 11 78 (by kernel_rfl) (by kernel_rfl)
              refine .inl ⟨rfl, ends_value' (c := .bool true) ?_⟩
              simp [execOp, Act.eval, d78]
            | n + 13, ho => exact absurd ho (by simp)
          case fin =>
            intro u hbel
            simp [putAll, dstAt, Act.put]
            go_wp2_with fail
            go_ret
            exact ⟨rfl, (unhide HB3).drew.trans (hbel.mono (Nat.le_of_lt (Nat.lt_of_le_of_lt (unhide HB1).size hz2)))⟩
      case inr =>
        have hA' := hA.symm
        clear hA
        subst hA'
        go_wp2_with fail
        clear hd
        have hn := unhide HHN
        clear hcv
        generalize hg : v3.heap.size = g at *
        obtain ⟨Kn, hKn⟩ : ∃ Kn : Nat, (A % (n : Int)).toNat = Kn := ⟨_, rfl⟩
        have hK0 : 0 ≤ A % (n : Int) := Int.emod_nonneg _ (by omega)
        have hK1 : A % (n : Int) < n := Int.emod_lt_of_pos _ (by omega)
        have hKlt : Kn < n := by omega
        have hrem : A.tmod (n : Int) = A % (n : Int) := Int.tmod_eq_emod_of_nonneg (by omega)
        have hnz : ¬ n = 0 := by omega
        have hon : ∀ {u : World}, Below V.heap.size V.drew u → Bts u g t.data.toList := fun {u} hb => hVt.on (hdrew hb)
        have hlt : Kn < t.data.toList.length := by rw [Oct.len_eq]; omega
        have hbts : ∀ {u : World}, Below V.heap.size V.drew u → u.cell? ⟨g, Kn, none⟩ = some (.int .u8 ((t.data.toList.getD Kn 0).toNat : Int)) := fun {u} hb => (hon hb Kn hlt).1
        have hbtf : ∀ {u : World}, Below V.heap.size V.drew u → u.frozen? ⟨g, Kn, none⟩ = false := fun {u} hb => (hon hb Kn hlt).2
        obtain ⟨X, hX⟩ : ∃ X : Int, bits .xor .u8 ((t.data.toList.getD Kn 0).toNat : Int) a4 = X := ⟨_, rfl⟩
        have hXb := bounds_u8 (wf_bits .xor .u8 ((t.data.toList.getD Kn 0).toNat : Int) a4)
        rw [hX] at hXb
        obtain ⟨hX0, hX1⟩ := hXb
        generalize hbK : ((t.data.toList.getD Kn 0).toNat : Int) = bK at *
        refine wp_region_grow_store (by kernel_rfl) [.slice (some ⟨g, 0, none⟩) n c, .int .i64 A, .slice (some ⟨g, 0, none⟩) n c, .int .i64 n, .int .i64 (A % n), .slice (some ⟨g, 0, none⟩) n c, .int .i64 A, .slice (some ⟨g, 0, none⟩) n c, .int .i64 n, .int .i64 (A % n), .pointer (some ⟨g, Kn, none⟩), .int .u8 bK, .int .u8 a4, .int .u8 X, .pointer (some ⟨g, Kn, none⟩), undef] 15 (fun v => v.setCell ⟨g, Kn, none⟩ (.int .u8 X)) (by kernel_rfl) (by decide) rfl ?op ?store ?fin
        case op =>
          intro i o bx u ho hne hbel hS
          match i, ho with
          | 0, ho =>
            obtain rfl := Option.some.inj ho
            have d14 : bx.tmps.getD 14 undef = .slice (some ⟨g, 0, none⟩) n c := hS.base 14 (by kernel_rfl)
            refine .inl ⟨rfl, ends_value (c := .slice (some ⟨g, 0, none⟩) n c) ?_⟩
            simp [execOp, Act.eval, d14]
          | 1, ho =>
            obtain rfl := Option.some.inj ho
            have d3 : bx.tmps.getD 3 undef = .int .i64 A := hS.base 3 (by kernel_rfl)
            refine .inl ⟨rfl, ends_value (c := .int .i64 A) ?_⟩
            simp [execOp, Act.eval, d3]
          | 2, ho =>
            obtain rfl := Option.some.inj ho
            have d14 : bx.tmps.getD 14 undef = .slice (some ⟨g, 0, none⟩) n c := hS.base 14 (by kernel_rfl)
            refine .inl ⟨rfl, ends_value (c := .slice (some ⟨g, 0, none⟩) n c) ?_⟩
            simp [execOp, Act.eval, d14]
          | 3, ho =>
            obtain rfl := Option.some.inj ho
            have d42 : bx.tmps.getD 42 undef = .slice (some ⟨g, 0, none⟩) n c := hS.dep 2 42 (by kernel_rfl) (by kernel_rfl)
            refine .inl ⟨rfl, ends_value (c := .int .i64 n) ?_⟩
            simp [Act.eval, d42, go_sem]
          | 4, ho =>
            obtain rfl := Option.some.inj ho
            have d41 : bx.tmps.getD 41 undef = .int .i64 A := hS.dep 1 41 (by kernel_rfl) (by kernel_rfl)
            have d43 : bx.tmps.getD 43 undef = .int .i64 n := hS.dep 3 43 (by kernel_rfl) (by kernel_rfl)
            refine .inl ⟨rfl, ends_value (c := .int .i64 (A % n)) ?_⟩
            simp [Act.eval, d41, d43, go_sem, hrem, hnz]
          | 5, ho =>
            obtain rfl := Option.some.inj ho
            have d14 : bx.tmps.getD 14 undef = .slice (some ⟨g, 0, none⟩) n c := hS.base 14 (by kernel_rfl)
            refine .inl ⟨rfl, ends_value (c := .slice (some ⟨g, 0, none⟩) n c) ?_⟩
            simp [execOp, Act.eval, d14]
          | 6, ho =>
            obtain rfl := Option.some.inj ho
            have d3 : bx.tmps.getD 3 undef = .int .i64 A := hS.base 3 (by kernel_rfl)
            refine .inl ⟨rfl, ends_value (c := .int .i64 A) ?_⟩
            simp [execOp, Act.eval, d3]
          | 7, ho =>
            obtain rfl := Option.some.inj ho
            have d14 : bx.tmps.getD 14 undef = .slice (some ⟨g, 0, none⟩) n c := hS.base 14 (by kernel_rfl)
            refine .inl ⟨rfl, ends_value (c := .slice (some ⟨g, 0, none⟩) n c) ?_⟩
            simp [execOp, Act.eval, d14]
          | 8, ho =>
            obtain rfl := Option.some.inj ho
            have d47 : bx.tmps.getD 47 undef = .slice (some ⟨g, 0, none⟩) n c := hS.dep 7 47 (by kernel_rfl) (by kernel_rfl)
            refine .inl ⟨rfl, ends_value (c := .int .i64 n) ?_⟩
            simp [Act.eval, d47, go_sem]
          | 9, ho =>
            obtain rfl := Option.some.inj ho
            have d46 : bx.tmps.getD 46 undef = .int .i64 A := hS.dep 6 46 (by kernel_rfl) (by kernel_rfl)
            have d48 : bx.tmps.getD 48 undef = .int .i64 n := hS.dep 8 48 (by kernel_rfl) (by kernel_rfl)
            refine .inl ⟨rfl, ends_value (c := .int .i64 (A % n)) ?_⟩
            simp [Act.eval, d46, d48, go_sem, hrem, hnz]
          | 10, ho =>
            obtain rfl := Option.some.inj ho
            have d45 : bx.tmps.getD 45 undef = .slice (some ⟨g, 0, none⟩) n c := hS.dep 5 45 (by kernel_rfl) (by kernel_rfl)
            have d49 : bx.tmps.getD 49 undef = .int .i64 (A % n) := hS.dep 9 49 (by kernel_rfl) (by kernel_rfl)
            refine .inl ⟨rfl, ends_value (c := .pointer (some ⟨g, Kn, none⟩)) ?_⟩
            simp [Act.eval, d45, d49, go_sem, hK0, hK1, hKn]
          | 11, ho =>
            obtain rfl := Option.some.inj ho
            have d50 : bx.tmps.getD 50 undef = .pointer (some ⟨g, Kn, none⟩) := hS.dep 10 50 (by kernel_rfl) (by kernel_rfl)
            have hl := (hbts (hbel (by kernel_rfl)))
            refine .inl ⟨rfl, ends_value (c := .int .u8 bK) ?_⟩
            simp [Act.eval, d50, go_sem, hl]
          | 12, ho =>
            obtain rfl := Option.some.inj ho
            have d4 : bx.tmps.getD 4 undef = .int .u8 a4 := hS.base 4 (by kernel_rfl)
            refine .inl ⟨rfl, ends_value (c := .int .u8 a4) ?_⟩
            simp [execOp, Act.eval, d4]
          | 13, ho =>
            obtain rfl := Option.some.inj ho
            have d51 : bx.tmps.getD 51 undef = .int .u8 bK := hS.dep 11 51 (by kernel_rfl) (by kernel_rfl)
            have d52 : bx.tmps.getD 52 undef = .int .u8 a4 := hS.dep 12 52 (by kernel_rfl) (by kernel_rfl)
            refine .inl ⟨rfl, ends_value (c := .int .u8 X) ?_⟩
            simp [Act.eval, d51, d52, go_sem, hX]
          | 14, ho =>
            obtain rfl := Option.some.inj ho
            have d40 : bx.tmps.getD 40 undef = .slice (some ⟨g, 0, none⟩) n c := hS.dep 0 40 (by kernel_rfl) (by kernel_rfl)
            have d44 : bx.tmps.getD 44 undef = .int .i64 (A % n) := hS.dep 4 44 (by kernel_rfl) (by kernel_rfl)
            refine .inl ⟨rfl, ends_value (c := .pointer (some ⟨g, Kn, none⟩)) ?_⟩
            simp [Act.eval, d40, d44, go_sem, hK0, hK1, hKn]
          | 15, _ => exact absurd rfl hne
          | n + 16, ho => exact absurd ho (by simp)
        case store =>
          intro o bx u ho hbel hS
          obtain rfl := Option.some.inj ho
          have d54 : bx.tmps.getD 54 undef = .pointer (some ⟨g, Kn, none⟩) := hS.dep 14 54 (by kernel_rfl) (by kernel_rfl)
          have d53 : bx.tmps.getD 53 undef = .int .u8 X := hS.dep 13 53 (by kernel_rfl) (by kernel_rfl)
          have hs1 := hbts hbel
          have hs2 := hbtf hbel
          refine ⟨rfl, ?_⟩
          simp [Act.eval, d54, d53, go_sem, hs1, hs2]
        case fin =>
          intro u hbel
          simp [putAll, dstAt, Act.put]
          have hB2 : Bts (u.setCell ⟨g, Kn, none⟩ (.int .u8 X)) g (t.data.toList.set Kn (UInt8.ofNat X.toNat)) := (hon hbel).set Kn (by rw [Oct.len_eq]; omega) X hX0 (by omega)
          have hbz : Below w.heap.size w (u.setCell ⟨g, Kn, none⟩ (.int .u8 X)) := ((unhide HBV).drew.trans (hbel.mono (by omega))).setCell (p := ⟨g, Kn, none⟩) (by show _ ≤ g; omega) _
          generalize u.setCell ⟨g, Kn, none⟩ (.int .u8 X) = Z at *
          have hlen : (t.data.toList.set Kn (UInt8.ofNat X.toNat)).length = n := by rw [List.length_set, Oct.len_eq]; exact hn
          have htx := hB2.text c
          rw [hlen] at htx
          have hxs : (ByteArray.mk (t.data.toList.set Kn (UInt8.ofNat X.toNat)).toArray).size ≤ 1048576 := by rw [Oct.mk_size, hlen]; omega
          clear hB2 hon hbts hbtf hbel
          generalize ByteArray.mk (t.data.toList.set Kn (UInt8.ofNat X.toNat)).toArray = x at *
          have HBZ := hide hbz
          clear hbz
          go_wp2_with fail
          clear htx
          refine (unhide HPA x _ hxs).mono ?_
          rintro e p1 ⟨rfl, hb1⟩
          have HB1 := hide ((unhide HBZ).trans (hb1.mono (unhide HBZ).size))
          have HRP := hide (fun u => unhide HRA x u hxs)
          generalize hP : parseH x = P at *
          generalize parseE x = PE at *
          clear hb1 hP
          have hA1 := (newHd p1 P 24).at_
          have hz1 : p1.heap.size < (p1.alloc (.cells #[.int .i64 P.kind, .int .i64 P.code, .int .u32 P.rest, .string P.body] 24)).heap.size := by simp
          have HB2 := hide ((unhide HB1).trans ((alloc_on p1 (.cells #[.int .i64 P.kind, .int .i64 P.code, .int .u32 P.rest, .string P.body] 24)).mono (unhide HB1).size))
          have HA1 := hide hA1
          have HZ1 := hide hz1
          clear hA1 hz1
          go_wp2_with fail
          refine (unhide HRP _).mono ?_
          rintro e p2 ⟨rfl, hb2⟩
          have hA2 := (unhide HA1).on hb2 (unhide HZ1)
          have hz2 : p1.heap.size < p2.heap.size := Nat.lt_of_lt_of_le (unhide HZ1) hb2.size
          have HBB := hide ((unhide HB2).trans (hb2.mono (unhide HB2).size))
          clear hb2 HZ1 HA1
          have hA2 := hA2.on (alloc_on p2 (.cells #[.int .i64 P.kind, .int .i64 P.code, .int .u32 P.rest, .string P.body] 31)) hz2
          have hA3 := (newHd p2 P 31).at_
          have hz2 : p1.heap.size < (p2.alloc (.cells #[.int .i64 P.kind, .int .i64 P.code, .int .u32 P.rest, .string P.body] 31)).heap.size := by simp; omega
          have hz3 : p2.heap.size < (p2.alloc (.cells #[.int .i64 P.kind, .int .i64 P.code, .int .u32 P.rest, .string P.body] 31)).heap.size := by simp
          have HB3 := hide ((unhide HBB).trans ((alloc_on p2 (.cells #[.int .i64 P.kind, .int .i64 P.code, .int .u32 P.rest, .string P.body] 31)).mono (unhide HBB).size))
          have HH := hide (And.intro hA2 (And.intro hA3 (And.intro hz2 hz3)))
          clear hA2 hA3 hz2 hz3
          go_wp2_with fail
          obtain ⟨hA2, hA3, hz2, hz3⟩ := unhide HH
          generalize p2.alloc (.cells #[.int .i64 P.kind, .int .i64 P.code, .int .u32 P.rest, .string P.body] 31) = V at *
          refine wp_region_grow (by kernel_rfl) [.bool true, .bool true, .agg #[.int .i64 P.kind, .int .i64 P.code, .int .u32 P.rest, .string P.body], .agg #[.int .i64 P.kind, .int .i64 P.code, .int .u32 P.rest, .string P.body], .agg #[.int .i64 P.kind, .int .i64 P.code, .int .u32 P.rest, .string P.body], .bool true, .bool true, .bool true, .int .i64 PE, .int .i64 PE, .bool true, .bool true, .bool true] (by kernel_rfl) ?op ?fin
          case op =>
            intro i o bx u ho hbel hS
            match i, ho with
            | 0, ho =>
              obtain rfl := Option.some.inj ho
              have d11 : bx.tmps.getD 11 undef = .bool true := hS.base 11 (by kernel_rfl)
              refine .inl ⟨rfl, ends_value' (c := .bool true) ?_⟩
              simp [execOp, Act.eval, d11]
            | 1, ho =>
              obtain rfl := Option.some.inj ho
              have d67 : bx.tmps.getD 67 undef = .bool true := hS.dep 0 67 (by kernel_rfl) (by kernel_rfl)
              refine .inl ⟨rfl, ends_value' (c := .bool true) ?_⟩
              simp [execOp, Act.eval, d67]
            | 2, ho =>
              obtain rfl := Option.some.inj ho
              have d15 : bx.tmps.getD 15 undef = .pointer (some ⟨p1.heap.size, 0, none⟩) := hS.base 15 (by kernel_rfl)
              have gd : bx.tmps.getD 68 undef = .bool true := hS.dep 1 68 (by kernel_rfl) (by kernel_rfl)
              have hl := cells_of (hA2.on (hdrew hbel) hz2)
              refine .inl ⟨wanted_yes (j := 1) (t := 68) (c := true) (by kernel_rfl) (by kernel_rfl) gd, ends_value' (c := .agg #[.int .i64 P.kind, .int .i64 P.code, .int .u32 P.rest, .string P.body]) ?_⟩
              simp [Act.eval, d15, go_sem, hl]
            | 3, ho =>
              obtain rfl := Option.some.inj ho
              have d69 : bx.tmps.getD 69 undef = .agg #[.int .i64 P.kind, .int .i64 P.code, .int .u32 P.rest, .string P.body] := hS.dep 2 69 (by kernel_rfl) (by kernel_rfl)
              have gd : bx.tmps.getD 68 undef = .bool true := hS.dep 1 68 (by kernel_rfl) (by kernel_rfl)
              refine .inl ⟨wanted_yes (j := 1) (t := 68) (c := true) (by kernel_rfl) (by kernel_rfl) gd, ends_call' (c := .agg #[.int .i64 P.kind, .int .i64 P.code, .int .u32 P.rest, .string P.body]) (f := 11) (args := #[.agg #[.int .i64 P.kind, .int .i64 P.code, .int .u32 P.rest, .string P.body]]) ?_ (ref_any P u)⟩
              simp [Act.eval, d69, go_sem]
            | 4, ho =>
              obtain rfl := Option.some.inj ho
              have d17 : bx.tmps.getD 17 undef = .pointer (some ⟨p2.heap.size, 0, none⟩) := hS.base 17 (by kernel_rfl)
              have gd : bx.tmps.getD 68 undef = .bool true := hS.dep 1 68 (by kernel_rfl) (by kernel_rfl)
              have hl := cells_of (hA3.on (hdrew hbel) hz3)
              refine .inl ⟨wanted_yes (j := 1) (t := 68) (c := true) (by kernel_rfl) (by kernel_rfl) gd, ends_value' (c := .agg #[.int .i64 P.kind, .int .i64 P.code, .int .u32 P.rest, .string P.body]) ?_⟩
              simp [Act.eval, d17, go_sem, hl]
            | 5, ho =>
              obtain rfl := Option.some.inj ho
              have d70 : bx.tmps.getD 70 undef = .agg #[.int .i64 P.kind, .int .i64 P.code, .int .u32 P.rest, .string P.body] := hS.dep 3 70 (by kernel_rfl) (by kernel_rfl)
              have d71 : bx.tmps.getD 71 undef = .agg #[.int .i64 P.kind, .int .i64 P.code, .int .u32 P.rest, .string P.body] := hS.dep 4 71 (by kernel_rfl) (by kernel_rfl)
              have gd : bx.tmps.getD 68 undef = .bool true := hS.dep 1 68 (by kernel_rfl) (by kernel_rfl)
              refine .inl ⟨wanted_yes (j := 1) (t := 68) (c := true) (by kernel_rfl) (by kernel_rfl) gd, ends_value' (c := .bool true) ?_⟩
              simp [Act.eval, d70, d71, go_sem]
            | 6, ho =>
              obtain rfl := Option.some.inj ho
              have d68 : bx.tmps.getD 68 undef = .bool true := hS.dep 1 68 (by kernel_rfl) (by kernel_rfl)
              have d72 : bx.tmps.getD 72 undef = .bool true := hS.dep 5 72 (by kernel_rfl) (by kernel_rfl)
              refine .inl ⟨rfl, ends_value' (c := .bool true) ?_⟩
              simp [Act.eval, d68, d72, go_sem]
            | 7, ho =>
              obtain rfl := Option.some.inj ho
              have d73 : bx.tmps.getD 73 undef = .bool true := hS.dep 6 73 (by kernel_rfl) (by kernel_rfl)
              refine .inl ⟨rfl, ends_value' (c := .bool true) ?_⟩
              simp [execOp, Act.eval, d73]
            | 8, ho =>
              obtain rfl := Option.some.inj ho
              have d16 : bx.tmps.getD 16 undef = .int .i64 PE := hS.base 16 (by kernel_rfl)
              have gd : bx.tmps.getD 74 undef = .bool true := hS.dep 7 74 (by kernel_rfl) (by kernel_rfl)
              refine .inl ⟨wanted_yes (j := 7) (t := 74) (c := true) (by kernel_rfl) (by kernel_rfl) gd, ends_value' (c := .int .i64 PE) ?_⟩
              simp [execOp, Act.eval, d16]
            | 9, ho =>
              obtain rfl := Option.some.inj ho
              have d18 : bx.tmps.getD 18 undef = .int .i64 PE := hS.base 18 (by kernel_rfl)
              have gd : bx.tmps.getD 74 undef = .bool true := hS.dep 7 74 (by kernel_rfl) (by kernel_rfl)
              refine .inl ⟨wanted_yes (j := 7) (t := 74) (c := true) (by kernel_rfl) (by kernel_rfl) gd, ends_value' (c := .int .i64 PE) ?_⟩
              simp [execOp, Act.eval, d18]
            | 10, ho =>
              obtain rfl := Option.some.inj ho
              have d75 : bx.tmps.getD 75 undef = .int .i64 PE := hS.dep 8 75 (by kernel_rfl) (by kernel_rfl)
              have d76 : bx.tmps.getD 76 undef = .int .i64 PE := hS.dep 9 76 (by kernel_rfl) (by kernel_rfl)
              have gd : bx.tmps.getD 74 undef = .bool true := hS.dep 7 74 (by kernel_rfl) (by kernel_rfl)
              refine .inl ⟨wanted_yes (j := 7) (t := 74) (c := true) (by kernel_rfl) (by kernel_rfl) gd, ends_value' (c := .bool true) ?_⟩
              simp [Act.eval, d75, d76, go_sem]
            | 11, ho =>
              obtain rfl := Option.some.inj ho
              have d74 : bx.tmps.getD 74 undef = .bool true := hS.dep 7 74 (by kernel_rfl) (by kernel_rfl)
              have d77 : bx.tmps.getD 77 undef = .bool true := hS.dep 10 77 (by kernel_rfl) (by kernel_rfl)
              refine .inl ⟨rfl, ends_value' (c := .bool true) ?_⟩
              simp [Act.eval, d74, d77, go_sem]
            | 12, ho =>
              obtain rfl := Option.some.inj ho
              have d78 : bx.tmps.getD 78 undef = .bool true := hS.dep 11 78 (by kernel_rfl) (by kernel_rfl)
              refine .inl ⟨rfl, ends_value' (c := .bool true) ?_⟩
              simp [execOp, Act.eval, d78]
            | n + 13, ho => exact absurd ho (by simp)
          case fin =>
            intro u hbel
            simp [putAll, dstAt, Act.put]
            go_wp2_with fail
            go_ret
            exact ⟨rfl, (unhide HB3).drew.trans (hbel.mono (Nat.le_of_lt (Nat.lt_of_le_of_lt (unhide HB1).size hz2)))⟩

theorem reads (os : Os) {H : Type} (enc : TypeId × Value → H) : DataW.whole enc Tryd.prog ((World.laidAll Tryd.prog os Rows.icmpBuildsRow.laid).forCall (fun _ _ => 0) ⟨#[], #[.string ByteArray.empty, .agg #[.int .i64 0, .int .i64 0, .int .u32 0, .string ByteArray.empty], .bool false, .int .i64 0, .int .u8 0], []⟩).memory Tryd.f4.params.toList Rows.icmpParsesSpec.vars false (#[.string ByteArray.empty, .agg #[.int .i64 0, .int .i64 0, .int .u32 0, .string ByteArray.empty], .bool false, .int .i64 0, .int .u8 0] : Array Value).toList 8 = some ([.lit (.string []), .agg [.lit (.int .i64 0), .lit (.int .i64 0), .lit (.int .u32 0), .lit (.string [])], .lit (.bool false), .lit (.int .i64 0), .lit (.int .u8 0)], [], []) := by kernel_rfl
set_option maxRecDepth 100000 in
theorem lifted (os : Os) (started : os.Started) (H : Type) (enc : TypeId × Value → H) (F : Stop.Interp) :
    ReturnsInHanded {} Tryd.checked os 4 .any ((Rows.OpenSpec.upto Rows.icmpParsesSpec).preRow enc Tryd.prog Tryd.f4 Rows.icmpParsesUptoRow.domain false Rows.icmpParsesUptoRow.laid) (((Rows.OpenSpec.upto Rows.icmpParsesSpec).at F).post enc Tryd.prog Tryd.f4 false true false false) := by
  refine returnsInHanded_of_row (C := Tryd.checked) (s := (Rows.OpenSpec.upto Rows.icmpParsesSpec)) own started (by kernel_rfl) Tryd.func4
    (witness_row_at (enc := enc) (C := Tryd.checked) false (World.laidAll Tryd.prog os Rows.icmpBuildsRow.laid) #[.string ByteArray.empty, .agg #[.int .i64 0, .int .i64 0, .int .u32 0, .string ByteArray.empty], .bool false, .int .i64 0, .int .u8 0] (World.laidAll_os _ _ _) (by kernel_rfl) (by kernel_rfl) (by kernel_rfl)
      (OpenSpec.preRow_of_cond 8 (reads os enc) (by kernel_rfl) (fun k hk => by cases hk; kernel_rfl) (by kernel_rfl) (laid_met os _))) ?_
  intro W base args ds gs before hval0 hW _ hcond hsz hL _ _
  have hval : ∀ (j : Nat) t v, Tryd.f4.params[j]? = some t → args[j]? = some v → Value.okWide Tryd.prog W .any base t v := hval0
  have hW' := hW
  obtain ⟨p, q, hA0, hV, rfl, hfz, hnd⟩ := hW
  have hA : DataW.TrodAll enc Tryd.prog W 0 (fun _ => true) true Tryd.f4.params.toList args.toList ds p := hA0
  rw [Tryd.params4] at hA hval
  obtain ⟨v0, vs0, d0, ds0, p0, q0, hargs, rfl, rfl, h0, r0⟩ := trodAll_cons hA
  obtain ⟨v1, vs1, d1, ds1, p1, q1, rfl, rfl, rfl, h1, r1⟩ := trodAll_cons r0
  obtain ⟨v2, vs2, d2, ds2, p2, q2, rfl, rfl, rfl, h2, r2⟩ := trodAll_cons r1
  obtain ⟨v3, vs3, d3, ds3, p3, q3, rfl, rfl, rfl, h3, r3⟩ := trodAll_cons r2
  obtain ⟨v4, vs4, d4, ds4, p4, q4, rfl, rfl, rfl, h4, r4⟩ := trodAll_cons r3
  obtain ⟨rfl, rfl, rfl⟩ := trodAll_nil r4
  obtain rfl : args = #[v0, v1, v2, v3, v4] := by cases args; simp_all
  obtain ⟨rfl, rfl⟩ := trodVars_none hV
  obtain ⟨a0, rfl, rfl, rfl, w0⟩ := open_string Tryd.underlying9 (hval 0 9 v0 rfl rfl) h0
  obtain ⟨a1, rfl, rfl, rfl, f1⟩ := open_head (hval 1 24 v1 rfl rfl) h1
  obtain ⟨a2, rfl, rfl, rfl⟩ := open_bool Tryd.underlying4 (hval 2 4 v2 rfl rfl) h2
  obtain ⟨a3, rfl, rfl, rfl, w3⟩ := open_int Tryd.underlying3 (hval 3 3 v3 rfl rfl) h3
  obtain ⟨a4, rfl, rfl, rfl, w4⟩ := open_int Tryd.underlying5 (hval 4 5 v4 rfl rfl) h4
  clear hA0 hval0
  simp only [List.append_nil] at hW'
  have z0 : a0.size ≤ 1048576 := by
    have h := of_decide_eq_true (hcond _ rfl)
    simp only [List.append_nil, Rows.uptoBulkAll, Rows.uptoBulk, hdata] at h
    have e : a0.data.toList.length = a0.size := by rw [Array.length_toList]; rfl
    omega
  have s1 : a1.body.size ≤ 1048576 := by
    have h := of_decide_eq_true (hcond _ rfl)
    simp only [List.append_nil, Rows.uptoBulkAll, Rows.uptoBulk, hdata] at h
    have e : a1.body.data.toList.length = a1.body.size := by rw [Array.length_toList]; rfl
    omega
  have w1 : a1.Wf := f1.wf (sized_head hsz (j := 1) rfl rfl)
  refine (walk W (env_of hL) a0 z0 a1 w1 s1 a2 a3 w3 a4 w4).mono fun e W' ⟨he, bel⟩ => ?_
  subst he
  exact ⟨_, rfl, _, _, _, [], _, [], hW', (trodAll_cons_mk (shut_bool Tryd.underlying4 _) trodAll_mk0), (trodAll_cons_mk (shut_string Tryd.underlying9 w0) (trodAll_cons_mk (shut_head a1 f1) (trodAll_cons_mk (shut_bool Tryd.underlying4 _) (trodAll_cons_mk (shut_int Tryd.underlying3 w3) (trodAll_cons_mk (shut_int Tryd.underlying5 w4) trodAll_mk0))))), rfl, bel.frame _, fun h => by cases h⟩

theorem over : Rows.icmpParsesUptoRow.holds Tryd.pinned (Rows.OpenSpec.upto Rows.icmpParsesSpec) :=
  OpenClaim.holds_of_cond 4 Tryd.f4 rfl rfl rfl rfl rfl rfl rfl ⟨rfl, rfl, rfl, rfl, rfl⟩ rfl rfl rfl rfl rfl (by kernel_rfl) Tryd.func4 (by kernel_rfl)
    (of_decide_eq_true (by kernel_rfl)) (by unfold Func.isWrapper; first | (rw [if_pos (by decide +kernel)]; kernel_rfl) | (rw [if_neg (by decide +kernel)]; exact ⟨rfl, rfl⟩))
    (fun os started H enc _ F => by rw [OpenClaim.pre_eq_preRow]; exact lifted os started H enc F)

/-- No parameter wants a stand-in; the program's own looks are off. -/
theorem plain (f : FuncId) (fn : Func) (hf : Tryd.pinned.checked.prog.funcNamed Rows.icmpParsesUptoRow.func = some f) (hfn : Tryd.pinned.checked.prog.funcs[f]? = some fn) :
    false = Tryd.pinned.checked.prog.looks [] ∧ ∀ (j : Nat) t, fn.params[j]? = some t → Tryd.pinned.checked.prog.wantsStandIn t = false := by
  obtain rfl : f = 4 := Option.some.inj ((show Tryd.prog.funcNamed Rows.icmpParsesUptoRow.func = some 4 by kernel_rfl).symm.trans hf) |>.symm
  obtain rfl : fn = Tryd.f4 := (Option.some.inj (Tryd.func4.symm.trans hfn)).symm
  refine ⟨by kernel_rfl, fun j t ht => ?_⟩
  rw [Tryd.params4] at ht
  have hm : t ∈ [9, 24, 4, 3, 5] := by simpa using Array.mem_of_getElem? ht
  have hall : ([9, 24, 4, 3, 5].all fun u => !Tryd.prog.wantsStandIn u) = true := by kernel_rfl
  exact (show Tryd.prog.wantsStandIn t = false by simpa using List.all_eq_true.1 hall t hm)

theorem proved : Rows.IcmpParsesUptoCardSaid :=
  Claim7.holds_tied_plain_at .later [] _ _ _ _ over (fun _ h => by cases h) (by kernel_rfl) (fun _ h => by cases h) icmpParsesUpto_row_tie rfl ⟨rfl, rfl⟩ (by kernel_rfl) rfl plain (by kernel_rfl)
#print axioms proved
end Go.Proofs.YteggaeleehlhmaaDoor.icmpParses
