/- AddrNested answers true for all addresses a, b and x and all numbers of 8 bits, and changes nothing that was there before; the library's variables are as the program's text lays them (the card ties that). -/
import Derived.Test.YtnnhkjjnolhaoaaDoorAdLaid
import Derived.Test.YtnnhkjjnolhaoaaDoorAdEx
namespace Go.Proofs.YtnnhkjjnolhaoaaDoor.addrNested
open Go.ChangeShapes Go.WideShapes Go.ChangeAt Go.RowKit
open Go.ChangeMaps (open_string shut_string)
set_option linter.unusedVariables false
/-- Three nets that lie one behind the other. -/
def Six (W : World) (B : Nat) (p q r s t u : Value) : Prop :=
  W.cell? ⟨B, 0, none⟩ = some p ∧ W.cell? ⟨B, 1, none⟩ = some q ∧ W.cell? ⟨B + 1, 0, none⟩ = some r ∧ W.cell? ⟨B + 1, 1, none⟩ = some s ∧ W.cell? ⟨B + 1 + 1, 0, none⟩ = some t ∧ W.cell? ⟨B + 1 + 1, 1, none⟩ = some u
theorem cell_on {W W' : World} {a : Addr} {v : Value} (h : W.cell? a = some v) (hb : Below W.heap.size W W') : W'.cell? a = some v := by
  rw [hb.cell (block_lt_of_cell h)]; exact h
theorem Six.on {W W' : World} {B : Nat} {p q r s t u : Value} (h : Six W B p q r s t u) (hb : Below W.heap.size W W') : Six W' B p q r s t u :=
  ⟨cell_on h.1 hb, cell_on h.2.1 hb, cell_on h.2.2.1 hb, cell_on h.2.2.2.1 hb, cell_on h.2.2.2.2.1 hb, cell_on h.2.2.2.2.2 hb⟩
theorem Six.new (w : World) (p q r s t u : Value) : Six (((w.alloc (.cells #[p, q] 30)).alloc (.cells #[r, s] 30)).alloc (.cells #[t, u] 30)) w.heap.size p q r s t u := by
  refine ⟨?_, ?_, ?_, ?_, ?_, ?_⟩ <;> simp [go_sem]


set_option maxHeartbeats 1000000 in
set_option maxRecDepth 100000 in
theorem walk1 (a0 a1 a2 a3 a4 L : Int) (w : World) (hE : Env w) (b0 : 0 ≤ a0) (b1 : a0 ≤ 4294967295) (e0 : 0 ≤ a1) (e1 : a1 ≤ 4294967295) (c0 : 0 ≤ a2) (c1 : a2 ≤ 255) (f0 : 0 ≤ a3) (f1 : a3 ≤ 255) (d0 : 0 ≤ a4) (d1 : a4 ≤ 4294967295)
    (hL : wrap64 ((a3 % 33) + a2 % (33 - (a3 % 33))) = L) (l0 : (a3 % 33) ≤ L) (l1 : L ≤ 32)
    (hn : Ad.hasB (Ad.cut L a0) L a4 = true)
    (he : (Ad.cut (a3 % 33) a0 == Ad.cut (a3 % 33) a1) = true)
    (hw : Ad.hasB (Ad.cut (a3 % 33) a0) (a3 % 33) a4 = true)
    : Calls Tryd.prog 9 #[.int .u32 a0, .int .u32 a1, .int .u8 a2, .int .u8 a3, .int .u32 a4] w fun e w' => e = .returned (.bool true) ∧ Below w.heap.size w w' := by
  have ha := Ad.and_msk (a3 % 33) a0 (by omega) (by omega) b0 b1
  have hb := Ad.and_msk (a3 % 33) a1 (by omega) (by omega) e0 e1
  have hc := Ad.and_msk L a0 (by omega) (by omega) b0 b1
  have hpos : 0 < 33 - (a3 % 33) := by omega
  have h1 : Ad.hasB (Ad.cut L a0) L a0 = true := Ad.has_yes (by omega) (by omega) rfl
  go_enter Tryd.func9, Tryd.ntmps9
  go_wp2_with fail
  refine (examples_ok _ hE).mono ?_
  rintro e w1 ⟨rfl, hb1⟩
  go_wp2_with fail
  refine (mask_yes _ _ (by omega) (by omega)).mono ?_
  rintro e w2 ⟨rfl, rfl⟩
  go_wp2_with fail
  refine (mask_yes _ _ (by omega) (by omega)).mono ?_
  rintro e w2 ⟨rfl, rfl⟩
  have s0 := Six.new w2 (.int .u32 (Ad.cut (a3 % 33) a0)) (.int .i64 (a3 % 33)) (.int .u32 (Ad.cut L a0)) (.int .i64 L) (.int .u32 (Ad.cut (a3 % 33) a1)) (.int .i64 (a3 % 33))
  have B0 := hide (Below.then hb1 ((((Below.refl w2.heap.size w2).alloc (Nat.le_refl _) (.cells #[.int .u32 (Ad.cut (a3 % 33) a0), .int .i64 (a3 % 33)] 30)).alloc (by simp) (.cells #[.int .u32 (Ad.cut L a0), .int .i64 L] 30)).alloc (by simp; omega) (.cells #[.int .u32 (Ad.cut (a3 % 33) a1), .int .i64 (a3 % 33)] 30)))
  have S0 := hide s0
  clear s0 hb1
  go_wp2_with fail
  refine (has_any _ _ _ _ (by omega) (by omega)).mono ?_
  rintro e x1 ⟨rfl, hb1⟩
  have s1 := (unhide S0).on hb1
  have B1 := hide (Below.then (unhide B0) hb1)
  have S1 := hide s1
  obtain ⟨p1, q1, r1, t1, u1, v1⟩ := s1
  clear hb1 S0 B0
  go_wp2_with fail
  refine (has_any _ _ _ _ (by omega) (by omega)).mono ?_
  rintro e x2 ⟨rfl, hb2⟩
  have s2 := (unhide S1).on hb2
  have B2 := hide (Below.then (unhide B1) hb2)
  have S2 := hide s2
  obtain ⟨p2, q2, r2, t2, u2, v2⟩ := s2
  clear hb2 S1 B1
  go_wp2_with fail
  refine (has_any _ _ _ _ (by omega) (by omega)).mono ?_
  rintro e x3 ⟨rfl, hb3⟩
  have s3 := (unhide S2).on hb3
  have B3 := hide (Below.then (unhide B2) hb3)
  have S3 := hide s3
  obtain ⟨p3, q3, r3, t3, u3, v3⟩ := s3
  clear hb3 S2 B2
  go_wp2_with fail
  go_ret
  exact ⟨rfl, unhide B3⟩

set_option maxHeartbeats 1000000 in
set_option maxRecDepth 100000 in
theorem walk2 (a0 a1 a2 a3 a4 L : Int) (w : World) (hE : Env w) (b0 : 0 ≤ a0) (b1 : a0 ≤ 4294967295) (e0 : 0 ≤ a1) (e1 : a1 ≤ 4294967295) (c0 : 0 ≤ a2) (c1 : a2 ≤ 255) (f0 : 0 ≤ a3) (f1 : a3 ≤ 255) (d0 : 0 ≤ a4) (d1 : a4 ≤ 4294967295)
    (hL : wrap64 ((a3 % 33) + a2 % (33 - (a3 % 33))) = L) (l0 : (a3 % 33) ≤ L) (l1 : L ≤ 32)
    (hn : Ad.hasB (Ad.cut L a0) L a4 = true)
    (he : (Ad.cut (a3 % 33) a0 == Ad.cut (a3 % 33) a1) = false)
    (hw : Ad.hasB (Ad.cut (a3 % 33) a0) (a3 % 33) a4 = true)
    (ho : Ad.hasB (Ad.cut (a3 % 33) a1) (a3 % 33) a4 = false)
    : Calls Tryd.prog 9 #[.int .u32 a0, .int .u32 a1, .int .u8 a2, .int .u8 a3, .int .u32 a4] w fun e w' => e = .returned (.bool true) ∧ Below w.heap.size w w' := by
  have ha := Ad.and_msk (a3 % 33) a0 (by omega) (by omega) b0 b1
  have hb := Ad.and_msk (a3 % 33) a1 (by omega) (by omega) e0 e1
  have hc := Ad.and_msk L a0 (by omega) (by omega) b0 b1
  have hpos : 0 < 33 - (a3 % 33) := by omega
  have h1 : Ad.hasB (Ad.cut L a0) L a0 = true := Ad.has_yes (by omega) (by omega) rfl
  go_enter Tryd.func9, Tryd.ntmps9
  go_wp2_with fail
  refine (examples_ok _ hE).mono ?_
  rintro e w1 ⟨rfl, hb1⟩
  go_wp2_with fail
  refine (mask_yes _ _ (by omega) (by omega)).mono ?_
  rintro e w2 ⟨rfl, rfl⟩
  go_wp2_with fail
  refine (mask_yes _ _ (by omega) (by omega)).mono ?_
  rintro e w2 ⟨rfl, rfl⟩
  have s0 := Six.new w2 (.int .u32 (Ad.cut (a3 % 33) a0)) (.int .i64 (a3 % 33)) (.int .u32 (Ad.cut L a0)) (.int .i64 L) (.int .u32 (Ad.cut (a3 % 33) a1)) (.int .i64 (a3 % 33))
  have B0 := hide (Below.then hb1 ((((Below.refl w2.heap.size w2).alloc (Nat.le_refl _) (.cells #[.int .u32 (Ad.cut (a3 % 33) a0), .int .i64 (a3 % 33)] 30)).alloc (by simp) (.cells #[.int .u32 (Ad.cut L a0), .int .i64 L] 30)).alloc (by simp; omega) (.cells #[.int .u32 (Ad.cut (a3 % 33) a1), .int .i64 (a3 % 33)] 30)))
  have S0 := hide s0
  clear s0 hb1
  go_wp2_with fail
  refine (has_any _ _ _ _ (by omega) (by omega)).mono ?_
  rintro e x1 ⟨rfl, hb1⟩
  have s1 := (unhide S0).on hb1
  have B1 := hide (Below.then (unhide B0) hb1)
  have S1 := hide s1
  obtain ⟨p1, q1, r1, t1, u1, v1⟩ := s1
  clear hb1 S0 B0
  go_wp2_with fail
  refine (has_any _ _ _ _ (by omega) (by omega)).mono ?_
  rintro e x2 ⟨rfl, hb2⟩
  have s2 := (unhide S1).on hb2
  have B2 := hide (Below.then (unhide B1) hb2)
  have S2 := hide s2
  obtain ⟨p2, q2, r2, t2, u2, v2⟩ := s2
  clear hb2 S1 B1
  go_wp2_with fail
  refine (has_any _ _ _ _ (by omega) (by omega)).mono ?_
  rintro e x3 ⟨rfl, hb3⟩
  have s3 := (unhide S2).on hb3
  have B3 := hide (Below.then (unhide B2) hb3)
  have S3 := hide s3
  obtain ⟨p3, q3, r3, t3, u3, v3⟩ := s3
  clear hb3 S2 B2
  go_wp2_with fail
  refine (has_any _ _ _ _ (by omega) (by omega)).mono ?_
  rintro e x4 ⟨rfl, hb4⟩
  have s4 := (unhide S3).on hb4
  have B4 := hide (Below.then (unhide B3) hb4)
  have S4 := hide s4
  obtain ⟨p4, q4, r4, t4, u4, v4⟩ := s4
  clear hb4 S3 B3
  go_wp2_with fail
  refine (has_any _ _ _ _ (by omega) (by omega)).mono ?_
  rintro e x5 ⟨rfl, hb5⟩
  have s5 := (unhide S4).on hb5
  have B5 := hide (Below.then (unhide B4) hb5)
  have S5 := hide s5
  obtain ⟨p5, q5, r5, t5, u5, v5⟩ := s5
  clear hb5 S4 B4
  go_wp2_with fail
  go_ret
  exact ⟨rfl, unhide B5⟩

set_option maxHeartbeats 1000000 in
set_option maxRecDepth 100000 in
theorem walk3 (a0 a1 a2 a3 a4 L : Int) (w : World) (hE : Env w) (b0 : 0 ≤ a0) (b1 : a0 ≤ 4294967295) (e0 : 0 ≤ a1) (e1 : a1 ≤ 4294967295) (c0 : 0 ≤ a2) (c1 : a2 ≤ 255) (f0 : 0 ≤ a3) (f1 : a3 ≤ 255) (d0 : 0 ≤ a4) (d1 : a4 ≤ 4294967295)
    (hL : wrap64 ((a3 % 33) + a2 % (33 - (a3 % 33))) = L) (l0 : (a3 % 33) ≤ L) (l1 : L ≤ 32)
    (hn : Ad.hasB (Ad.cut L a0) L a4 = false)
    (he : (Ad.cut (a3 % 33) a0 == Ad.cut (a3 % 33) a1) = true)
    : Calls Tryd.prog 9 #[.int .u32 a0, .int .u32 a1, .int .u8 a2, .int .u8 a3, .int .u32 a4] w fun e w' => e = .returned (.bool true) ∧ Below w.heap.size w w' := by
  have ha := Ad.and_msk (a3 % 33) a0 (by omega) (by omega) b0 b1
  have hb := Ad.and_msk (a3 % 33) a1 (by omega) (by omega) e0 e1
  have hc := Ad.and_msk L a0 (by omega) (by omega) b0 b1
  have hpos : 0 < 33 - (a3 % 33) := by omega
  have h1 : Ad.hasB (Ad.cut L a0) L a0 = true := Ad.has_yes (by omega) (by omega) rfl
  go_enter Tryd.func9, Tryd.ntmps9
  go_wp2_with fail
  refine (examples_ok _ hE).mono ?_
  rintro e w1 ⟨rfl, hb1⟩
  go_wp2_with fail
  refine (mask_yes _ _ (by omega) (by omega)).mono ?_
  rintro e w2 ⟨rfl, rfl⟩
  go_wp2_with fail
  refine (mask_yes _ _ (by omega) (by omega)).mono ?_
  rintro e w2 ⟨rfl, rfl⟩
  have s0 := Six.new w2 (.int .u32 (Ad.cut (a3 % 33) a0)) (.int .i64 (a3 % 33)) (.int .u32 (Ad.cut L a0)) (.int .i64 L) (.int .u32 (Ad.cut (a3 % 33) a1)) (.int .i64 (a3 % 33))
  have B0 := hide (Below.then hb1 ((((Below.refl w2.heap.size w2).alloc (Nat.le_refl _) (.cells #[.int .u32 (Ad.cut (a3 % 33) a0), .int .i64 (a3 % 33)] 30)).alloc (by simp) (.cells #[.int .u32 (Ad.cut L a0), .int .i64 L] 30)).alloc (by simp; omega) (.cells #[.int .u32 (Ad.cut (a3 % 33) a1), .int .i64 (a3 % 33)] 30)))
  have S0 := hide s0
  clear s0 hb1
  go_wp2_with fail
  refine (has_any _ _ _ _ (by omega) (by omega)).mono ?_
  rintro e x1 ⟨rfl, hb1⟩
  have s1 := (unhide S0).on hb1
  have B1 := hide (Below.then (unhide B0) hb1)
  have S1 := hide s1
  obtain ⟨p1, q1, r1, t1, u1, v1⟩ := s1
  clear hb1 S0 B0
  go_wp2_with fail
  refine (has_any _ _ _ _ (by omega) (by omega)).mono ?_
  rintro e x2 ⟨rfl, hb2⟩
  have s2 := (unhide S1).on hb2
  have B2 := hide (Below.then (unhide B1) hb2)
  have S2 := hide s2
  obtain ⟨p2, q2, r2, t2, u2, v2⟩ := s2
  clear hb2 S1 B1
  go_wp2_with fail
  go_ret
  exact ⟨rfl, unhide B2⟩

set_option maxHeartbeats 1000000 in
set_option maxRecDepth 100000 in
theorem walk4 (a0 a1 a2 a3 a4 L : Int) (w : World) (hE : Env w) (b0 : 0 ≤ a0) (b1 : a0 ≤ 4294967295) (e0 : 0 ≤ a1) (e1 : a1 ≤ 4294967295) (c0 : 0 ≤ a2) (c1 : a2 ≤ 255) (f0 : 0 ≤ a3) (f1 : a3 ≤ 255) (d0 : 0 ≤ a4) (d1 : a4 ≤ 4294967295)
    (hL : wrap64 ((a3 % 33) + a2 % (33 - (a3 % 33))) = L) (l0 : (a3 % 33) ≤ L) (l1 : L ≤ 32)
    (hn : Ad.hasB (Ad.cut L a0) L a4 = false)
    (he : (Ad.cut (a3 % 33) a0 == Ad.cut (a3 % 33) a1) = false)
    (hw : Ad.hasB (Ad.cut (a3 % 33) a0) (a3 % 33) a4 = true)
    (ho : Ad.hasB (Ad.cut (a3 % 33) a1) (a3 % 33) a4 = false)
    : Calls Tryd.prog 9 #[.int .u32 a0, .int .u32 a1, .int .u8 a2, .int .u8 a3, .int .u32 a4] w fun e w' => e = .returned (.bool true) ∧ Below w.heap.size w w' := by
  have ha := Ad.and_msk (a3 % 33) a0 (by omega) (by omega) b0 b1
  have hb := Ad.and_msk (a3 % 33) a1 (by omega) (by omega) e0 e1
  have hc := Ad.and_msk L a0 (by omega) (by omega) b0 b1
  have hpos : 0 < 33 - (a3 % 33) := by omega
  have h1 : Ad.hasB (Ad.cut L a0) L a0 = true := Ad.has_yes (by omega) (by omega) rfl
  go_enter Tryd.func9, Tryd.ntmps9
  go_wp2_with fail
  refine (examples_ok _ hE).mono ?_
  rintro e w1 ⟨rfl, hb1⟩
  go_wp2_with fail
  refine (mask_yes _ _ (by omega) (by omega)).mono ?_
  rintro e w2 ⟨rfl, rfl⟩
  go_wp2_with fail
  refine (mask_yes _ _ (by omega) (by omega)).mono ?_
  rintro e w2 ⟨rfl, rfl⟩
  have s0 := Six.new w2 (.int .u32 (Ad.cut (a3 % 33) a0)) (.int .i64 (a3 % 33)) (.int .u32 (Ad.cut L a0)) (.int .i64 L) (.int .u32 (Ad.cut (a3 % 33) a1)) (.int .i64 (a3 % 33))
  have B0 := hide (Below.then hb1 ((((Below.refl w2.heap.size w2).alloc (Nat.le_refl _) (.cells #[.int .u32 (Ad.cut (a3 % 33) a0), .int .i64 (a3 % 33)] 30)).alloc (by simp) (.cells #[.int .u32 (Ad.cut L a0), .int .i64 L] 30)).alloc (by simp; omega) (.cells #[.int .u32 (Ad.cut (a3 % 33) a1), .int .i64 (a3 % 33)] 30)))
  have S0 := hide s0
  clear s0 hb1
  go_wp2_with fail
  refine (has_any _ _ _ _ (by omega) (by omega)).mono ?_
  rintro e x1 ⟨rfl, hb1⟩
  have s1 := (unhide S0).on hb1
  have B1 := hide (Below.then (unhide B0) hb1)
  have S1 := hide s1
  obtain ⟨p1, q1, r1, t1, u1, v1⟩ := s1
  clear hb1 S0 B0
  go_wp2_with fail
  refine (has_any _ _ _ _ (by omega) (by omega)).mono ?_
  rintro e x2 ⟨rfl, hb2⟩
  have s2 := (unhide S1).on hb2
  have B2 := hide (Below.then (unhide B1) hb2)
  have S2 := hide s2
  obtain ⟨p2, q2, r2, t2, u2, v2⟩ := s2
  clear hb2 S1 B1
  go_wp2_with fail
  refine (has_any _ _ _ _ (by omega) (by omega)).mono ?_
  rintro e x3 ⟨rfl, hb3⟩
  have s3 := (unhide S2).on hb3
  have B3 := hide (Below.then (unhide B2) hb3)
  have S3 := hide s3
  obtain ⟨p3, q3, r3, t3, u3, v3⟩ := s3
  clear hb3 S2 B2
  go_wp2_with fail
  refine (has_any _ _ _ _ (by omega) (by omega)).mono ?_
  rintro e x4 ⟨rfl, hb4⟩
  have s4 := (unhide S3).on hb4
  have B4 := hide (Below.then (unhide B3) hb4)
  have S4 := hide s4
  obtain ⟨p4, q4, r4, t4, u4, v4⟩ := s4
  clear hb4 S3 B3
  go_wp2_with fail
  go_ret
  exact ⟨rfl, unhide B4⟩

set_option maxHeartbeats 1000000 in
set_option maxRecDepth 100000 in
theorem walk5 (a0 a1 a2 a3 a4 L : Int) (w : World) (hE : Env w) (b0 : 0 ≤ a0) (b1 : a0 ≤ 4294967295) (e0 : 0 ≤ a1) (e1 : a1 ≤ 4294967295) (c0 : 0 ≤ a2) (c1 : a2 ≤ 255) (f0 : 0 ≤ a3) (f1 : a3 ≤ 255) (d0 : 0 ≤ a4) (d1 : a4 ≤ 4294967295)
    (hL : wrap64 ((a3 % 33) + a2 % (33 - (a3 % 33))) = L) (l0 : (a3 % 33) ≤ L) (l1 : L ≤ 32)
    (hn : Ad.hasB (Ad.cut L a0) L a4 = false)
    (he : (Ad.cut (a3 % 33) a0 == Ad.cut (a3 % 33) a1) = false)
    (hw : Ad.hasB (Ad.cut (a3 % 33) a0) (a3 % 33) a4 = false)
    : Calls Tryd.prog 9 #[.int .u32 a0, .int .u32 a1, .int .u8 a2, .int .u8 a3, .int .u32 a4] w fun e w' => e = .returned (.bool true) ∧ Below w.heap.size w w' := by
  have ha := Ad.and_msk (a3 % 33) a0 (by omega) (by omega) b0 b1
  have hb := Ad.and_msk (a3 % 33) a1 (by omega) (by omega) e0 e1
  have hc := Ad.and_msk L a0 (by omega) (by omega) b0 b1
  have hpos : 0 < 33 - (a3 % 33) := by omega
  have h1 : Ad.hasB (Ad.cut L a0) L a0 = true := Ad.has_yes (by omega) (by omega) rfl
  go_enter Tryd.func9, Tryd.ntmps9
  go_wp2_with fail
  refine (examples_ok _ hE).mono ?_
  rintro e w1 ⟨rfl, hb1⟩
  go_wp2_with fail
  refine (mask_yes _ _ (by omega) (by omega)).mono ?_
  rintro e w2 ⟨rfl, rfl⟩
  go_wp2_with fail
  refine (mask_yes _ _ (by omega) (by omega)).mono ?_
  rintro e w2 ⟨rfl, rfl⟩
  have s0 := Six.new w2 (.int .u32 (Ad.cut (a3 % 33) a0)) (.int .i64 (a3 % 33)) (.int .u32 (Ad.cut L a0)) (.int .i64 L) (.int .u32 (Ad.cut (a3 % 33) a1)) (.int .i64 (a3 % 33))
  have B0 := hide (Below.then hb1 ((((Below.refl w2.heap.size w2).alloc (Nat.le_refl _) (.cells #[.int .u32 (Ad.cut (a3 % 33) a0), .int .i64 (a3 % 33)] 30)).alloc (by simp) (.cells #[.int .u32 (Ad.cut L a0), .int .i64 L] 30)).alloc (by simp; omega) (.cells #[.int .u32 (Ad.cut (a3 % 33) a1), .int .i64 (a3 % 33)] 30)))
  have S0 := hide s0
  clear s0 hb1
  go_wp2_with fail
  refine (has_any _ _ _ _ (by omega) (by omega)).mono ?_
  rintro e x1 ⟨rfl, hb1⟩
  have s1 := (unhide S0).on hb1
  have B1 := hide (Below.then (unhide B0) hb1)
  have S1 := hide s1
  obtain ⟨p1, q1, r1, t1, u1, v1⟩ := s1
  clear hb1 S0 B0
  go_wp2_with fail
  refine (has_any _ _ _ _ (by omega) (by omega)).mono ?_
  rintro e x2 ⟨rfl, hb2⟩
  have s2 := (unhide S1).on hb2
  have B2 := hide (Below.then (unhide B1) hb2)
  have S2 := hide s2
  obtain ⟨p2, q2, r2, t2, u2, v2⟩ := s2
  clear hb2 S1 B1
  go_wp2_with fail
  refine (has_any _ _ _ _ (by omega) (by omega)).mono ?_
  rintro e x3 ⟨rfl, hb3⟩
  have s3 := (unhide S2).on hb3
  have B3 := hide (Below.then (unhide B2) hb3)
  have S3 := hide s3
  obtain ⟨p3, q3, r3, t3, u3, v3⟩ := s3
  clear hb3 S2 B2
  go_wp2_with fail
  go_ret
  exact ⟨rfl, unhide B3⟩

set_option maxHeartbeats 1000000 in
set_option maxRecDepth 100000 in
theorem walk (a0 : Int) (a1 : Int) (a2 : Int) (a3 : Int) (a4 : Int) (w0 : (Lit.int .u32 a0).wf = true) (w1 : (Lit.int .u32 a1).wf = true) (w2 : (Lit.int .u8 a2).wf = true) (w3 : (Lit.int .u8 a3).wf = true) (w4 : (Lit.int .u32 a4).wf = true) (w : World) (hE : Env w) :
    Calls Tryd.prog 9 #[.int .u32 a0, .int .u32 a1, .int .u8 a2, .int .u8 a3, .int .u32 a4] w fun e w' => e = .returned (.bool true) ∧ Below w.heap.size w w' := by
  have b0 : 0 ≤ a0 := (bounds_u32 w0).1
  have b1 : a0 ≤ 4294967295 := (bounds_u32 w0).2
  have e0 : 0 ≤ a1 := (bounds_u32 w1).1
  have e1 : a1 ≤ 4294967295 := (bounds_u32 w1).2
  have c0 : 0 ≤ a2 := (bounds_u8 w2).1
  have c1 : a2 ≤ 255 := (bounds_u8 w2).2
  have f0 : 0 ≤ a3 := (bounds_u8 w3).1
  have f1 : a3 ≤ 255 := (bounds_u8 w3).2
  have d0 : 0 ≤ a4 := (bounds_u32 w4).1
  have d1 : a4 ≤ 4294967295 := (bounds_u32 w4).2
  have m0 : 0 ≤ a2 % (33 - (a3 % 33)) := Int.emod_nonneg _ (by omega)
  have m1 : a2 % (33 - (a3 % 33)) < 33 - (a3 % 33) := Int.emod_lt_of_pos _ (by omega)
  obtain ⟨L, hL'⟩ : ∃ L, (a3 % 33) + a2 % (33 - (a3 % 33)) = L := ⟨_, rfl⟩
  have hL : wrap64 ((a3 % 33) + a2 % (33 - (a3 % 33))) = L := by rw [hL', wrap64]; omega
  have l0 : (a3 % 33) ≤ L := by omega
  have l1 : L ≤ 32 := by omega
  have hsub : Ad.hasB (Ad.cut L a0) L a4 = true → Ad.hasB (Ad.cut (a3 % 33) a0) (a3 % 33) a4 = true := by
    intro h
    have := (Ad.of_has h).2.2
    refine Ad.has_yes (by omega) (by omega) ?_
    rw [← Ad.cut_cut (a3 % 33) L a4 l0 d0, this, Ad.cut_cut (a3 % 33) L a0 l0 b0]
  by_cases he : Ad.cut (a3 % 33) a0 = Ad.cut (a3 % 33) a1
  · have he' : (Ad.cut (a3 % 33) a0 == Ad.cut (a3 % 33) a1) = true := by simp [he]
    cases hn : Ad.hasB (Ad.cut L a0) L a4 with
    | true => exact walk1 a0 a1 a2 a3 a4 _ w hE b0 b1 e0 e1 c0 c1 f0 f1 d0 d1 hL l0 l1 hn he' (hsub hn)
    | false => exact walk3 a0 a1 a2 a3 a4 _ w hE b0 b1 e0 e1 c0 c1 f0 f1 d0 d1 hL l0 l1 hn he'
  · have he' : (Ad.cut (a3 % 33) a0 == Ad.cut (a3 % 33) a1) = false := by simp [he]
    have hno : Ad.hasB (Ad.cut (a3 % 33) a0) (a3 % 33) a4 = true → Ad.hasB (Ad.cut (a3 % 33) a1) (a3 % 33) a4 = false := by
      intro h
      exact Ad.has_no fun e => he ((Ad.of_has h).2.2.symm.trans e)
    cases hn : Ad.hasB (Ad.cut L a0) L a4 with
    | true => exact walk2 a0 a1 a2 a3 a4 _ w hE b0 b1 e0 e1 c0 c1 f0 f1 d0 d1 hL l0 l1 hn he' (hsub hn) (hno (hsub hn))
    | false =>
      cases hw : Ad.hasB (Ad.cut (a3 % 33) a0) (a3 % 33) a4 with
      | true => exact walk4 a0 a1 a2 a3 a4 _ w hE b0 b1 e0 e1 c0 c1 f0 f1 d0 d1 hL l0 l1 hn he' hw (hno hw)
      | false => exact walk5 a0 a1 a2 a3 a4 _ w hE b0 b1 e0 e1 c0 c1 f0 f1 d0 d1 hL l0 l1 hn he' hw

set_option maxRecDepth 100000 in
theorem lifted (os : Os) (started : os.Started) (H : Type) (enc : TypeId × Value → H) :
    ReturnsInHanded {} Tryd.checked os 9 .any (fun w args => (Rows.addrNestedSpec.pre enc Tryd.prog Tryd.f9 [] false w args ∧ laidMetH Tryd.prog Rows.addrNestedRow.laid w) ∧ sizedMet enc Tryd.prog Tryd.f9 (OpenSpec.ofChange Rows.addrNestedSpec) false w args)
      (Rows.addrNestedSpec.post enc Tryd.prog Tryd.f9 false true false false) := by
  refine returnsInHanded_of_change_and (C := Tryd.checked) (X := fun w _ => laidMetH Tryd.prog Rows.addrNestedRow.laid w) (fun _ _ _ hh h => h.of_heap hh) own started (by kernel_rfl) Tryd.func9
    (ChangeSpec.witness_shaped (enc := enc) (C := Tryd.checked) (os := os) (X := fun w _ => laidMetH Tryd.prog Rows.addrNestedRow.laid w) false (World.laidAll Tryd.prog os Rows.addrTextsRow.laid) #[.int .u32 0, .int .u32 0, .int .u8 0, .int .u8 0, .int .u32 0] 8 (World.laidAll_os _ _ _)
      (laid_shaped os) (by kernel_rfl) (by kernel_rfl) (by kernel_rfl) (laid_met os _)) ?_
  intro W base args ds gs before hval0 hW _ hsz hL _
  have hval : ∀ (j : Nat) t v, Tryd.f9.params[j]? = some t → args[j]? = some v → Value.okWide Tryd.prog W .any base t v := hval0
  have hW' := hW
  obtain ⟨p, q, hA0, hV, rfl, hfz, hnd⟩ := hW
  have hA : DataW.TrodAll enc Tryd.prog W 0 (fun _ => true) true Tryd.f9.params.toList args.toList ds p := hA0
  rw [Tryd.params9] at hA hval
  obtain ⟨v0, vs0, d0, ds0, p0, q0, hargs, rfl, rfl, h0, r0⟩ := trodAll_cons hA
  obtain ⟨v1, vs1, d1, ds1, p1, q1, rfl, rfl, rfl, h1, r1⟩ := trodAll_cons r0
  obtain ⟨v2, vs2, d2, ds2, p2, q2, rfl, rfl, rfl, h2, r2⟩ := trodAll_cons r1
  obtain ⟨v3, vs3, d3, ds3, p3, q3, rfl, rfl, rfl, h3, r3⟩ := trodAll_cons r2
  obtain ⟨v4, vs4, d4, ds4, p4, q4, rfl, rfl, rfl, h4, r4⟩ := trodAll_cons r3
  obtain ⟨rfl, rfl, rfl⟩ := trodAll_nil r4
  obtain rfl : args = #[v0, v1, v2, v3, v4] := by cases args; simp_all
  obtain ⟨rfl, rfl⟩ := trodVars_none hV
  obtain ⟨a0, rfl, rfl, rfl, w0⟩ := open_int Tryd.underlying22 (hval 0 22 v0 rfl rfl) h0
  obtain ⟨a1, rfl, rfl, rfl, w1⟩ := open_int Tryd.underlying22 (hval 1 22 v1 rfl rfl) h1
  obtain ⟨a2, rfl, rfl, rfl, w2⟩ := open_int Tryd.underlying5 (hval 2 5 v2 rfl rfl) h2
  obtain ⟨a3, rfl, rfl, rfl, w3⟩ := open_int Tryd.underlying5 (hval 3 5 v3 rfl rfl) h3
  obtain ⟨a4, rfl, rfl, rfl, w4⟩ := open_int Tryd.underlying22 (hval 4 22 v4 rfl rfl) h4
  simp only [List.append_nil] at hW'
  refine (walk a0 a1 a2 a3 a4 w0 w1 w2 w3 w4 W (env_of hL)).mono fun e W' ⟨he, hb⟩ => ?_
  subst he
  exact ⟨_, rfl, _, _, _, [], [], [], hW', (trodAll_cons_mk (shut_bool Tryd.underlying4 _) trodAll_mk0), (trodAll_cons_mk (shut_int Tryd.underlying22 w0) (trodAll_cons_mk (shut_int Tryd.underlying22 w1) (trodAll_cons_mk (shut_int Tryd.underlying5 w2) (trodAll_cons_mk (shut_int Tryd.underlying5 w3) (trodAll_cons_mk (shut_int Tryd.underlying22 w4) trodAll_mk0))))), rfl, hb.frame _, fun h => by cases h⟩

theorem over : Rows.addrNestedRow.holds Tryd.pinned (OpenSpec.ofChange Rows.addrNestedSpec) :=
  OpenClaim.holds_of_wide 9 Tryd.f9 rfl rfl rfl rfl rfl rfl rfl ⟨rfl, rfl, rfl, rfl, rfl⟩ rfl rfl rfl rfl rfl (by kernel_rfl) Tryd.func9 (by kernel_rfl)
    (of_decide_eq_true (by kernel_rfl)) (by unfold Func.isWrapper; first | (rw [if_pos (by decide +kernel)]; kernel_rfl) | (rw [if_neg (by decide +kernel)]; exact ⟨rfl, rfl⟩))
    (fun os started H enc _ => lifted os started H enc)

theorem proved : Rows.AddrNestedCardSaid :=
  Claim7.holds_tied_plain_at .later [] [.data, .data, .data, .data, .sentinel, .sentinel, .pinned] true (true, "175afbf1b3771384037ba59ab58552f86875b3316abe2b1edeec32f6b76d1a09") true over (fun _ h => by cases h) (by kernel_rfl) (fun _ h => by cases h) addrNested_row_tie rfl ⟨rfl, rfl⟩ (by kernel_rfl) rfl
    (fun f fn hf hfn => by
      obtain rfl : f = 9 := Option.some.inj ((show Tryd.prog.funcNamed Rows.addrNestedRow.func = some 9 by kernel_rfl).symm.trans hf) |>.symm
      obtain rfl : fn = Tryd.f9 := (Option.some.inj (Tryd.func9.symm.trans hfn)).symm
      exact ⟨by kernel_rfl, fun j t ht => by
        rw [Tryd.params9] at ht
        have hm : t ∈ [22, 22, 5, 5, 22] := by simpa using Array.mem_of_getElem? ht
        have hall : ([22, 22, 5, 5, 22].all fun u => !Tryd.prog.wantsStandIn u) = true := by kernel_rfl
        exact (show Tryd.prog.wantsStandIn t = false by simpa using List.all_eq_true.1 hall t hm)⟩)
    (by kernel_rfl)
#print axioms proved
end Go.Proofs.YtnnhkjjnolhaoaaDoor.addrNested
