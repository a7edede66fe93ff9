/- AddrHolds answers true for all addresses a and b and every number of bits of 8 bits, and changes nothing that was there before; the library's variables are as the program's text lays them (the card ties that). -/
import Derived.Test.YtnnhkjjnolhaoaaDoorAdLaid
import Derived.Test.YtnnhkjjnolhaoaaDoorAdEx
namespace Go.Proofs.YtnnhkjjnolhaoaaDoor.addrHolds
open Go.ChangeShapes Go.WideShapes Go.ChangeAt Go.RowKit
open Go.ChangeMaps (open_string shut_string)
set_option linter.unusedVariables false
theorem cases32 {p : Int → Prop} (h : ∀ k : Fin 32, p k.val) (k : Int) (h0 : 0 ≤ k) (h1 : k < 32) : p k := by
  have := h ⟨k.toNat, by omega⟩
  simpa [Int.toNat_of_nonneg h0] using this
theorem pw_lo (j : Nat) : (0 : Int) < 2 ^ j := by
  have : (0 : Nat) < 2 ^ j := Nat.two_pow_pos j
  exact_mod_cast this
theorem pw_mod (k : Int) (h0 : 0 ≤ k) (h1 : k < 32) : (2 : Int) ^ (31 - k).toNat % 4294967296 = 2 ^ (31 - k).toNat := by
  revert h0 h1; intro h0 h1
  exact cases32 (p := fun k => (2 : Int) ^ (31 - k).toNat % 4294967296 = 2 ^ (31 - k).toNat) (by decide +kernel) k h0 h1
/-- cut, and one bit more, by quotients. -/
theorem two (k : Int) (h0 : 0 ≤ k) (h1 : k < 32) : ∃ p : Int, 0 < p ∧ (2 : Int) ^ (31 - k).toNat = p ∧ (∀ a, Ad.cut k a = a / p / 2 * 2 * p) ∧ (∀ a, Ad.cut (k + 1) a = a / p * p) := by
  refine ⟨2 ^ (31 - k).toNat, pw_lo _, rfl, fun a => ?_, fun a => ?_⟩
  · rw [Ad.cut, show (32 - k).toNat = (31 - k).toNat + 1 from by omega, Int.pow_succ, ← Int.ediv_ediv_of_nonneg (Int.le_of_lt (pw_lo _)), Int.mul_assoc, Int.mul_comm 2]
  · rw [Ad.cut, show (32 - (k + 1)).toNat = (31 - k).toNat from by omega]
theorem mul_inj {p x y : Int} (hp : 0 < p) (h : x * p = y * p) : x = y := Int.eq_of_mul_eq_mul_right (Int.ne_of_gt hp) h
theorem halves (k a b : Int) (h0 : 0 ≤ k) (h1 : k < 32) (h : Ad.cut k b = Ad.cut k a) :
    (Ad.cut (k + 1) b = Ad.cut k a ∧ Ad.cut (k + 1) b ≠ Ad.cut k a + 2 ^ (31 - k).toNat) ∨ (Ad.cut (k + 1) b ≠ Ad.cut k a ∧ Ad.cut (k + 1) b = Ad.cut k a + 2 ^ (31 - k).toNat) := by
  obtain ⟨p, hp, hq, hc, hd⟩ := two k h0 h1
  rw [hq, hd b, hc a]
  rw [hc a, hc b] at h
  have e := mul_inj hp h
  have e2 : a / p / 2 * 2 * p + p = (a / p / 2 * 2 + 1) * p := by rw [Int.add_mul, Int.one_mul]
  rw [e2, ← e]
  have hm : b / p = b / p / 2 * 2 ∨ b / p = b / p / 2 * 2 + 1 := by omega
  rcases hm with hm | hm
  · left
    refine ⟨by rw [← hm], fun e => ?_⟩
    have := mul_inj hp e
    omega
  · right
    refine ⟨fun e => ?_, by rw [← hm]⟩
    have := mul_inj hp e
    omega
theorem neither (k a b : Int) (h0 : 0 ≤ k) (h1 : k < 32) (h : Ad.cut k b ≠ Ad.cut k a) : Ad.cut (k + 1) b ≠ Ad.cut k a ∧ Ad.cut (k + 1) b ≠ Ad.cut k a + 2 ^ (31 - k).toNat := by
  obtain ⟨p, hp, hq, hc, hd⟩ := two k h0 h1
  rw [hq, hd b, hc a]
  rw [hc a, hc b] at h
  have hn : ¬ b / p / 2 * 2 = a / p / 2 * 2 := fun e => h (by rw [e])
  have e2 : a / p / 2 * 2 * p + p = (a / p / 2 * 2 + 1) * p := by rw [Int.add_mul, Int.one_mul]
  rw [e2]
  constructor
  · intro e
    have := mul_inj hp e
    omega
  · intro e
    have := mul_inj hp e
    omega
theorem or_high (k a : Int) (h0 : 0 ≤ k) (h1 : k < 32) (ha : 0 ≤ a) (ha1 : a ≤ 4294967295) : bits .or .u32 (Ad.cut k a) (2 ^ (31 - k).toNat % 4294967296) = Ad.cut k a + 2 ^ (31 - k).toNat := by
  rw [pw_mod k h0 h1]
  have hi : (2 : Int) ^ (31 - k).toNat < 2 ^ (32 - k).toNat := by
    rw [show (32 - k).toNat = (31 - k).toNat + 1 from by omega, Int.pow_succ]
    have := pw_lo (31 - k).toNat
    omega
  have hm := pw_mod k h0 h1
  have hp := pw_lo (31 - k).toNat
  refine bits_join .u32 32 (by decide) Ad.wraps_u32 (32 - k).toNat (Ad.cut k a) (2 ^ (31 - k).toNat) (Ad.cut_lo k a ha) ?_ ?_ (Int.le_of_lt hp) hi ?_
  · rw [Ad.cut]; exact Int.mul_emod_left _ _
  · have := Ad.cut_hi k a ha
    omega
  · omega
theorem next_and : ∀ k : Fin 32, bits .and .u32 (Ad.msk ((k.val : Int) + 1)) (Ad.msk k.val) = Ad.msk k.val := by decide +kernel
theorem not_own (k a b : Int) (h0 : 0 ≤ k) (h1 : k < 32) (ha : 0 ≤ a) (ha1 : a ≤ 4294967295) (hb : 0 ≤ b) : Ad.cut k b ≠ bits .or .u32 a (2 ^ (31 - k).toNat % 4294967296) := by
  rw [pw_mod k h0 h1]
  have hm := pw_mod k h0 h1
  obtain ⟨x, rfl⟩ := Int.eq_ofNat_of_zero_le ha
  obtain ⟨y, rfl⟩ := Int.eq_ofNat_of_zero_le hb
  have hx : ((2 ^ (31 - k).toNat : Nat) : Int) = 2 ^ (31 - k).toNat := by simp
  have hl : 2 ^ (31 - k).toNat < 4294967296 := by
    have : ((2 ^ (31 - k).toNat : Nat) : Int) < 4294967296 := by rw [hx]; have := pw_lo (31 - k).toNat; omega
    omega
  rw [← hx, Ad.or_u32 x _ (by omega) hl, Ad.cut_nat]
  intro e
  have e' : y / 2 ^ (32 - k).toNat * 2 ^ (32 - k).toNat = x ||| 2 ^ (31 - k).toNat := by exact_mod_cast e
  have t := congrArg (fun n => n.testBit (31 - k).toNat) e'
  simp only [Ad.cut_bit, Nat.testBit_or, Nat.testBit_two_pow_self, Bool.or_true] at t
  have : ¬ (32 - k).toNat ≤ (31 - k).toNat := by omega
  simp [this] at t

/-- Three nets that lie one behind the other. -/
def Six (W : World) (B : Nat) (p q r s t u : Value) : Prop :=
  W.cell? ⟨B, 0, none⟩ = some p ∧ W.cell? ⟨B, 1, none⟩ = some q ∧ W.cell? ⟨B + 1, 0, none⟩ = some r ∧ W.cell? ⟨B + 1, 1, none⟩ = some s ∧ W.cell? ⟨B + 1 + 1, 0, none⟩ = some t ∧ W.cell? ⟨B + 1 + 1, 1, none⟩ = some u
theorem cell_on {W W' : World} {a : Addr} {v : Value} (h : W.cell? a = some v) (hb : Below W.heap.size W W') : W'.cell? a = some v := by
  rw [hb.cell (block_lt_of_cell h)]; exact h
theorem Six.on {W W' : World} {B : Nat} {p q r s t u : Value} (h : Six W B p q r s t u) (hb : Below W.heap.size W W') : Six W' B p q r s t u :=
  ⟨cell_on h.1 hb, cell_on h.2.1 hb, cell_on h.2.2.1 hb, cell_on h.2.2.2.1 hb, cell_on h.2.2.2.2.1 hb, cell_on h.2.2.2.2.2 hb⟩
theorem Six.new (w : World) (p q r s t u : Value) : Six (((w.alloc (.cells #[p, q] 30)).alloc (.cells #[r, s] 30)).alloc (.cells #[t, u] 30)) w.heap.size p q r s t u := by
  refine ⟨?_, ?_, ?_, ?_, ?_, ?_⟩ <;> simp [go_sem]

set_option maxHeartbeats 1000000 in
set_option maxRecDepth 100000 in
theorem walk_out (a0 a1 a2 : Int) (w : World) (hE : Env w) (b0 : 0 ≤ a0) (b1 : a0 ≤ 4294967295) (c0 : 0 ≤ a1) (c1 : a1 ≤ 255) (d0 : 0 ≤ a2) (d1 : a2 ≤ 4294967295)
    (hq : (Ad.cut (a1 % 32) a2 == Ad.cut (a1 % 32) a0) = false)
    (h2 : Ad.hasB (Ad.cut (a1 % 32) a0) (a1 % 32) a2 = false)
    (h3 : Ad.hasB (Ad.cut (a1 % 32) a0) ((a1 % 32) + 1) a2 = false)
    (h4 : Ad.hasB (Ad.cut (a1 % 32) a0 + 2 ^ (31 - (a1 % 32)).toNat) ((a1 % 32) + 1) a2 = false)
    : Calls Tryd.prog 6 #[.int .u32 a0, .int .u8 a1, .int .u32 a2] w fun e w' => e = .returned (.bool true) ∧ Below w.heap.size w w' := by
  have ha := Ad.and_msk (a1 % 32) a0 (by omega) (by omega) b0 b1
  have hb := Ad.and_msk (a1 % 32) a2 (by omega) (by omega) d0 d1
  have ho := or_high (a1 % 32) a0 (by omega) (by omega) b0 b1
  have hn : bits .and .u32 (Ad.msk ((a1 % 32) + 1)) (Ad.msk (a1 % 32)) = Ad.msk (a1 % 32) := cases32 (p := fun k => bits .and .u32 (Ad.msk (k + 1)) (Ad.msk k) = Ad.msk k) next_and (a1 % 32) (by omega) (by omega)
  have h1 : Ad.hasB (Ad.cut (a1 % 32) a0) (a1 % 32) a0 = true := Ad.has_yes (by omega) (by omega) rfl
  have h9 : Ad.hasB (bits .or .u32 a0 (2 ^ (31 - (a1 % 32)).toNat % 4294967296)) (a1 % 32) a2 = false := Ad.has_no (not_own (a1 % 32) a0 a2 (by omega) (by omega) b0 b1 d0)
  obtain ⟨O, hO⟩ : ∃ O, bits .or .u32 a0 (2 ^ (31 - (a1 % 32)).toNat % 4294967296) = O := ⟨_, rfl⟩
  obtain ⟨H, hH⟩ : ∃ H, Ad.cut (a1 % 32) a0 + 2 ^ (31 - (a1 % 32)).toNat = H := ⟨_, rfl⟩
  rw [hO] at h9
  rw [hH] at ho h4
  clear hH
  go_enter Tryd.func6, Tryd.ntmps6
  go_wp2_with fail
  refine (examples_ok _ hE).mono ?_
  rintro e w1 ⟨rfl, hb1⟩
  go_wp2_with fail
  refine (mask_yes _ _ (by omega) (by omega)).mono ?_
  rintro e w2 ⟨rfl, rfl⟩
  go_wp2_with fail
  refine (mask_yes _ _ (by omega) (by omega)).mono ?_
  rintro e w2 ⟨rfl, rfl⟩
  have s0 := Six.new w2 (.int .u32 (Ad.cut (a1 % 32) a0)) (.int .i64 (a1 % 32)) (.int .u32 (Ad.cut (a1 % 32) a0)) (.int .i64 ((a1 % 32) + 1)) (.int .u32 H) (.int .i64 ((a1 % 32) + 1))
  have B0 := hide (Below.then hb1 ((((Below.refl w2.heap.size w2).alloc (Nat.le_refl _) (.cells #[.int .u32 (Ad.cut (a1 % 32) a0), .int .i64 (a1 % 32)] 30)).alloc (by simp) (.cells #[.int .u32 (Ad.cut (a1 % 32) a0), .int .i64 ((a1 % 32) + 1)] 30)).alloc (by simp; omega) (.cells #[.int .u32 H, .int .i64 ((a1 % 32) + 1)] 30)))
  have S0 := hide s0
  clear s0 hb1
  go_wp2_with fail
  refine (has_any _ _ _ _ (by omega) (by omega)).mono ?_
  rintro e x1 ⟨rfl, hb1⟩
  have s1 := (unhide S0).on hb1
  have B1 := hide (Below.then (unhide B0) hb1)
  have S1 := hide s1
  obtain ⟨p1, q1, r1, t1, u1, v1⟩ := s1
  clear hb1 S0 B0
  go_wp2_with fail
  refine (has_any _ _ _ _ (by omega) (by omega)).mono ?_
  rintro e x2 ⟨rfl, hb2⟩
  have s2 := (unhide S1).on hb2
  have B2 := hide (Below.then (unhide B1) hb2)
  have S2 := hide s2
  obtain ⟨p2, q2, r2, t2, u2, v2⟩ := s2
  clear hb2 S1 B1
  go_wp2_with fail
  refine (has_any _ _ _ _ (by omega) (by omega)).mono ?_
  rintro e x3 ⟨rfl, hb3⟩
  have s3 := (unhide S2).on hb3
  have B3 := hide (Below.then (unhide B2) hb3)
  have S3 := hide s3
  obtain ⟨p3, q3, r3, t3, u3, v3⟩ := s3
  clear hb3 S2 B2
  go_wp2_with fail
  refine (has_any _ _ _ _ (by omega) (by omega)).mono ?_
  rintro e x4 ⟨rfl, hb4⟩
  have s4 := (unhide S3).on hb4
  have B4 := hide (Below.then (unhide B3) hb4)
  have S4 := hide s4
  obtain ⟨p4, q4, r4, t4, u4, v4⟩ := s4
  clear hb4 S3 B3
  go_wp2_with fail
  refine (has_any _ _ _ _ (by omega) (by omega)).mono ?_
  rintro e x5 ⟨rfl, hb5⟩
  have s5 := (unhide S4).on hb5
  have B5 := hide (Below.then (unhide B4) hb5)
  have S5 := hide s5
  obtain ⟨p5, q5, r5, t5, u5, v5⟩ := s5
  clear hb5 S4 B4
  go_wp2_with fail
  refine (has_any _ _ _ _ (by omega) (by omega)).mono ?_
  rintro e x6 ⟨rfl, hb6⟩
  have s6 := (unhide S5).on hb6
  have B6 := hide (Below.then (unhide B5) hb6)
  have S6 := hide s6
  obtain ⟨p6, q6, r6, t6, u6, v6⟩ := s6
  clear hb6 S5 B5
  go_wp2_with fail
  go_ret
  exact ⟨rfl, unhide B6⟩

set_option maxHeartbeats 1000000 in
set_option maxRecDepth 100000 in
theorem walk_low (a0 a1 a2 : Int) (w : World) (hE : Env w) (b0 : 0 ≤ a0) (b1 : a0 ≤ 4294967295) (c0 : 0 ≤ a1) (c1 : a1 ≤ 255) (d0 : 0 ≤ a2) (d1 : a2 ≤ 4294967295)
    (hq : (Ad.cut (a1 % 32) a2 == Ad.cut (a1 % 32) a0) = true)
    (h2 : Ad.hasB (Ad.cut (a1 % 32) a0) (a1 % 32) a2 = true)
    (h3 : Ad.hasB (Ad.cut (a1 % 32) a0) ((a1 % 32) + 1) a2 = true)
    (h4 : Ad.hasB (Ad.cut (a1 % 32) a0 + 2 ^ (31 - (a1 % 32)).toNat) ((a1 % 32) + 1) a2 = false)
    : Calls Tryd.prog 6 #[.int .u32 a0, .int .u8 a1, .int .u32 a2] w fun e w' => e = .returned (.bool true) ∧ Below w.heap.size w w' := by
  have ha := Ad.and_msk (a1 % 32) a0 (by omega) (by omega) b0 b1
  have hb := Ad.and_msk (a1 % 32) a2 (by omega) (by omega) d0 d1
  have ho := or_high (a1 % 32) a0 (by omega) (by omega) b0 b1
  have hn : bits .and .u32 (Ad.msk ((a1 % 32) + 1)) (Ad.msk (a1 % 32)) = Ad.msk (a1 % 32) := cases32 (p := fun k => bits .and .u32 (Ad.msk (k + 1)) (Ad.msk k) = Ad.msk k) next_and (a1 % 32) (by omega) (by omega)
  have h1 : Ad.hasB (Ad.cut (a1 % 32) a0) (a1 % 32) a0 = true := Ad.has_yes (by omega) (by omega) rfl
  have h9 : Ad.hasB (bits .or .u32 a0 (2 ^ (31 - (a1 % 32)).toNat % 4294967296)) (a1 % 32) a2 = false := Ad.has_no (not_own (a1 % 32) a0 a2 (by omega) (by omega) b0 b1 d0)
  obtain ⟨O, hO⟩ : ∃ O, bits .or .u32 a0 (2 ^ (31 - (a1 % 32)).toNat % 4294967296) = O := ⟨_, rfl⟩
  obtain ⟨H, hH⟩ : ∃ H, Ad.cut (a1 % 32) a0 + 2 ^ (31 - (a1 % 32)).toNat = H := ⟨_, rfl⟩
  rw [hO] at h9
  rw [hH] at ho h4
  clear hH
  go_enter Tryd.func6, Tryd.ntmps6
  go_wp2_with fail
  refine (examples_ok _ hE).mono ?_
  rintro e w1 ⟨rfl, hb1⟩
  go_wp2_with fail
  refine (mask_yes _ _ (by omega) (by omega)).mono ?_
  rintro e w2 ⟨rfl, rfl⟩
  go_wp2_with fail
  refine (mask_yes _ _ (by omega) (by omega)).mono ?_
  rintro e w2 ⟨rfl, rfl⟩
  have s0 := Six.new w2 (.int .u32 (Ad.cut (a1 % 32) a0)) (.int .i64 (a1 % 32)) (.int .u32 (Ad.cut (a1 % 32) a0)) (.int .i64 ((a1 % 32) + 1)) (.int .u32 H) (.int .i64 ((a1 % 32) + 1))
  have B0 := hide (Below.then hb1 ((((Below.refl w2.heap.size w2).alloc (Nat.le_refl _) (.cells #[.int .u32 (Ad.cut (a1 % 32) a0), .int .i64 (a1 % 32)] 30)).alloc (by simp) (.cells #[.int .u32 (Ad.cut (a1 % 32) a0), .int .i64 ((a1 % 32) + 1)] 30)).alloc (by simp; omega) (.cells #[.int .u32 H, .int .i64 ((a1 % 32) + 1)] 30)))
  have S0 := hide s0
  clear s0 hb1
  go_wp2_with fail
  refine (has_any _ _ _ _ (by omega) (by omega)).mono ?_
  rintro e x1 ⟨rfl, hb1⟩
  have s1 := (unhide S0).on hb1
  have B1 := hide (Below.then (unhide B0) hb1)
  have S1 := hide s1
  obtain ⟨p1, q1, r1, t1, u1, v1⟩ := s1
  clear hb1 S0 B0
  go_wp2_with fail
  refine (has_any _ _ _ _ (by omega) (by omega)).mono ?_
  rintro e x2 ⟨rfl, hb2⟩
  have s2 := (unhide S1).on hb2
  have B2 := hide (Below.then (unhide B1) hb2)
  have S2 := hide s2
  obtain ⟨p2, q2, r2, t2, u2, v2⟩ := s2
  clear hb2 S1 B1
  go_wp2_with fail
  refine (has_any _ _ _ _ (by omega) (by omega)).mono ?_
  rintro e x3 ⟨rfl, hb3⟩
  have s3 := (unhide S2).on hb3
  have B3 := hide (Below.then (unhide B2) hb3)
  have S3 := hide s3
  obtain ⟨p3, q3, r3, t3, u3, v3⟩ := s3
  clear hb3 S2 B2
  go_wp2_with fail
  refine (has_any _ _ _ _ (by omega) (by omega)).mono ?_
  rintro e x4 ⟨rfl, hb4⟩
  have s4 := (unhide S3).on hb4
  have B4 := hide (Below.then (unhide B3) hb4)
  have S4 := hide s4
  obtain ⟨p4, q4, r4, t4, u4, v4⟩ := s4
  clear hb4 S3 B3
  go_wp2_with fail
  refine (has_any _ _ _ _ (by omega) (by omega)).mono ?_
  rintro e x5 ⟨rfl, hb5⟩
  have s5 := (unhide S4).on hb5
  have B5 := hide (Below.then (unhide B4) hb5)
  have S5 := hide s5
  obtain ⟨p5, q5, r5, t5, u5, v5⟩ := s5
  clear hb5 S4 B4
  go_wp2_with fail
  refine (has_any _ _ _ _ (by omega) (by omega)).mono ?_
  rintro e x6 ⟨rfl, hb6⟩
  have s6 := (unhide S5).on hb6
  have B6 := hide (Below.then (unhide B5) hb6)
  have S6 := hide s6
  obtain ⟨p6, q6, r6, t6, u6, v6⟩ := s6
  clear hb6 S5 B5
  go_wp2_with fail
  go_ret
  exact ⟨rfl, unhide B6⟩

set_option maxHeartbeats 1000000 in
set_option maxRecDepth 100000 in
theorem walk_high (a0 a1 a2 : Int) (w : World) (hE : Env w) (b0 : 0 ≤ a0) (b1 : a0 ≤ 4294967295) (c0 : 0 ≤ a1) (c1 : a1 ≤ 255) (d0 : 0 ≤ a2) (d1 : a2 ≤ 4294967295)
    (hq : (Ad.cut (a1 % 32) a2 == Ad.cut (a1 % 32) a0) = true)
    (h2 : Ad.hasB (Ad.cut (a1 % 32) a0) (a1 % 32) a2 = true)
    (h3 : Ad.hasB (Ad.cut (a1 % 32) a0) ((a1 % 32) + 1) a2 = false)
    (h4 : Ad.hasB (Ad.cut (a1 % 32) a0 + 2 ^ (31 - (a1 % 32)).toNat) ((a1 % 32) + 1) a2 = true)
    : Calls Tryd.prog 6 #[.int .u32 a0, .int .u8 a1, .int .u32 a2] w fun e w' => e = .returned (.bool true) ∧ Below w.heap.size w w' := by
  have ha := Ad.and_msk (a1 % 32) a0 (by omega) (by omega) b0 b1
  have hb := Ad.and_msk (a1 % 32) a2 (by omega) (by omega) d0 d1
  have ho := or_high (a1 % 32) a0 (by omega) (by omega) b0 b1
  have hn : bits .and .u32 (Ad.msk ((a1 % 32) + 1)) (Ad.msk (a1 % 32)) = Ad.msk (a1 % 32) := cases32 (p := fun k => bits .and .u32 (Ad.msk (k + 1)) (Ad.msk k) = Ad.msk k) next_and (a1 % 32) (by omega) (by omega)
  have h1 : Ad.hasB (Ad.cut (a1 % 32) a0) (a1 % 32) a0 = true := Ad.has_yes (by omega) (by omega) rfl
  have h9 : Ad.hasB (bits .or .u32 a0 (2 ^ (31 - (a1 % 32)).toNat % 4294967296)) (a1 % 32) a2 = false := Ad.has_no (not_own (a1 % 32) a0 a2 (by omega) (by omega) b0 b1 d0)
  obtain ⟨O, hO⟩ : ∃ O, bits .or .u32 a0 (2 ^ (31 - (a1 % 32)).toNat % 4294967296) = O := ⟨_, rfl⟩
  obtain ⟨H, hH⟩ : ∃ H, Ad.cut (a1 % 32) a0 + 2 ^ (31 - (a1 % 32)).toNat = H := ⟨_, rfl⟩
  rw [hO] at h9
  rw [hH] at ho h4
  clear hH
  go_enter Tryd.func6, Tryd.ntmps6
  go_wp2_with fail
  refine (examples_ok _ hE).mono ?_
  rintro e w1 ⟨rfl, hb1⟩
  go_wp2_with fail
  refine (mask_yes _ _ (by omega) (by omega)).mono ?_
  rintro e w2 ⟨rfl, rfl⟩
  go_wp2_with fail
  refine (mask_yes _ _ (by omega) (by omega)).mono ?_
  rintro e w2 ⟨rfl, rfl⟩
  have s0 := Six.new w2 (.int .u32 (Ad.cut (a1 % 32) a0)) (.int .i64 (a1 % 32)) (.int .u32 (Ad.cut (a1 % 32) a0)) (.int .i64 ((a1 % 32) + 1)) (.int .u32 H) (.int .i64 ((a1 % 32) + 1))
  have B0 := hide (Below.then hb1 ((((Below.refl w2.heap.size w2).alloc (Nat.le_refl _) (.cells #[.int .u32 (Ad.cut (a1 % 32) a0), .int .i64 (a1 % 32)] 30)).alloc (by simp) (.cells #[.int .u32 (Ad.cut (a1 % 32) a0), .int .i64 ((a1 % 32) + 1)] 30)).alloc (by simp; omega) (.cells #[.int .u32 H, .int .i64 ((a1 % 32) + 1)] 30)))
  have S0 := hide s0
  clear s0 hb1
  go_wp2_with fail
  refine (has_any _ _ _ _ (by omega) (by omega)).mono ?_
  rintro e x1 ⟨rfl, hb1⟩
  have s1 := (unhide S0).on hb1
  have B1 := hide (Below.then (unhide B0) hb1)
  have S1 := hide s1
  obtain ⟨p1, q1, r1, t1, u1, v1⟩ := s1
  clear hb1 S0 B0
  go_wp2_with fail
  refine (has_any _ _ _ _ (by omega) (by omega)).mono ?_
  rintro e x2 ⟨rfl, hb2⟩
  have s2 := (unhide S1).on hb2
  have B2 := hide (Below.then (unhide B1) hb2)
  have S2 := hide s2
  obtain ⟨p2, q2, r2, t2, u2, v2⟩ := s2
  clear hb2 S1 B1
  go_wp2_with fail
  refine (has_any _ _ _ _ (by omega) (by omega)).mono ?_
  rintro e x3 ⟨rfl, hb3⟩
  have s3 := (unhide S2).on hb3
  have B3 := hide (Below.then (unhide B2) hb3)
  have S3 := hide s3
  obtain ⟨p3, q3, r3, t3, u3, v3⟩ := s3
  clear hb3 S2 B2
  go_wp2_with fail
  refine (has_any _ _ _ _ (by omega) (by omega)).mono ?_
  rintro e x4 ⟨rfl, hb4⟩
  have s4 := (unhide S3).on hb4
  have B4 := hide (Below.then (unhide B3) hb4)
  have S4 := hide s4
  obtain ⟨p4, q4, r4, t4, u4, v4⟩ := s4
  clear hb4 S3 B3
  go_wp2_with fail
  refine (has_any _ _ _ _ (by omega) (by omega)).mono ?_
  rintro e x5 ⟨rfl, hb5⟩
  have s5 := (unhide S4).on hb5
  have B5 := hide (Below.then (unhide B4) hb5)
  have S5 := hide s5
  obtain ⟨p5, q5, r5, t5, u5, v5⟩ := s5
  clear hb5 S4 B4
  go_wp2_with fail
  refine (has_any _ _ _ _ (by omega) (by omega)).mono ?_
  rintro e x6 ⟨rfl, hb6⟩
  have s6 := (unhide S5).on hb6
  have B6 := hide (Below.then (unhide B5) hb6)
  have S6 := hide s6
  obtain ⟨p6, q6, r6, t6, u6, v6⟩ := s6
  clear hb6 S5 B5
  go_wp2_with fail
  go_ret
  exact ⟨rfl, unhide B6⟩

set_option maxHeartbeats 1000000 in
set_option maxRecDepth 100000 in
theorem walk (a0 : Int) (a1 : Int) (a2 : Int) (w0 : (Lit.int .u32 a0).wf = true) (w1 : (Lit.int .u8 a1).wf = true) (w2 : (Lit.int .u32 a2).wf = true) (w : World) (hE : Env w) :
    Calls Tryd.prog 6 #[.int .u32 a0, .int .u8 a1, .int .u32 a2] w fun e w' => e = .returned (.bool true) ∧ Below w.heap.size w w' := by
  have b0 : 0 ≤ a0 := (bounds_u32 w0).1
  have b1 : a0 ≤ 4294967295 := (bounds_u32 w0).2
  have c0 : 0 ≤ a1 := (bounds_u8 w1).1
  have c1 : a1 ≤ 255 := (bounds_u8 w1).2
  have d0 : 0 ≤ a2 := (bounds_u32 w2).1
  have d1 : a2 ≤ 4294967295 := (bounds_u32 w2).2
  by_cases h : Ad.cut (a1 % 32) a2 = Ad.cut (a1 % 32) a0
  · rcases halves (a1 % 32) a0 a2 (by omega) (by omega) h with ⟨h3, h4⟩ | ⟨h3, h4⟩
    · exact walk_low a0 a1 a2 w hE b0 b1 c0 c1 d0 d1 (by simp [h]) (Ad.has_yes (by omega) (by omega) h) (Ad.has_yes (by omega) (by omega) h3) (Ad.has_no h4)
    · exact walk_high a0 a1 a2 w hE b0 b1 c0 c1 d0 d1 (by simp [h]) (Ad.has_yes (by omega) (by omega) h) (Ad.has_no h3) (Ad.has_yes (by omega) (by omega) h4)
  · obtain ⟨h3, h4⟩ := neither (a1 % 32) a0 a2 (by omega) (by omega) h
    exact walk_out a0 a1 a2 w hE b0 b1 c0 c1 d0 d1 (by simp [h]) (Ad.has_no h) (Ad.has_no h3) (Ad.has_no h4)

set_option maxRecDepth 100000 in
theorem lifted (os : Os) (started : os.Started) (H : Type) (enc : TypeId × Value → H) :
    ReturnsInHanded {} Tryd.checked os 6 .any (fun w args => (Rows.addrHoldsSpec.pre enc Tryd.prog Tryd.f6 [] false w args ∧ laidMetH Tryd.prog Rows.addrHoldsRow.laid w) ∧ sizedMet enc Tryd.prog Tryd.f6 (OpenSpec.ofChange Rows.addrHoldsSpec) false w args)
      (Rows.addrHoldsSpec.post enc Tryd.prog Tryd.f6 false true false false) := by
  refine returnsInHanded_of_change_and (C := Tryd.checked) (X := fun w _ => laidMetH Tryd.prog Rows.addrHoldsRow.laid w) (fun _ _ _ hh h => h.of_heap hh) own started (by kernel_rfl) Tryd.func6
    (ChangeSpec.witness_shaped (enc := enc) (C := Tryd.checked) (os := os) (X := fun w _ => laidMetH Tryd.prog Rows.addrHoldsRow.laid w) false (World.laidAll Tryd.prog os Rows.addrTextsRow.laid) #[.int .u32 0, .int .u8 0, .int .u32 0] 8 (World.laidAll_os _ _ _)
      (laid_shaped os) (by kernel_rfl) (by kernel_rfl) (by kernel_rfl) (laid_met os _)) ?_
  intro W base args ds gs before hval0 hW _ hsz hL _
  have hval : ∀ (j : Nat) t v, Tryd.f6.params[j]? = some t → args[j]? = some v → Value.okWide Tryd.prog W .any base t v := hval0
  have hW' := hW
  obtain ⟨p, q, hA0, hV, rfl, hfz, hnd⟩ := hW
  have hA : DataW.TrodAll enc Tryd.prog W 0 (fun _ => true) true Tryd.f6.params.toList args.toList ds p := hA0
  rw [Tryd.params6] at hA hval
  obtain ⟨v0, vs0, d0, ds0, p0, q0, hargs, rfl, rfl, h0, r0⟩ := trodAll_cons hA
  obtain ⟨v1, vs1, d1, ds1, p1, q1, rfl, rfl, rfl, h1, r1⟩ := trodAll_cons r0
  obtain ⟨v2, vs2, d2, ds2, p2, q2, rfl, rfl, rfl, h2, r2⟩ := trodAll_cons r1
  obtain ⟨rfl, rfl, rfl⟩ := trodAll_nil r2
  obtain rfl : args = #[v0, v1, v2] := by cases args; simp_all
  obtain ⟨rfl, rfl⟩ := trodVars_none hV
  obtain ⟨a0, rfl, rfl, rfl, w0⟩ := open_int Tryd.underlying22 (hval 0 22 v0 rfl rfl) h0
  obtain ⟨a1, rfl, rfl, rfl, w1⟩ := open_int Tryd.underlying5 (hval 1 5 v1 rfl rfl) h1
  obtain ⟨a2, rfl, rfl, rfl, w2⟩ := open_int Tryd.underlying22 (hval 2 22 v2 rfl rfl) h2
  simp only [List.append_nil] at hW'
  refine (walk a0 a1 a2 w0 w1 w2 W (env_of hL)).mono fun e W' ⟨he, hb⟩ => ?_
  subst he
  exact ⟨_, rfl, _, _, _, [], [], [], hW', (trodAll_cons_mk (shut_bool Tryd.underlying4 _) trodAll_mk0), (trodAll_cons_mk (shut_int Tryd.underlying22 w0) (trodAll_cons_mk (shut_int Tryd.underlying5 w1) (trodAll_cons_mk (shut_int Tryd.underlying22 w2) trodAll_mk0))), rfl, hb.frame _, fun h => by cases h⟩

theorem over : Rows.addrHoldsRow.holds Tryd.pinned (OpenSpec.ofChange Rows.addrHoldsSpec) :=
  OpenClaim.holds_of_wide 6 Tryd.f6 rfl rfl rfl rfl rfl rfl rfl ⟨rfl, rfl, rfl, rfl, rfl⟩ rfl rfl rfl rfl rfl (by kernel_rfl) Tryd.func6 (by kernel_rfl)
    (of_decide_eq_true (by kernel_rfl)) (by unfold Func.isWrapper; first | (rw [if_pos (by decide +kernel)]; kernel_rfl) | (rw [if_neg (by decide +kernel)]; exact ⟨rfl, rfl⟩))
    (fun os started H enc _ => lifted os started H enc)

theorem proved : Rows.AddrHoldsCardSaid :=
  Claim7.holds_tied_plain_at .later [] [.data, .data, .data, .data, .sentinel, .sentinel, .pinned] true (true, "175afbf1b3771384037ba59ab58552f86875b3316abe2b1edeec32f6b76d1a09") true over (fun _ h => by cases h) (by kernel_rfl) (fun _ h => by cases h) addrHolds_row_tie rfl ⟨rfl, rfl⟩ (by kernel_rfl) rfl
    (fun f fn hf hfn => by
      obtain rfl : f = 6 := Option.some.inj ((show Tryd.prog.funcNamed Rows.addrHoldsRow.func = some 6 by kernel_rfl).symm.trans hf) |>.symm
      obtain rfl : fn = Tryd.f6 := (Option.some.inj (Tryd.func6.symm.trans hfn)).symm
      exact ⟨by kernel_rfl, fun j t ht => by
        rw [Tryd.params6] at ht
        have hm : t ∈ [22, 5, 22] := by simpa using Array.mem_of_getElem? ht
        have hall : ([22, 5, 22].all fun u => !Tryd.prog.wantsStandIn u) = true := by kernel_rfl
        exact (show Tryd.prog.wantsStandIn t = false by simpa using List.all_eq_true.1 hall t hm)⟩)
    (by kernel_rfl)
#print axioms proved
end Go.Proofs.YtnnhkjjnolhaoaaDoor.addrHolds
