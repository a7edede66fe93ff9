/- Mix in both packages. -/
import Derived.Test.YtckkdgifjgkoaaaChecked
import Derived.Test.YtckkdgifjgkoaaaSpMath
import Derived.WalkKit
import Derived.ProofKit
import Derived.OpenShut
import Derived.WalkSpells
import Derived.WalkLawsBesides
import Derived.Handy
namespace Go.Proofs.Ytckkdgifjgkoaaa
open Go.ChangeShapes Go.WideShapes Go.ChangeAt Go.RowKit Sp

theorem ret_u64 {a b : Int} (h : a = b) : Ending.returned (.int .u64 a) = .returned (.int .u64 b) := by rw [h]
set_option maxHeartbeats 400000 in
theorem mix_any (k b : Sp.B) (w : World) :
    Calls Try.prog 72 #[.int .u64 (nn k), .int .u64 (nn b)] w fun e w' => e = .returned (.int .u64 (nn (mix k b))) ∧ w' = w := by
  obtain ⟨b1, e1, f1⟩ : ∃ b1, IntKind.u64.wrap (nn b + 1) = nn b1 ∧ b1 = b + 1#64 := ⟨_, m_b1 b, rfl⟩
  obtain ⟨b2, e2, f2⟩ : ∃ b2, IntKind.u64.wrap (11400714819323198485 * nn b1) = nn b2 ∧ b2 = 0x9e3779b97f4a7c15#64 * b1 := ⟨_, m_st b1, rfl⟩
  obtain ⟨x0, e3, f3⟩ : ∃ x0, IntKind.u64.wrap (nn k + nn b2) = nn x0 ∧ x0 = k + b2 := ⟨_, wrap_add k b2, rfl⟩
  obtain ⟨x1, e4, f4⟩ : ∃ x1, IntKind.u64.wrap (bits .xor .u64 (nn x0) (nn x0 / 1073741824) * 13787848793156543929) = nn x1 ∧ x1 = mix1 x0 := ⟨_, m_m1 x0, rfl⟩
  obtain ⟨x2, e5, f5⟩ : ∃ x2, IntKind.u64.wrap (bits .xor .u64 (nn x1) (nn x1 / 134217728) * 10723151780598845931) = nn x2 ∧ x2 = mix2 x1 := ⟨_, m_m2 x1, rfl⟩
  obtain ⟨x3, e6, f6⟩ : ∃ x3, bits .xor .u64 (nn x2) (nn x2 / 2147483648) = nn x3 ∧ x3 = mix3 x2 := ⟨_, m_m3 x2, rfl⟩
  have HM : Hid (x3 = mix k b) := by show _ = _; rw [f6, f5, f4, f3, f2, f1]; rfl
  clear f1 f2 f3 f4 f5 f6
  go_enter Try.func72, Try.ntmps72
  go_wp2_with fail
  go_ret
  exact ⟨ret_u64 (by rw [HM.out]), rfl⟩
set_option maxHeartbeats 400000 in
theorem rmix_any (k b : Sp.B) (w : World) :
    Calls Try.prog 65 #[.int .u64 (nn k), .int .u64 (nn b)] w fun e w' => e = .returned (.int .u64 (nn (mix k b))) ∧ w' = w := by
  obtain ⟨b1, e1, f1⟩ : ∃ b1, IntKind.u64.wrap (nn b + 1) = nn b1 ∧ b1 = b + 1#64 := ⟨_, m_b1 b, rfl⟩
  obtain ⟨b2, e2, f2⟩ : ∃ b2, IntKind.u64.wrap (11400714819323198485 * nn b1) = nn b2 ∧ b2 = 0x9e3779b97f4a7c15#64 * b1 := ⟨_, m_st b1, rfl⟩
  obtain ⟨x0, e3, f3⟩ : ∃ x0, IntKind.u64.wrap (nn k + nn b2) = nn x0 ∧ x0 = k + b2 := ⟨_, wrap_add k b2, rfl⟩
  obtain ⟨x1, e4, f4⟩ : ∃ x1, IntKind.u64.wrap (bits .xor .u64 (nn x0) (nn x0 / 1073741824) * 13787848793156543929) = nn x1 ∧ x1 = mix1 x0 := ⟨_, m_m1 x0, rfl⟩
  obtain ⟨x2, e5, f5⟩ : ∃ x2, IntKind.u64.wrap (bits .xor .u64 (nn x1) (nn x1 / 134217728) * 10723151780598845931) = nn x2 ∧ x2 = mix2 x1 := ⟨_, m_m2 x1, rfl⟩
  obtain ⟨x3, e6, f6⟩ : ∃ x3, bits .xor .u64 (nn x2) (nn x2 / 2147483648) = nn x3 ∧ x3 = mix3 x2 := ⟨_, m_m3 x2, rfl⟩
  have HM : Hid (x3 = mix k b) := by show _ = _; rw [f6, f5, f4, f3, f2, f1]; rfl
  clear f1 f2 f3 f4 f5 f6
  go_enter Try.func65, Try.ntmps65
  go_wp2_with fail
  go_ret
  exact ⟨ret_u64 (by rw [HM.out]), rfl⟩

/-- What a key is mixed to with a number. -/
def gmix (k : Sp.B) (b : Nat) : Nat := (mix k (BitVec.ofNat 64 b)).toNat
theorem gmix_lt (k : Sp.B) (b : Nat) : gmix k b < 18446744073709551616 := (mix k (BitVec.ofNat 64 b)).isLt
theorem mix_num (k : Sp.B) (b : Nat) (hb : b < 18446744073709551616) (w : World) :
    Calls Try.prog 72 #[.int .u64 (nn k), .int .u64 (b : Int)] w fun e w' => e = .returned (.int .u64 (gmix k b : Int)) ∧ w' = w := by
  have h := mix_any k (BitVec.ofNat 64 b) w
  rw [nn_ofNat b hb] at h
  exact h
theorem rmix_num (k : Sp.B) (b : Nat) (hb : b < 18446744073709551616) (w : World) :
    Calls Try.prog 65 #[.int .u64 (nn k), .int .u64 (b : Int)] w fun e w' => e = .returned (.int .u64 (gmix k b : Int)) ∧ w' = w := by
  have h := rmix_any k (BitVec.ofNat 64 b) w
  rw [nn_ofNat b hb] at h
  exact h
set_option maxHeartbeats 400000 in
theorem pick_any (k : Sp.B) (b n : Nat) (hb : b < 1000000) (h0 : 0 < n) (hn : n < 1000000) (w : World) :
    Calls Try.prog 56 #[.int .u64 (nn k), .int .i64 (b : Int), .int .i64 (n : Int)] w fun e w' => e = .returned (.int .i64 ((gmix k b % n : Nat) : Int)) ∧ w' = w := by
  have hg := gmix_lt k b
  have hm := mix_num k b (by omega)
  have hlt : gmix k b % n < n := Nat.mod_lt _ h0
  generalize gmix k b = G at *
  have hb1 : (b : Int) < 1000000 := by omega
  have hn1 : (n : Int) < 1000000 := by omega
  have hn0 : (0 : Int) < n := by omega
  have hn2 : ¬ (n : Int) = 0 := by omega
  have hG : (G : Int) < 18446744073709551616 := by omega
  have e1 : (G : Int).tmod (n : Int) = ((G % n : Nat) : Int) := by rw [← Int.ofNat_tmod]
  have hlt1 : ((G % n : Nat) : Int) < 1000000 := by omega
  generalize G % n = R at *
  go_enter Try.func56, Try.ntmps56
  go_wp2_with fail
  refine (hm _).mono ?_
  rintro e w2 ⟨rfl, rfl⟩
  go_wp2_with fail
  go_ret
  exact ⟨rfl, rfl⟩
end Go.Proofs.Ytckkdgifjgkoaaa
