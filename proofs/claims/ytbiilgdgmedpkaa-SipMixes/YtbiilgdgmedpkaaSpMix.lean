/- Mix, and turning left, in both packages. -/
import Derived.Test.YtbiilgdgmedpkaaChecked
import Derived.Test.YtbiilgdgmedpkaaSpMath
import Derived.WalkKit
import Derived.ProofKit
import Derived.OpenShut
import Derived.WalkSpells
import Derived.WalkLawsBesides
import Derived.Handy
namespace Go.Proofs.Ytbiilgdgmedpkaa
open Go.ChangeShapes Go.WideShapes Go.ChangeAt Go.RowKit Sp

theorem ret_u64 {a b : Int} (h : a = b) : Ending.returned (.int .u64 a) = .returned (.int .u64 b) := by rw [h]
set_option maxHeartbeats 400000 in
theorem mix_any (k b : Sp.B) (w : World) :
    Calls Try.prog 12 #[.int .u64 (nn k), .int .u64 (nn b)] w fun e w' => e = .returned (.int .u64 (nn (mix k b))) ∧ w' = w := by
  obtain ⟨b1, e1, f1⟩ : ∃ b1, IntKind.u64.wrap (nn b + 1) = nn b1 ∧ b1 = b + 1#64 := ⟨_, m_b1 b, rfl⟩
  obtain ⟨b2, e2, f2⟩ : ∃ b2, IntKind.u64.wrap (11400714819323198485 * nn b1) = nn b2 ∧ b2 = 0x9e3779b97f4a7c15#64 * b1 := ⟨_, m_st b1, rfl⟩
  obtain ⟨x0, e3, f3⟩ : ∃ x0, IntKind.u64.wrap (nn k + nn b2) = nn x0 ∧ x0 = k + b2 := ⟨_, wrap_add k b2, rfl⟩
  obtain ⟨x1, e4, f4⟩ : ∃ x1, IntKind.u64.wrap (bits .xor .u64 (nn x0) (nn x0 / 1073741824) * 13787848793156543929) = nn x1 ∧ x1 = mix1 x0 := ⟨_, m_m1 x0, rfl⟩
  obtain ⟨x2, e5, f5⟩ : ∃ x2, IntKind.u64.wrap (bits .xor .u64 (nn x1) (nn x1 / 134217728) * 10723151780598845931) = nn x2 ∧ x2 = mix2 x1 := ⟨_, m_m2 x1, rfl⟩
  obtain ⟨x3, e6, f6⟩ : ∃ x3, bits .xor .u64 (nn x2) (nn x2 / 2147483648) = nn x3 ∧ x3 = mix3 x2 := ⟨_, m_m3 x2, rfl⟩
  have HM : Hid (x3 = mix k b) := by show _ = _; rw [f6, f5, f4, f3, f2, f1]; rfl
  clear f1 f2 f3 f4 f5 f6
  go_enter Try.func12, Try.ntmps12
  go_wp2_with fail
  go_ret
  exact ⟨ret_u64 (by rw [HM.out]), rfl⟩
set_option maxHeartbeats 400000 in
theorem rmix_any (k b : Sp.B) (w : World) :
    Calls Try.prog 13 #[.int .u64 (nn k), .int .u64 (nn b)] w fun e w' => e = .returned (.int .u64 (nn (mix k b))) ∧ w' = w := by
  obtain ⟨b1, e1, f1⟩ : ∃ b1, IntKind.u64.wrap (nn b + 1) = nn b1 ∧ b1 = b + 1#64 := ⟨_, m_b1 b, rfl⟩
  obtain ⟨b2, e2, f2⟩ : ∃ b2, IntKind.u64.wrap (11400714819323198485 * nn b1) = nn b2 ∧ b2 = 0x9e3779b97f4a7c15#64 * b1 := ⟨_, m_st b1, rfl⟩
  obtain ⟨x0, e3, f3⟩ : ∃ x0, IntKind.u64.wrap (nn k + nn b2) = nn x0 ∧ x0 = k + b2 := ⟨_, wrap_add k b2, rfl⟩
  obtain ⟨x1, e4, f4⟩ : ∃ x1, IntKind.u64.wrap (bits .xor .u64 (nn x0) (nn x0 / 1073741824) * 13787848793156543929) = nn x1 ∧ x1 = mix1 x0 := ⟨_, m_m1 x0, rfl⟩
  obtain ⟨x2, e5, f5⟩ : ∃ x2, IntKind.u64.wrap (bits .xor .u64 (nn x1) (nn x1 / 134217728) * 10723151780598845931) = nn x2 ∧ x2 = mix2 x1 := ⟨_, m_m2 x1, rfl⟩
  obtain ⟨x3, e6, f6⟩ : ∃ x3, bits .xor .u64 (nn x2) (nn x2 / 2147483648) = nn x3 ∧ x3 = mix3 x2 := ⟨_, m_m3 x2, rfl⟩
  have HM : Hid (x3 = mix k b) := by show _ = _; rw [f6, f5, f4, f3, f2, f1]; rfl
  clear f1 f2 f3 f4 f5 f6
  go_enter Try.func13, Try.ntmps13
  go_wp2_with fail
  go_ret
  exact ⟨ret_u64 (by rw [HM.out]), rfl⟩
set_option maxHeartbeats 400000 in
theorem rot_any (x : Sp.B) (c : Int) (k : Nat) (h : Turn c k) (w : World) :
    Calls Try.prog 24 #[.int .u64 (nn x), .int .i64 c] w fun e w' => e = .returned (.int .u64 (nn (rotl x k))) ∧ w' = w := by
  have a13 : bits .and .u64 13 63 = 13 := by decide
  have a16 : bits .and .u64 16 63 = 16 := by decide
  have a17 : bits .and .u64 17 63 = 17 := by decide
  have a21 : bits .and .u64 21 63 = 21 := by decide
  have a32 : bits .and .u64 32 63 = 32 := by decide
  rcases h with ⟨rfl, rfl⟩ | ⟨rfl, rfl⟩ | ⟨rfl, rfl⟩ | ⟨rfl, rfl⟩ | ⟨rfl, rfl⟩
  · go_enter Try.func24, Try.ntmps24
    go_wp2_with fail
    go_ret
    exact ⟨ret_u64 (rotl_nn x 13), rfl⟩
  · go_enter Try.func24, Try.ntmps24
    go_wp2_with fail
    go_ret
    exact ⟨ret_u64 (rotl_nn x 16), rfl⟩
  · go_enter Try.func24, Try.ntmps24
    go_wp2_with fail
    go_ret
    exact ⟨ret_u64 (rotl_nn x 17), rfl⟩
  · go_enter Try.func24, Try.ntmps24
    go_wp2_with fail
    go_ret
    exact ⟨ret_u64 (rotl_nn x 21), rfl⟩
  · go_enter Try.func24, Try.ntmps24
    go_wp2_with fail
    go_ret
    exact ⟨ret_u64 (rotl_nn x 32), rfl⟩
set_option maxHeartbeats 400000 in
theorem left_any (x : Sp.B) (c : Int) (k : Nat) (h : Turn c k) (w : World) :
    Calls Try.prog 22 #[.int .u64 (nn x), .int .u64 c] w fun e w' => e = .returned (.int .u64 (nn (rotl x k))) ∧ w' = w := by
  rcases h with ⟨rfl, rfl⟩ | ⟨rfl, rfl⟩ | ⟨rfl, rfl⟩ | ⟨rfl, rfl⟩ | ⟨rfl, rfl⟩
  · go_enter Try.func22, Try.ntmps22
    go_wp2_with fail
    go_ret
    exact ⟨ret_u64 (rotl_nn x 13), rfl⟩
  · go_enter Try.func22, Try.ntmps22
    go_wp2_with fail
    go_ret
    exact ⟨ret_u64 (rotl_nn x 16), rfl⟩
  · go_enter Try.func22, Try.ntmps22
    go_wp2_with fail
    go_ret
    exact ⟨ret_u64 (rotl_nn x 17), rfl⟩
  · go_enter Try.func22, Try.ntmps22
    go_wp2_with fail
    go_ret
    exact ⟨ret_u64 (rotl_nn x 21), rfl⟩
  · go_enter Try.func22, Try.ntmps22
    go_wp2_with fail
    go_ret
    exact ⟨ret_u64 (rotl_nn x 32), rfl⟩
end Go.Proofs.Ytbiilgdgmedpkaa
