/- Numbers of 64 bits, and bytes as such, the lowest first: nothing of the program is in here. -/
import Derived.WalkKit
import Derived.ProofKit
import Derived.Laws.Bits64
import Derived.Laws.BitsAllLaws
import Derived.Laws.BytesArg
namespace Go.Proofs.Ytbncjinkojeioaa.Sp
open Go.RowKit

abbrev B := BitVec 64
/-- A number of 64 bits as the walk has it. -/
def nn (x : B) : Int := (x.toNat : Int)
theorem nn_lo (x : B) : 0 ≤ nn x := Int.natCast_nonneg _
theorem nn_hi (x : B) : nn x < 18446744073709551616 := by unfold nn; have := x.isLt; omega
theorem nn_inj {x y : B} (h : nn x = nn y) : x = y := BitVec.eq_of_toNat_eq (by unfold nn at h; omega)
theorem nn_beq (x y : B) : (nn x == nn y) = (x == y) := by
  by_cases h : x = y
  · rw [h, beq_self_eq_true, beq_self_eq_true]
  · rw [beq_eq_false_iff_ne.2 h, beq_eq_false_iff_ne.2 fun e => h (nn_inj e)]
/-- What came in. -/
theorem nn_of (z : Int) (h0 : 0 ≤ z) (h1 : z < 18446744073709551616) : ∃ x : B, nn x = z := ⟨BitVec.ofNat 64 z.toNat, by unfold nn; rw [BitVec.toNat_ofNat]; omega⟩
theorem nn_ofNat (n : Nat) (h : n < 18446744073709551616) : nn (BitVec.ofNat 64 n) = n := by unfold nn; rw [BitVec.toNat_ofNat]; omega
theorem wrap_add (x y : B) : IntKind.u64.wrap (nn x + nn y) = nn (x + y) := by
  rw [IntKind.wrap_u64]; unfold nn; rw [BitVec.toNat_add]; omega
theorem wrap_mul (x y : B) : IntKind.u64.wrap (nn x * nn y) = nn (x * y) := by
  rw [IntKind.wrap_u64]; unfold nn; rw [BitVec.toNat_mul, ← Int.natCast_mul]; omega
theorem xor_nn (x y : B) : bits .xor .u64 (nn x) (nn y) = nn (x ^^^ y) := by
  unfold nn; rw [bits_xor_u64_nat _ _ (by have := x.isLt; omega) (by have := y.isLt; omega), BitVec.toNat_xor]
theorem or_nn (x y : B) : bits .or .u64 (nn x) (nn y) = nn (x ||| y) := by
  unfold nn; rw [u64_or_nat _ _ (by have := x.isLt; omega) (by have := y.isLt; omega), BitVec.toNat_or]
theorem shr_nn (x : B) (k : Nat) : nn x / ((2 ^ k : Nat) : Int) = nn (x >>> k) := by
  unfold nn; rw [BitVec.toNat_ushiftRight, Nat.shiftRight_eq_div_pow]; omega
theorem shl_nn (x : B) (k : Nat) : IntKind.u64.wrap (nn x * ((2 ^ k : Nat) : Int)) = nn (x <<< k) := by
  rw [IntKind.wrap_u64]; unfold nn; rw [BitVec.toNat_shiftLeft, Nat.shiftLeft_eq, ← Int.natCast_mul]; omega
/-- Turned left. -/
def rotl (x : B) (k : Nat) : B := x <<< k ||| x >>> (64 - k)
theorem rotl_nn (x : B) (k : Nat) : bits .or .u64 (IntKind.u64.wrap (nn x * ((2 ^ k : Nat) : Int))) (nn x / ((2 ^ (64 - k) : Nat) : Int)) = nn (rotl x k) := by
  rw [shl_nn, shr_nn, or_nn]; rfl
/-- The turns of a round. -/
def Turn (c : Int) (k : Nat) : Prop := c = 13 ∧ k = 13 ∨ c = 16 ∧ k = 16 ∨ c = 17 ∧ k = 17 ∨ c = 21 ∧ k = 21 ∨ c = 32 ∧ k = 32

/-- Mix. -/
def mix0 (k b : B) : B := k + 0x9e3779b97f4a7c15#64 * (b + 1#64)
def mix1 (x : B) : B := (x ^^^ x >>> 30) * 0xbf58476d1ce4e5b9#64
def mix2 (x : B) : B := (x ^^^ x >>> 27) * 0x94d049bb133111eb#64
def mix3 (x : B) : B := x ^^^ x >>> 31
def mix (k b : B) : B := mix3 (mix2 (mix1 (mix0 k b)))
theorem m_b1 (b : B) : IntKind.u64.wrap (nn b + 1) = nn (b + 1#64) := wrap_add b 1#64
theorem m_st (c : B) : IntKind.u64.wrap (11400714819323198485 * nn c) = nn (0x9e3779b97f4a7c15#64 * c) := wrap_mul 0x9e3779b97f4a7c15#64 c
theorem m_m1 (x : B) : IntKind.u64.wrap (bits .xor .u64 (nn x) (nn x / 1073741824) * 13787848793156543929) = nn (mix1 x) := by
  have e : nn x / (1073741824 : Int) = nn (x >>> 30) := shr_nn x 30
  rw [e, xor_nn]; exact wrap_mul _ 0xbf58476d1ce4e5b9#64
theorem m_m2 (x : B) : IntKind.u64.wrap (bits .xor .u64 (nn x) (nn x / 134217728) * 10723151780598845931) = nn (mix2 x) := by
  have e : nn x / (134217728 : Int) = nn (x >>> 27) := shr_nn x 27
  rw [e, xor_nn]; exact wrap_mul _ 0x94d049bb133111eb#64
theorem m_m3 (x : B) : bits .xor .u64 (nn x) (nn x / 2147483648) = nn (mix3 x) := by
  have e : nn x / (2147483648 : Int) = nn (x >>> 31) := shr_nn x 31
  rw [e, xor_nn]; rfl

/-- x, xor itself moved right by n, is one to one. -/
theorem shift_inj (n : Nat) (h0 : 0 < n) (x y : B) (h : x ^^^ x >>> n = y ^^^ y >>> n) : x = y := by
  have hb : ∀ i, x.getLsbD i = y.getLsbD i := by
    have main : ∀ j i, 64 - i ≤ j → x.getLsbD i = y.getLsbD i := by
      intro j
      induction j with
      | zero => intro i hi; rw [BitVec.getLsbD_of_ge _ _ (by omega), BitVec.getLsbD_of_ge _ _ (by omega)]
      | succ j ih =>
        intro i hi
        by_cases hlt : i < 64
        · have e := congrArg (fun z => BitVec.getLsbD z i) h
          simp only [BitVec.getLsbD_xor, BitVec.getLsbD_ushiftRight] at e
          rw [ih (n + i) (by omega)] at e
          exact Bool.xor_right_inj.1 (by rw [Bool.xor_comm, e, Bool.xor_comm])
        · rw [BitVec.getLsbD_of_ge _ _ (by omega), BitVec.getLsbD_of_ge _ _ (by omega)]
    intro i
    exact main (64 - i) i (Nat.le_refl _)
  exact BitVec.eq_of_getLsbD_eq fun i _ => hb i
theorem mul_inj (f g : B) (hfg : f * g = 1#64) (x y : B) (h : x * f = y * f) : x = y := by
  have e := congrArg (fun z => z * g) h
  simp only [BitVec.mul_assoc, hfg, BitVec.mul_one] at e
  exact e
theorem mix_inj (x y : B) (h : mix3 (mix2 (mix1 x)) = mix3 (mix2 (mix1 y))) : x = y :=
  shift_inj 30 (by decide) _ _ (mul_inj 0xbf58476d1ce4e5b9#64 0x96de1b173f119089#64 (by decide +kernel) _ _
    (shift_inj 27 (by decide) _ _ (mul_inj 0x94d049bb133111eb#64 0x319642b2d24d8ec3#64 (by decide +kernel) _ _ (shift_inj 31 (by decide) _ _ h))))
theorem add_right (a b c : B) : (a + c = b + c) ↔ a = b := BitVec.add_left_inj c
theorem mix_k (k l b : B) : (mix k b == mix l b) = (k == l) := by
  by_cases h : k = l
  · rw [h, beq_self_eq_true, beq_self_eq_true]
  · exact (beq_eq_false_iff_ne.2 fun e => h ((add_right _ _ _).1 (mix_inj _ _ e))).trans (beq_eq_false_iff_ne.2 h).symm
theorem mix_b (k b c : B) : (mix k b == mix k c) = (b == c) := by
  by_cases h : b = c
  · rw [h, beq_self_eq_true, beq_self_eq_true]
  · refine (beq_eq_false_iff_ne.2 fun e => h ?_).trans (beq_eq_false_iff_ne.2 h).symm
    have e2 := mix_inj _ _ e
    unfold mix0 at e2
    rw [BitVec.add_comm k, BitVec.add_comm k] at e2
    have e3 := (add_right _ _ _).1 e2
    rw [BitVec.mul_comm _ (b + 1#64), BitVec.mul_comm _ (c + 1#64)] at e3
    exact (add_right _ _ _).1 (mul_inj 0x9e3779b97f4a7c15#64 0xf1de83e19937733d#64 (by decide +kernel) _ _ e3)
end Go.Proofs.Ytbncjinkojeioaa.Sp
