/- What Name computes, of any number; and what the reference's Name computes: the same. -/
import Derived.Test.YtgfmpcfdggcifaaTcBase
import Derived.Test.YtgfmpcfdggcifaaMath
import Derived.Laws.RangeString
import Derived.Laws.BitsLemmas
namespace Go.Proofs.Ytgfmpcfdggcifaa
open Go.ChangeShapes Go.WideShapes Go.ChangeAt Go.RowKit

def lets : ByteArray := ⟨#[70, 83, 82, 80, 65, 85]⟩
theorem lets_size : lets.size = 6 := rfl
def letter : Nat → UInt8
  | 0 => 70 | 1 => 83 | 2 => 82 | 3 => 80 | 4 => 65 | _ => 85
/-- The letters of the first i flags. -/
def nameN (f : Int) : Nat → ByteArray
  | 0 => ⟨#[]⟩
  | i + 1 => if f / 2 ^ i % 2 = 1 then nameN f i ++ ⟨#[letter i]⟩ else nameN f i
theorem nameN_size (f : Int) : ∀ i, (nameN f i).size ≤ i
  | 0 => Nat.le_refl _
  | i + 1 => by
    unfold nameN
    have := nameN_size f i
    split
    · rw [ByteArray.size_append]; have : (ByteArray.mk #[letter i]).size = 1 := rfl; omega
    · omega
theorem and1_any (x : Int) : bits .and .i64 x 1 = x % 2 := by
  have h : (BitVec.ofInt 64 x &&& BitVec.ofInt 64 1).toNat = (x % 18446744073709551616).toNat % 2 := by
    rw [BitVec.toNat_and, BitVec.toNat_ofInt]
    show (x % 18446744073709551616).toNat &&& 1 = _
    exact Nat.and_one_is_mod _
  show IntKind.i64.wrap ((BitVec.ofInt 64 x &&& BitVec.ofInt 64 1).toNat : Int) = _
  rw [h, IntKind.wrap_i64]
  omega
theorem low_or (k y : Int) (h0 : 0 ≤ k) (h1 : k < 64) (hy : y % 64 = 0) : bits .or .i64 k y % 64 = k := by
  obtain ⟨a, rfl⟩ := Int.eq_ofNat_of_zero_le h0
  have h : (BitVec.ofInt 64 (a : Int) ||| BitVec.ofInt 64 y).toNat = (y % 18446744073709551616).toNat + a := by
    rw [BitVec.toNat_or, BitVec.toNat_ofInt, BitVec.toNat_ofInt]
    have e1 : ((a : Int) % ((2 ^ 64 : Nat) : Int)).toNat = a := by omega
    rw [e1]
    show a ||| (y % 18446744073709551616).toNat = _
    obtain ⟨m, hm⟩ : ∃ m : Nat, (y % 18446744073709551616).toNat = 2 ^ 6 * m := ⟨(y % 18446744073709551616).toNat / 64, by omega⟩
    rw [hm, Nat.or_comm, ← Nat.two_pow_add_eq_or_of_lt (by omega : a < 2 ^ 6) m]
  show IntKind.i64.wrap ((BitVec.ofInt 64 (a : Int) ||| BitVec.ofInt 64 y).toNat : Int) % 64 = _
  rw [h, IntKind.wrap_i64]
  omega
theorem bit_low (f : Int) (i : Nat) (hi : i < 6) : f % 64 / 2 ^ i % 2 = f / 2 ^ i % 2 := by
  have h : i = 0 ∨ i = 1 ∨ i = 2 ∨ i = 3 ∨ i = 4 ∨ i = 5 := by omega
  rcases h with rfl | rfl | rfl | rfl | rfl | rfl <;> simp only [Int.pow_zero, Int.pow_succ] <;> omega
theorem nameN_low (f : Int) : ∀ i, i ≤ 6 → nameN (f % 64) i = nameN f i
  | 0, _ => rfl
  | i + 1, hi => by rw [nameN, nameN, nameN_low f i (by omega), bit_low f i (by omega)]
theorem conv_let0 (W : World) : (convert 21 9 (.int .i32 70)).run Try.prog W = .ok (.string ⟨#[70]⟩) W := by kernel_rfl
theorem conv_let1 (W : World) : (convert 21 9 (.int .i32 83)).run Try.prog W = .ok (.string ⟨#[83]⟩) W := by kernel_rfl
theorem conv_let2 (W : World) : (convert 21 9 (.int .i32 82)).run Try.prog W = .ok (.string ⟨#[82]⟩) W := by kernel_rfl
theorem conv_let3 (W : World) : (convert 21 9 (.int .i32 80)).run Try.prog W = .ok (.string ⟨#[80]⟩) W := by kernel_rfl
theorem conv_let4 (W : World) : (convert 21 9 (.int .i32 65)).run Try.prog W = .ok (.string ⟨#[65]⟩) W := by kernel_rfl
theorem conv_let5 (W : World) : (convert 21 9 (.int .i32 85)).run Try.prog W = .ok (.string ⟨#[85]⟩) W := by kernel_rfl
theorem conv_let (i : Nat) (hi : i < 6) (W : World) : (convert 21 9 (.int .i32 ((letter i).toNat : Int))).run Try.prog W = .ok (.string ⟨#[letter i]⟩) W := by
  have h : i = 0 ∨ i = 1 ∨ i = 2 ∨ i = 3 ∨ i = 4 ∨ i = 5 := by omega
  rcases h with rfl | rfl | rfl | rfl | rfl | rfl
  · exact conv_let0 W
  · exact conv_let1 W
  · exact conv_let2 W
  · exact conv_let3 W
  · exact conv_let4 W
  · exact conv_let5 W
theorem next_let (i : Nat) (hi : i < 6) (w : World) (ty : TypeId) : (Instr.next (.pointer (some ⟨w.heap.size, 0, none⟩)) true ty).run Try.prog (w.iter lets i) = .ok (.tuple #[.bool true, .int .i64 i, .int .i32 ((letter i).toNat : Int)]) (w.iter lets (i + 1)) := by
  have h : i = 0 ∨ i = 1 ∨ i = 2 ∨ i = 3 ∨ i = 4 ∨ i = 5 := by omega
  rcases h with rfl | rfl | rfl | rfl | rfl | rfl <;> exact run_next_ascii (P := Try.prog) w lets _ ty (by decide) (by decide)

set_option maxHeartbeats 1000000 in
set_option maxRecDepth 100000 in
theorem name_any (f : Int) (w : World) :
    Calls Try.prog 18 #[.int .i64 f] w fun e w' => e = .returned (.string (nameN f 6)) ∧ Below w.heap.size w w' := by
  have hlets : (⟨#[70, 83, 82, 80, 65, 85]⟩ : ByteArray) = lets := rfl
  go_enter Try.func18, Try.ntmps18
  go_wp2
  go_loopw [3] (fun n w' => ∃ i : Nat, i ≤ 6 ∧ w' = w.iter lets i ∧ n = .string (nameN f i)) (fun _ w' => 6 - w'.iterPos w.heap.size)
  case atStart => exact ⟨0, Nat.zero_le _, rfl, rfl⟩
  case round =>
    obtain ⟨i, hi, rfl, rfl⟩ := hrel
    by_cases he : i = 6
    · subst he
      have hnx : ∀ ty, (Instr.next (.pointer (some ⟨w.heap.size, 0, none⟩)) true ty).run Try.prog (w.iter lets 6) = _ := fun ty => run_next_end w lets 6 ty (by decide)
      go_wp2
      go_ret
      exact ⟨rfl, (Below.refl _ _).alloc (Nat.le_refl _) _⟩
    · have h1 : i < 6 := by omega
      have hnx : ∀ ty, (Instr.next (.pointer (some ⟨w.heap.size, 0, none⟩)) true ty).run Try.prog (w.iter lets i) = _ := fun ty => next_let i h1 w ty
      have hcv := conv_let i h1
      have ha1 := and1_any (f / 2 ^ i)
      have hsz := nameN_size f i
      have HN : Hid (nameN f (i + 1) = if f / 2 ^ i % 2 = 1 then nameN f i ++ ⟨#[letter i]⟩ else nameN f i) := rfl
      have ha := fun (wx : World) => run_string_add_sum (P := Try.prog) (w := wx) (nameN f i) ⟨#[letter i]⟩ (by have : (ByteArray.mk #[letter i]).size = 1 := rfl; omega)
      generalize nameN f i = T at *
      by_cases hb : f / 2 ^ i % 2 = 1
      · have HN2 : Hid (T ++ ⟨#[letter i]⟩ = nameN f (i + 1)) := by show _ = _; rw [HN.out, if_pos hb]
        go_wp2
        go_roundw
        case rel => exact ⟨i + 1, by omega, rfl, by rw [HN2.out]⟩
        case measure => simp; omega
      · have HN2 : Hid (T = nameN f (i + 1)) := by show _ = _; rw [HN.out, if_neg hb]
        have hb0 : f / 2 ^ i % 2 = 0 := by omega
        go_wp2
        go_roundw
        case rel => exact ⟨i + 1, by omega, rfl, by rw [HN2.out]⟩
        case measure => simp; omega

theorem slice_let (i : Nat) (hi : i < 6) : lets.extract i (i + 1) = ⟨#[letter i]⟩ := by
  have h : i = 0 ∨ i = 1 ∨ i = 2 ∨ i = 3 ∨ i = 4 ∨ i = 5 := by omega
  rcases h with rfl | rfl | rfl | rfl | rfl | rfl <;> decide

set_option maxHeartbeats 1000000 in
set_option maxRecDepth 100000 in
theorem rname_any (f : Int) (w : World) :
    Calls Try.prog 19 #[.int .i64 f] w fun e w' => e = .returned (.string (nameN f 6)) ∧ w' = w := by
  have hlets : (⟨#[70, 83, 82, 80, 65, 85]⟩ : ByteArray) = lets := rfl
  have hls := lets_size
  go_enter Try.func19, Try.ntmps19
  go_wp2
  go_loop [3, 4] (fun n t => ∃ i : Nat, i ≤ 6 ∧ t = .int .i64 i ∧ n = .string (nameN f i)) (fun _ t => 6 - (intOf t).toNat)
  case atStart => exact ⟨0, Nat.zero_le _, rfl, rfl⟩
  case round =>
    obtain ⟨i, hi, rfl, rfl⟩ := hrel
    by_cases he : i = 6
    · subst he
      go_wp2
      go_ret
      exact ⟨rfl, rfl⟩
    · have h1 : i < 6 := by omega
      have ha1 := and1_any (f / 2 ^ i)
      have hsz := nameN_size f i
      have hsl := slice_let i h1
      have HN : Hid (nameN f (i + 1) = if f / 2 ^ i % 2 = 1 then nameN f i ++ ⟨#[letter i]⟩ else nameN f i) := rfl
      have ha := fun (wx : World) => run_string_add_sum (P := Try.prog) (w := wx) (nameN f i) ⟨#[letter i]⟩ (by have : (ByteArray.mk #[letter i]).size = 1 := rfl; omega)
      generalize nameN f i = T at *
      by_cases hb : f / 2 ^ i % 2 = 1
      · have HN2 : Hid (T ++ ⟨#[letter i]⟩ = nameN f (i + 1)) := by show _ = _; rw [HN.out, if_pos hb]
        go_wp2
        go_round
        case rel => exact ⟨i + 1, by omega, by go_num, by rw [HN2.out]⟩
        case measure => simp [intOf]; omega
      · have HN2 : Hid (T = nameN f (i + 1)) := by show _ = _; rw [HN.out, if_neg hb]
        have hb0 : f / 2 ^ i % 2 = 0 := by omega
        go_wp2
        go_round
        case rel => exact ⟨i + 1, by omega, by go_num, by rw [HN2.out]⟩
        case measure => simp [intOf]; omega
end Go.Proofs.Ytgfmpcfdggcifaa
