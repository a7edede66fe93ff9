/- What is read of a cursor: word, Used, Len. -/
import Derived.Test.YtbncjinkojeioaaCuMem
namespace Go.Proofs.Ytbncjinkojeioaa
open Go.ChangeShapes Go.WideShapes Go.ChangeAt Go.RowKit Sp Cu

theorem tested (x : B) (r : Nat) : (bits .and .u64 (nn x / 2 ^ r) 1 == 1) = x.getLsbD r := by
  have e : nn x / (2 : Int) ^ r = nn (x >>> r) := by rw [← shr_nn]; congr 1
  rw [e, ← bit_test, ← and_nn]; rfl
section
variable {base : Nat} {w : World} {p : Nat} {v : Value} {ws : List B} {n a m : Nat}
set_option maxHeartbeats 400000 in
theorem word_any (h : CurAt base w p v ws n a m) (i : Nat) (hi : i ≤ 65600) :
    Calls Try.prog 18 #[.pointer (some ⟨p, 0, none⟩), .int .i64 (i : Int)] w fun e w' => e = .returned (.int .u64 (nn (wd ws (i / 64)))) ∧ w' = w := by
  obtain ⟨_, _, _, c3⟩ := h.cells
  obtain ⟨ad, cap, rfl, hs⟩ := own_shape h.own
  obtain ⟨q, hq⟩ : ∃ q, i / 64 = q := ⟨_, rfl⟩
  rw [hq]
  have hb : (q : Int) ≤ 1025 := by omega
  clear hi
  have hq2 : (i : Int) / 64 = (q : Int) := by omega
  have HO : Shut _ := ⟨h.own⟩
  by_cases hl : ws.length ≤ q
  · rw [wd_out hl]
    have hl1 : ((ws.length : Nat) : Int) ≤ (q : Int) := by omega
    clear hl hs h hq
    go_enter Try.func18, Try.ntmps18
    go_wp2_with fail
    go_ret
    exact ⟨rfl, rfl⟩
  · obtain ⟨g, rfl⟩ := hs (by omega)
    have hl1 : ¬ ((ws.length : Nat) : Int) ≤ (q : Int) := by omega
    have hl2 : q < ws.length := by omega
    have cw : w.cell? ⟨g, q, none⟩ = some (.int .u64 (nn (wd ws q))) := (h.own.cellAt q (by omega)).trans (words_at hl2)
    clear hs h hq hl
    go_enter Try.func18, Try.ntmps18
    go_wp2_with fail
    go_ret
    exact ⟨rfl, rfl⟩
set_option maxHeartbeats 400000 in
theorem used_any (h : CurAt base w p v ws n a m) (hn : n ≤ 65536) (u : Nat → Bool) (hb : ∀ i, bit ws i = u i) (x : Int) :
    Calls Try.prog 12 #[.pointer (some ⟨p, 0, none⟩), .int .i64 x] w fun e w' => e = .returned (.bool (decide (0 ≤ x ∧ x < n) && u x.toNat)) ∧ w' = w := by
  obtain ⟨c0, _, _, _⟩ := h.cells
  have HC : Shut _ := ⟨h⟩
  by_cases h0 : x < 0
  · have h0' : ¬ 0 ≤ x := by omega
    rw [decide_eq_false (by omega), Bool.false_and]
    clear hn hb h0
    go_enter Try.func12, Try.ntmps12
    go_wp2_with fail
    go_ret
    exact ⟨rfl, rfl⟩
  · have h0' : 0 ≤ x := by omega
    by_cases h1 : (n : Int) ≤ x
    · have h1' : ¬ x < n := by omega
      rw [decide_eq_false (by omega), Bool.false_and]
      clear hn hb h0
      go_enter Try.func12, Try.ntmps12
      go_wp2_with fail
      go_ret
      exact ⟨rfl, rfl⟩
    · obtain ⟨i, rfl⟩ := Int.eq_ofNat_of_zero_le h0'
      have h1' : (i : Int) < n := by omega
      rw [decide_eq_true (by omega), Bool.true_and, show (i : Int).toNat = i by omega, ← hb]
      have hi : i ≤ 65600 := by omega
      obtain ⟨r, hr⟩ : ∃ r, i % 64 = r := ⟨_, rfl⟩
      have hr1 : (i : Int) % 64 = (r : Int) := by omega
      have hr2 : (r : Int) < 64 := by omega
      have HB : Shut (bit ws i = (wd ws (i / 64)).getLsbD r) := ⟨by rw [← hr]; rfl⟩
      have HR : Shut _ := ⟨hr⟩
      clear hn hb h0 h1 h
      go_enter Try.func12, Try.ntmps12
      go_wp2_with fail
      refine (word_any HC.out i hi).mono ?_
      rintro e w1 ⟨rfl, rfl⟩
      go_wp2_with fail
      go_ret
      refine ⟨?_, rfl⟩
      show Ending.returned (.bool (bits .and .u64 (nn (wd ws (i / 64)) / 2 ^ r) 1 == 1)) = _
      rw [HB.out]
      exact ret_bool (tested _ _)
set_option maxHeartbeats 400000 in
theorem len_any (h : CurAt base w p v ws n a m) :
    Calls Try.prog 16 #[.pointer (some ⟨p, 0, none⟩)] w fun e w' => e = .returned (.int .i64 (m : Int)) ∧ w' = w := by
  obtain ⟨_, _, c2, _⟩ := h.cells
  go_enter Try.func16, Try.ntmps16
  go_wp2_with fail
  go_ret
  exact ⟨rfl, rfl⟩
end
end Go.Proofs.Ytbncjinkojeioaa
