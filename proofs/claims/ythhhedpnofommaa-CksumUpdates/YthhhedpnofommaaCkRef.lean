/- What the reference of chapter 3 computes, Sum and Check apart: one contract a function. -/
import Derived.Test.YthhhedpnofommaaCkFold
namespace Go.Proofs.Ythhhedpnofommaa
open Go.ChangeShapes Go.WideShapes Go.ChangeAt Go.RowKit

set_option maxHeartbeats 400000 in
theorem rfold_any (n : Int) (w : World) (h0 : 0 ≤ n) (h1 : n ≤ 18446744073709551615) :
    Calls Try.prog 12 #[.int .u64 n] w fun e w' => e = .returned (.int .u16 (Ck.fold n)) ∧ w' = w := by
  go_enter Try.func12, Try.ntmps12
  go_wp2
  go_loop [0] (fun t => ∃ m : Int, 0 ≤ m ∧ m ≤ 18446744073709551615 ∧ Ck.fold m = Ck.fold n ∧ t = .int .u64 m) (fun t => (intOf t).toNat)
  case atStart => exact ⟨n, h0, h1, rfl, rfl⟩
  case round =>
    obtain ⟨m, hm0, hm1, hm, rfl⟩ := hrel
    have HM : Hid (Ck.fold m = Ck.fold n) := hm
    clear hm
    by_cases hlt : 65535 < m
    · go_wp2
      go_round
      case rel => exact ⟨m % 65536 + m / 65536, by omega, by omega, (Ck.fold_step m hlt).trans HM.out, by go_num⟩
      case measure => simp [intOf]; omega
    · have HF : Hid (Ck.fold m = m) := Ck.fold_small m hm0 (by omega)
      go_wp2
      go_ret
      exact ⟨ret_int (by rw [← HM.out, HF.out]), rfl⟩

set_option maxHeartbeats 400000 in
theorem rjoin_row (x : Addr) (cap : Nat) (zs : List Int) (w : World) (hl : zs.length ≤ 9223372036854775807) (hc : Reads .u16 w x zs) (hz : ∀ z ∈ zs, 0 ≤ z ∧ z ≤ 65535) :
    Calls Try.prog 18 #[.slice (some x) zs.length cap] w fun e w' => e = .returned (.int .u16 (Ck.fold (Ck.usum zs))) ∧ w' = w := by
  go_enter Try.func18, Try.ntmps18
  go_wp2
  go_loop [3, 4] (fun n i => ∃ k : Nat, k ≤ zs.length ∧ i = .int .i64 k ∧ n = .int .u64 (Ck.usum (zs.take k))) (fun _ i => zs.length - (intOf i).toNat)
  case atStart => exact ⟨0, Nat.zero_le _, rfl, rfl⟩
  case round =>
    obtain ⟨k, hk, rfl, rfl⟩ := hrel
    have b0 := Ck.usum_lo (zs.take k)
    have b1 := Ck.usum_hi (zs.take k)
    by_cases hlt : k < zs.length
    · have hcell := hc k hlt
      have HS : Hid (Ck.usum (zs.take (k + 1)) = (Ck.usum (zs.take k) + zs.getD k 0) % 18446744073709551616) := Ck.usum_take zs k hlt
      have hb : 0 ≤ zs.getD k 0 ∧ zs.getD k 0 ≤ 65535 := by
        rw [List.getD_eq_getElem?_getD, List.getElem?_eq_getElem hlt]; exact hz _ (List.getElem_mem hlt)
      obtain ⟨hb0, hb1⟩ := hb
      generalize zs.getD k 0 = z at *
      go_wp2
      go_round
      case rel => exact ⟨k + 1, by omega, by go_num, by rw [HS.out]; go_num⟩
      case measure => simp [intOf]; omega
    · obtain rfl : k = zs.length := by omega
      rw [List.take_length] at *
      go_wp2_with fail
      refine (rfold_any _ _ (Ck.usum_lo _) (Ck.usum_hi _)).mono ?_
      rintro e w' ⟨rfl, rfl⟩
      go_wp2_with fail
      go_ret
      exact ⟨rfl, rfl⟩

set_option maxHeartbeats 400000 in
theorem rjoin_nil (w : World) :
    Calls Try.prog 18 #[.slice none 0 0] w fun e w' => e = .returned (.int .u16 0) ∧ w' = w := by
  go_enter Try.func18, Try.ntmps18
  go_wp2
  go_loop [3, 4] (fun n i => i = .int .i64 0 ∧ n = .int .u64 0) (fun _ _ => 0)
  case atStart => exact ⟨rfl, rfl⟩
  case round =>
    obtain ⟨rfl, rfl⟩ := hrel
    go_wp2_with fail
    refine (rfold_any _ _ (Int.le_refl _) (by decide)).mono ?_
    rintro e w' ⟨rfl, rfl⟩
    go_wp2_with fail
    go_ret
    exact ⟨rfl, rfl⟩

set_option maxHeartbeats 400000 in
theorem rupdate_any (c o n : Int) (w : World) (c0 : 0 ≤ c) (c1 : c ≤ 65535) (o0 : 0 ≤ o) (o1 : o ≤ 65535) (n0 : 0 ≤ n) (n1 : n ≤ 65535) :
    Calls Try.prog 20 #[.int .u16 c, .int .u16 o, .int .u16 n] w fun e w' => e = .returned (.int .u16 (Ck.upd c o n)) ∧ w' = w := by
  have f0 := Ck.fold_lo (65535 - c + (65535 - o) + n)
  have f1 := Ck.fold_hi (65535 - c + (65535 - o) + n)
  go_enter Try.func20, Try.ntmps20
  go_wp2_with fail
  refine (rfold_any _ _ (by omega) (by omega)).mono ?_
  rintro e w' ⟨rfl, rfl⟩
  go_wp2_with fail
  go_ret
  exact ⟨rfl, rfl⟩

set_option maxHeartbeats 400000 in
theorem rupdate32_any (c o n : Int) (w : World) (c0 : 0 ≤ c) (c1 : c ≤ 65535) (o0 : 0 ≤ o) (o1 : o ≤ 4294967295) (n0 : 0 ≤ n) (n1 : n ≤ 4294967295) :
    Calls Try.prog 22 #[.int .u16 c, .int .u32 o, .int .u32 n] w fun e w' => e = .returned (.int .u16 (Ck.upd (Ck.upd c (o / 65536) (n / 65536)) (o % 65536) (n % 65536))) ∧ w' = w := by
  go_enter Try.func22, Try.ntmps22
  go_wp2_with fail
  refine (rupdate_any _ _ _ _ c0 c1 (by omega) (by omega) (by omega) (by omega)).mono ?_
  rintro e w' ⟨rfl, rfl⟩
  go_wp2_with fail
  rw [Ck.wrap_u16, Ck.wrap_u16]
  refine (rupdate_any _ _ _ _ (Ck.upd_lo _ _ _) (Ck.upd_hi _ _ _) (by omega) (by omega) (by omega) (by omega)).mono ?_
  rintro e w' ⟨rfl, rfl⟩
  go_wp2_with fail
  go_ret
  exact ⟨rfl, rfl⟩
end Go.Proofs.Ythhhedpnofommaa
