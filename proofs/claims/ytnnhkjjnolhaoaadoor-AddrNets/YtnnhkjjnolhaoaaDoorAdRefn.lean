/- What the reference functions of chapter 2 compute, one contract a function: Mask, Right, NetText, Has. -/
import Derived.Test.YtnnhkjjnolhaoaaDoorAdRef
namespace Go.Proofs.YtnnhkjjnolhaoaaDoor
open Go.ChangeShapes Go.WideShapes Go.ChangeAt Go.RowKit

set_option maxHeartbeats 400000 in
theorem rmask_no (b : Int) (w : World) (h : b < 0 ∨ 32 < b) :
    Calls Tryd.prog 16 #[.int .i64 b] w fun e w' => e = .returned (.tuple #[.int .u32 0, .bool false]) ∧ w' = w := by
  rcases h with h | h
  · go_enter Tryd.func16, Tryd.ntmps16
    go_wp2
    go_ret2
    exact ⟨rfl, rfl⟩
  · have h' : ¬ b < 0 := by omega
    go_enter Tryd.func16, Tryd.ntmps16
    go_wp2
    go_ret2
    exact ⟨rfl, rfl⟩
theorem or_msk_facts : ∀ i : Fin 32, bits .or .u32 (Ad.msk i.val) (2 ^ (31 - i.val) % 4294967296) = Ad.msk ((i.val : Int) + 1) := by decide +kernel
theorem or_msk (i : Nat) (h : i < 32) : bits .or .u32 (Ad.msk i) (2 ^ (31 - i) % 4294967296) = Ad.msk ((i : Int) + 1) := or_msk_facts ⟨i, h⟩
theorem msk_0 : Ad.msk 0 = 0 := by decide +kernel
set_option maxHeartbeats 1000000 in
set_option maxRecDepth 100000 in
theorem rmask_nat (b : Nat) (w : World) (h1 : b ≤ 32) :
    Calls Tryd.prog 16 #[.int .i64 b] w fun e w' => e = .returned (.tuple #[.int .u32 (Ad.msk b), .bool true]) ∧ w' = w := by
  go_enter Tryd.func16, Tryd.ntmps16
  go_wp2_with fail
  go_loop [4, 5] (fun m i => ∃ k : Nat, k ≤ b ∧ i = .int .i64 k ∧ m = .int .u32 (Ad.msk k)) (fun _ i => b - (intOf i).toNat)
  case atStart => exact ⟨0, Nat.zero_le _, rfl, by rw [Int.natCast_zero, msk_0]⟩
  case round =>
    obtain ⟨k, hk, rfl, rfl⟩ := hrel
    by_cases hlt : k < b
    · have hor := or_msk k (by omega)
      go_wp2
      go_round
      case rel => exact ⟨k + 1, by omega, by go_num, by go_num⟩
      case measure => simp [intOf]; omega
    · have hkb : k = b := by omega
      subst hkb
      go_wp2
      go_ret2
      exact ⟨rfl, rfl⟩
theorem rmask_yes (b : Int) (w : World) (h0 : 0 ≤ b) (h1 : b ≤ 32) :
    Calls Tryd.prog 16 #[.int .i64 b] w fun e w' => e = .returned (.tuple #[.int .u32 (Ad.msk b), .bool true]) ∧ w' = w := by
  obtain ⟨k, rfl⟩ := Int.eq_ofNat_of_zero_le h0
  exact rmask_nat k w (by omega)

set_option maxHeartbeats 400000 in
theorem rright (n b : Int) (w : World) (h0 : 0 ≤ n) (h1 : n ≤ 4294967295) :
    Calls Tryd.prog 28 #[.int .u32 n, .int .i64 b] w fun e w' => e = .returned (.bool (Ad.hasB n b n)) ∧ w' = w := by
  by_cases h : b < 0 ∨ 32 < b
  · rw [Ad.has_out h]
    go_enter Tryd.func28, Tryd.ntmps28
    go_wp2_with fail
    refine (rmask_no _ _ h).mono ?_
    rintro e w1 ⟨rfl, rfl⟩
    go_wp2_with fail
    go_ret
    exact ⟨rfl, rfl⟩
  · have hm0 : 0 ≤ b := by omega
    have hm1 : b ≤ 32 := by omega
    have hand := Ad.and_msk b n hm0 hm1 h0 h1
    clear h
    by_cases hc : Ad.cut b n = n
    · rw [Ad.has_yes hm0 hm1 hc]
      have he : (Ad.cut b n == n) = true := by simp [hc]
      clear hc
      go_enter Tryd.func28, Tryd.ntmps28
      go_wp2_with fail
      refine (rmask_yes _ _ hm0 hm1).mono ?_
      rintro e w1 ⟨rfl, rfl⟩
      go_wp2_with fail
      go_ret
      exact ⟨rfl, rfl⟩
    · rw [Ad.has_no hc]
      have he : (Ad.cut b n == n) = false := by simp [hc]
      clear hc
      go_enter Tryd.func28, Tryd.ntmps28
      go_wp2_with fail
      refine (rmask_yes _ _ hm0 hm1).mono ?_
      rintro e w1 ⟨rfl, rfl⟩
      go_wp2_with fail
      go_ret
      exact ⟨rfl, rfl⟩

set_option maxHeartbeats 400000 in
theorem rhas_in (n b a : Int) (w : World) (hn0 : 0 ≤ n) (hn1 : n ≤ 4294967295) (h0 : 0 ≤ a) (h1 : a ≤ 4294967295) (hm0 : 0 ≤ b) (hm1 : b ≤ 32) (h : Ad.hasB n b n = true) :
    Calls Tryd.prog 22 #[.int .u32 n, .int .i64 b, .int .u32 a] w fun e w' => e = .returned (.bool (Ad.hasB n b a)) ∧ w' = w := by
  have hand := Ad.and_msk b a hm0 hm1 h0 h1
  by_cases hc : Ad.cut b a = n
  · rw [Ad.has_yes hm0 hm1 hc]
    have he : (Ad.cut b a == n) = true := by simp [hc]
    clear hc
    go_enter Tryd.func22, Tryd.ntmps22
    go_wp2_with fail
    refine (rright _ _ _ hn0 hn1).mono ?_
    rintro e w1 ⟨rfl, rfl⟩
    go_wp2_with fail
    refine (rmask_yes _ _ hm0 hm1).mono ?_
    rintro e w1 ⟨rfl, rfl⟩
    go_wp2_with fail
    go_ret
    exact ⟨rfl, rfl⟩
  · rw [Ad.has_no hc]
    have he : (Ad.cut b a == n) = false := by simp [hc]
    clear hc
    go_enter Tryd.func22, Tryd.ntmps22
    go_wp2_with fail
    refine (rright _ _ _ hn0 hn1).mono ?_
    rintro e w1 ⟨rfl, rfl⟩
    go_wp2_with fail
    refine (rmask_yes _ _ hm0 hm1).mono ?_
    rintro e w1 ⟨rfl, rfl⟩
    go_wp2_with fail
    go_ret
    exact ⟨rfl, rfl⟩
set_option maxHeartbeats 400000 in
theorem rhas_out (n b a : Int) (w : World) (hn0 : 0 ≤ n) (hn1 : n ≤ 4294967295) (h : Ad.hasB n b n = false) (ho : Ad.hasB n b a = false) (hm : b < 0 ∨ 32 < b) :
    Calls Tryd.prog 22 #[.int .u32 n, .int .i64 b, .int .u32 a] w fun e w' => e = .returned (.bool (Ad.hasB n b a)) ∧ w' = w := by
  rw [ho]
  go_enter Tryd.func22, Tryd.ntmps22
  go_wp2_with fail
  refine (rright _ _ _ hn0 hn1).mono ?_
  rintro e w1 ⟨rfl, rfl⟩
  go_wp2_with fail
  refine (rmask_no _ _ hm).mono ?_
  rintro e w1 ⟨rfl, rfl⟩
  go_wp2_with fail
  go_ret
  exact ⟨rfl, rfl⟩
set_option maxHeartbeats 400000 in
theorem rhas_wrong (n b a : Int) (w : World) (hn0 : 0 ≤ n) (hn1 : n ≤ 4294967295) (h : Ad.hasB n b n = false) (ho : Ad.hasB n b a = false) (hm0 : 0 ≤ b) (hm1 : b ≤ 32) :
    Calls Tryd.prog 22 #[.int .u32 n, .int .i64 b, .int .u32 a] w fun e w' => e = .returned (.bool (Ad.hasB n b a)) ∧ w' = w := by
  rw [ho]
  go_enter Tryd.func22, Tryd.ntmps22
  go_wp2_with fail
  refine (rright _ _ _ hn0 hn1).mono ?_
  rintro e w1 ⟨rfl, rfl⟩
  go_wp2_with fail
  refine (rmask_yes _ _ hm0 hm1).mono ?_
  rintro e w1 ⟨rfl, rfl⟩
  go_wp2_with fail
  go_ret
  exact ⟨rfl, rfl⟩
theorem rhas (n b a : Int) (w : World) (hn0 : 0 ≤ n) (hn1 : n ≤ 4294967295) (h0 : 0 ≤ a) (h1 : a ≤ 4294967295) :
    Calls Tryd.prog 22 #[.int .u32 n, .int .i64 b, .int .u32 a] w fun e w' => e = .returned (.bool (Ad.hasB n b a)) ∧ w' = w := by
  by_cases hm : b < 0 ∨ 32 < b
  · exact rhas_out n b a w hn0 hn1 (Ad.has_out hm) (Ad.has_out hm) hm
  · cases h : Ad.hasB n b n with
    | true => exact rhas_in n b a w hn0 hn1 h0 h1 (by omega) (by omega) h
    | false =>
      refine rhas_wrong n b a w hn0 hn1 h ?_ (by omega) (by omega)
      refine Ad.has_no fun e => ?_
      have : Ad.hasB n b n = true := Ad.has_yes (by omega) (by omega) (by rw [← e, Ad.cut_idem b a h0])
      rw [h] at this; cases this

set_option maxHeartbeats 400000 in
theorem rntext_no (n b : Int) (w : World) (h0 : 0 ≤ n) (h1 : n ≤ 4294967295) (h : Ad.hasB n b n = false) :
    Calls Tryd.prog 18 #[.int .u32 n, .int .i64 b] w fun e w' => e = .returned (.tuple #[.string ⟨#[]⟩, .bool false]) ∧ Below w.heap.size w w' := by
  go_enter Tryd.func18, Tryd.ntmps18
  go_wp2_with fail
  refine (rright _ _ _ h0 h1).mono ?_
  rintro e w1 ⟨rfl, rfl⟩
  go_wp2_with fail
  go_ret2
  exact ⟨rfl, Below.refl _ _⟩
theorem ret_sbr {a b : ByteArray} (h : a = b) : Ending.returned (.tuple #[.string a, .bool true]) = .returned (.tuple #[.string b, .bool true]) := by rw [h]
set_option maxHeartbeats 400000 in
theorem rntext_yes (n b : Int) (w : World) (h0 : 0 ≤ n) (h1 : n ≤ 4294967295) (h : Ad.hasB n b n = true) :
    Calls Tryd.prog 18 #[.int .u32 n, .int .i64 b] w fun e w' => e = .returned (.tuple #[.string ⟨(Ad.netx n.toNat b.toNat).toArray⟩, .bool true]) ∧ Below w.heap.size w w' := by
  obtain ⟨hb0, hb1, -⟩ := Ad.of_has h
  have hl := (Ad.txt_length n.toNat (by omega)).2
  have hd := Ad.dig_hi b.toNat (by omega)
  go_enter Tryd.func18, Tryd.ntmps18
  go_wp2_with fail
  refine (rright _ _ _ h0 h1).mono ?_
  rintro e w1 ⟨rfl, rfl⟩
  go_wp2_with fail
  refine (rtext _ _ h0 h1).mono ?_
  rintro e w2 ⟨rfl, hb2⟩
  go_wp2_with fail
  refine (rdig _ _ hb0 (by omega)).mono ?_
  rintro e w3 ⟨rfl, hb3⟩
  go_wp2_with fail
  go_ret2
  refine ⟨ret_sbr ?_, Below.then hb2 hb3⟩
  apply ba_ext; simp [ByteArray.data_append, Ad.netx]
end Go.Proofs.YtnnhkjjnolhaoaaDoor
