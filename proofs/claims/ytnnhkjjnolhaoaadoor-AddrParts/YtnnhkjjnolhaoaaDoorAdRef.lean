/- What the reference functions of chapter 2 compute, one contract a function: digits, Text, Parse. -/
import Derived.Test.YtnnhkjjnolhaoaaDoorAdEnv
import Derived.Laws.BytesArg
namespace Go.Proofs.YtnnhkjjnolhaoaaDoor
open Go.ChangeShapes Go.WideShapes Go.ChangeAt Go.RowKit

theorem conv_one (W : World) (a : Int) (b : Nat) (hb : W.heap.size = b) :
    (convert 64 9 (.slice (some ⟨b, 0, none⟩) 1 1)).run Tryd.prog (W.alloc (.cells #[.int .u8 a] 5))
      = .ok (.string ⟨#[UInt8.ofNat a.toNat]⟩) (W.alloc (.cells #[.int .u8 a] 5)) := by
  subst hb
  refine run_convert_bytes_arg _ 64 5 Tryd.underlying64 Tryd.underlying5 _ 0 1 1 [a] rfl ?_ 9 Tryd.underlying9
  intro i hi
  have h4 : i = 0 := by omega
  subst h4
  simp [go_sem, List.getD]

theorem ret_s {a b : ByteArray} (h : a = b) : Ending.returned (.string a) = .returned (.string b) := by rw [h]
theorem ds1 (n : Int) (h0 : 0 ≤ n) (h1 : n < 10) : ByteArray.mk #[UInt8.ofNat (48 + n % 10).toNat] = ⟨(Ad.dig n.toNat).toArray⟩ := by
  rw [Ad.dig, if_pos (by omega), show (48 + n % 10).toNat = 48 + n.toNat from by omega]
theorem ds2 (n : Int) (h0 : 10 ≤ n) (h1 : n < 100) : ByteArray.mk #[UInt8.ofNat (48 + n / 10 % 10).toNat] ++ ByteArray.mk #[UInt8.ofNat (48 + n % 10).toNat] = ⟨(Ad.dig n.toNat).toArray⟩ := by
  rw [Ad.dig, if_neg (by omega), if_pos (by omega), show (48 + n / 10 % 10).toNat = 48 + n.toNat / 10 from by omega, show (48 + n % 10).toNat = 48 + n.toNat % 10 from by omega]
  apply ba_ext; simp [ByteArray.data_append]
theorem ds3 (n : Int) (h0 : 100 ≤ n) (h1 : n < 1000) : ByteArray.mk #[UInt8.ofNat (48 + n / 10 / 10 % 10).toNat] ++ (ByteArray.mk #[UInt8.ofNat (48 + n / 10 % 10).toNat] ++ ByteArray.mk #[UInt8.ofNat (48 + n % 10).toNat]) = ⟨(Ad.dig n.toNat).toArray⟩ := by
  rw [Ad.dig, if_neg (by omega), if_neg (by omega), show (48 + n / 10 / 10 % 10).toNat = 48 + n.toNat / 100 from by omega, show (48 + n / 10 % 10).toNat = 48 + n.toNat / 10 % 10 from by omega, show (48 + n % 10).toNat = 48 + n.toNat % 10 from by omega]
  apply ba_ext; simp [ByteArray.data_append]

set_option maxHeartbeats 400000 in
theorem rdig1 (n : Int) (w : World) (h0 : 0 ≤ n) (h1 : n < 10) :
    Calls Tryd.prog 26 #[.int .i64 n] w fun e w' => e = .returned (.string ⟨(Ad.dig n.toNat).toArray⟩) ∧ Below w.heap.size w w' := by
  have hcv := conv_one
  go_enter Tryd.func26, Tryd.ntmps26
  go_wp2_with fail
  go_rounds 2
  go_ret
  exact ⟨ret_s (ds1 n h0 h1), by go_grown⟩
set_option maxHeartbeats 400000 in
theorem rdig2 (n : Int) (w : World) (h0 : 10 ≤ n) (h1 : n < 100) :
    Calls Tryd.prog 26 #[.int .i64 n] w fun e w' => e = .returned (.string ⟨(Ad.dig n.toNat).toArray⟩) ∧ Below w.heap.size w w' := by
  have hcv := conv_one
  go_enter Tryd.func26, Tryd.ntmps26
  go_wp2_with fail
  go_rounds 3
  go_ret
  exact ⟨ret_s (ds2 n h0 h1), by go_grown⟩
set_option maxHeartbeats 400000 in
theorem rdig3 (n : Int) (w : World) (h0 : 100 ≤ n) (h1 : n < 1000) :
    Calls Tryd.prog 26 #[.int .i64 n] w fun e w' => e = .returned (.string ⟨(Ad.dig n.toNat).toArray⟩) ∧ Below w.heap.size w w' := by
  have hcv := conv_one
  go_enter Tryd.func26, Tryd.ntmps26
  go_wp2_with fail
  go_rounds 4
  go_ret
  exact ⟨ret_s (ds3 n h0 h1), by go_grown⟩
theorem rdig (n : Int) (w : World) (h0 : 0 ≤ n) (h1 : n < 1000) :
    Calls Tryd.prog 26 #[.int .i64 n] w fun e w' => e = .returned (.string ⟨(Ad.dig n.toNat).toArray⟩) ∧ Below w.heap.size w w' := by
  by_cases h2 : n < 10
  · exact rdig1 n w h0 h2
  · by_cases h3 : n < 100
    · exact rdig2 n w (by omega) h3
    · exact rdig3 n w (by omega) h1

theorem and_255 (n : Int) (h0 : 0 ≤ n) (h1 : n ≤ 4294967295) : bits .and .u32 n 255 = n % 256 := bits_mask .u32 32 (by decide) Ad.wraps_u32 8 (by decide) n h0 (by omega)

set_option maxHeartbeats 1000000 in
set_option maxRecDepth 100000 in
theorem rtext (a : Int) (w : World) (h0 : 0 ≤ a) (h1 : a ≤ 4294967295) :
    Calls Tryd.prog 14 #[.int .u32 a] w fun e w' => e = .returned (.string ⟨(Ad.txt a.toNat).toArray⟩) ∧ Below w.heap.size w w' := by
  have a2 := and_255 (a / 65536) (by omega) (by omega)
  have a1 := and_255 (a / 256) (by omega) (by omega)
  have a0 := and_255 a (by omega) (by omega)
  have g3 := Ad.dig_hi (a / 16777216).toNat (by omega)
  have g2 := Ad.dig_hi (a / 65536 % 256).toNat (by omega)
  have g1 := Ad.dig_hi (a / 256 % 256).toNat (by omega)
  have g0 := Ad.dig_hi (a % 256).toNat (by omega)
  go_enter Tryd.func14, Tryd.ntmps14
  go_wp2_with fail
  refine (rdig _ _ (by omega) (by omega)).mono ?_
  rintro e w1 ⟨rfl, hb1⟩
  go_wp2_with fail
  refine (rdig _ _ (by omega) (by omega)).mono ?_
  rintro e w2 ⟨rfl, hb2⟩
  go_wp2_with fail
  refine (rdig _ _ (by omega) (by omega)).mono ?_
  rintro e w3 ⟨rfl, hb3⟩
  go_wp2_with fail
  refine (rdig _ _ (by omega) (by omega)).mono ?_
  rintro e w4 ⟨rfl, hb4⟩
  go_wp2_with fail
  go_ret
  refine ⟨ret_s ?_, Below.then (Below.then (Below.then hb1 hb2) hb3) hb4⟩
  rw [Ad.txt, show (a / 16777216).toNat = a.toNat / 16777216 from by omega, show (a / 65536 % 256).toNat = a.toNat / 65536 % 256 from by omega, show (a / 256 % 256).toNat = a.toNat / 256 % 256 from by omega, show (a % 256).toNat = a.toNat % 256 from by omega]
  apply ba_ext; simp [ByteArray.data_append]

theorem take_snoc (s : ByteArray) (k : Nat) (h : k < s.size) : s.data.toList.take (k + 1) = s.data.toList.take k ++ [s[k]] := by
  rw [List.take_succ_eq_append_getElem (by simpa using h)]; rfl
theorem val_u32 {a b : Int} (h : a = b) : Value.int .u32 a = .int .u32 b := by rw [h]
set_option maxHeartbeats 1000000 in
set_option maxRecDepth 100000 in
theorem rparse_yes (s : ByteArray) (w : World) (hs : s.size ≤ 140737488355328) (h : Ad.IsAddr s.data.toList) :
    Calls Tryd.prog 12 #[.string s] w fun e w' => e = .returned (.tuple #[.int .u32 (Ad.gs s.data.toList), .bool true]) ∧ Below w.heap.size w w' := by
  have HT := hide (show (Ad.txt (Ad.rs s.data.toList) == s.toList) = true by rw [tl_eq, Ad.rs_is h]; simp)
  have HG := hide (Ad.rs_gs h)
  clear h
  go_enter Tryd.func12, Tryd.ntmps12
  go_wp2_with fail
  go_loop [4, 5, 6] (fun a n i => ∃ k : Nat, k ≤ s.size ∧ i = .int .i64 k ∧ a = .int .u32 (Ad.rfold (s.data.toList.take k)).1 ∧ n = .int .u32 (Ad.rfold (s.data.toList.take k)).2) (fun _ _ i => s.size - (intOf i).toNat)
  case atStart => exact ⟨0, Nat.zero_le _, rfl, rfl, rfl⟩
  case round =>
    obtain ⟨k, hk, rfl, rfl, rfl⟩ := hrel
    have hl := Ad.rfold_lt (s.data.toList.take k)
    obtain ⟨A, hA⟩ : ∃ A : Nat, (Ad.rfold (s.data.toList.take k)).1 = A := ⟨_, rfl⟩
    obtain ⟨n, hn⟩ : ∃ n : Nat, (Ad.rfold (s.data.toList.take k)).2 = n := ⟨_, rfl⟩
    rw [hA, hn] at hl ⊢
    obtain ⟨hl1, hl2⟩ := hl
    have hand := and_255 n (by omega) (by omega)
    have hor := join_u32 A (n % 256) (by omega) (by omega)
    by_cases hlt : k < s.size
    · have hst : Ad.rfold (s.data.toList.take (k + 1)) = Ad.rstep (A, n) s[k] := by rw [take_snoc s k hlt, Ad.rfold_snoc, ← hA, ← hn]
      have hby : (s[k].toNat : Int) < 256 := by have := s[k].toNat_lt; omega
      clear hA hn
      by_cases hc : s[k] = 46
      · have h46 : (s[k].toNat : Int) = 46 := by rw [hc]; rfl
        rw [Ad.rstep, if_pos hc] at hst
        have HS := hide hst; clear hst hc
        go_wp2
        go_round
        case rel => exact ⟨k + 1, by omega, by go_num, by rw [unhide HS]; go_num, by rw [unhide HS]; rfl⟩
        case measure => simp [intOf]; omega
      · have h46 : ¬ (s[k].toNat : Int) = 46 := fun e => hc (by apply UInt8.toNat_inj.1; have : (46 : UInt8).toNat = 46 := rfl; omega)
        rw [Ad.rstep, if_neg hc, Ad.dstep] at hst
        have HS := hide hst; clear hst hc
        go_wp2
        go_round
        case rel => exact ⟨k + 1, by omega, by go_num, by rw [unhide HS], by rw [unhide HS]; exact val_u32 (by omega)⟩
        case measure => simp [intOf]; omega
    · have e : s.data.toList.take k = s.data.toList := List.take_of_length_le (by rw [len_eq]; omega)
      have hrs : (A * 256 + n % 256) % 4294967296 = Ad.rs s.data.toList := by rw [Ad.rs, ← e, hA, hn]
      have hr := Ad.rs_lt s.data.toList
      obtain ⟨R, hR⟩ : ∃ R : Nat, Ad.rs s.data.toList = R := ⟨_, rfl⟩
      rw [hR] at hrs hr HT
      have hor' : bits .or .u32 ((A : Int) * 256 % 4294967296) ((n : Int) % 256) = (R : Int) := by rw [hor]; omega
      clear hor hA hn
      go_wp2_with fail
      refine (rtext _ _ (by omega) (by omega)).mono ?_
      rintro e w1 ⟨rfl, hb1⟩
      have ht := unhide HT
      rw [Int.toNat_natCast]
      go_wp2_with fail
      go_ret2
      exact ⟨by rw [← unhide HG, hR]; rfl, hb1⟩
set_option maxHeartbeats 1000000 in
set_option maxRecDepth 100000 in
theorem rparse_no (s : ByteArray) (w : World) (hs : s.size ≤ 140737488355328) (h : ¬ Ad.IsAddr s.data.toList) :
    Calls Tryd.prog 12 #[.string s] w fun e w' => e = .returned (.tuple #[.int .u32 0, .bool false]) ∧ Below w.heap.size w w' := by
  have HT := hide (show (Ad.txt (Ad.rs s.data.toList) == s.toList) = false by rw [tl_eq]; exact beq_eq_false_iff_ne.2 fun e => h (Ad.is_of_rs e))
  clear h
  go_enter Tryd.func12, Tryd.ntmps12
  go_wp2_with fail
  go_loop [4, 5, 6] (fun a n i => ∃ k : Nat, k ≤ s.size ∧ i = .int .i64 k ∧ a = .int .u32 (Ad.rfold (s.data.toList.take k)).1 ∧ n = .int .u32 (Ad.rfold (s.data.toList.take k)).2) (fun _ _ i => s.size - (intOf i).toNat)
  case atStart => exact ⟨0, Nat.zero_le _, rfl, rfl, rfl⟩
  case round =>
    obtain ⟨k, hk, rfl, rfl, rfl⟩ := hrel
    have hl := Ad.rfold_lt (s.data.toList.take k)
    obtain ⟨A, hA⟩ : ∃ A : Nat, (Ad.rfold (s.data.toList.take k)).1 = A := ⟨_, rfl⟩
    obtain ⟨n, hn⟩ : ∃ n : Nat, (Ad.rfold (s.data.toList.take k)).2 = n := ⟨_, rfl⟩
    rw [hA, hn] at hl ⊢
    obtain ⟨hl1, hl2⟩ := hl
    have hand := and_255 n (by omega) (by omega)
    have hor := join_u32 A (n % 256) (by omega) (by omega)
    by_cases hlt : k < s.size
    · have hst : Ad.rfold (s.data.toList.take (k + 1)) = Ad.rstep (A, n) s[k] := by rw [take_snoc s k hlt, Ad.rfold_snoc, ← hA, ← hn]
      have hby : (s[k].toNat : Int) < 256 := by have := s[k].toNat_lt; omega
      clear hA hn
      by_cases hc : s[k] = 46
      · have h46 : (s[k].toNat : Int) = 46 := by rw [hc]; rfl
        rw [Ad.rstep, if_pos hc] at hst
        have HS := hide hst; clear hst hc
        go_wp2
        go_round
        case rel => exact ⟨k + 1, by omega, by go_num, by rw [unhide HS]; go_num, by rw [unhide HS]; rfl⟩
        case measure => simp [intOf]; omega
      · have h46 : ¬ (s[k].toNat : Int) = 46 := fun e => hc (by apply UInt8.toNat_inj.1; have : (46 : UInt8).toNat = 46 := rfl; omega)
        rw [Ad.rstep, if_neg hc, Ad.dstep] at hst
        have HS := hide hst; clear hst hc
        go_wp2
        go_round
        case rel => exact ⟨k + 1, by omega, by go_num, by rw [unhide HS], by rw [unhide HS]; exact val_u32 (by omega)⟩
        case measure => simp [intOf]; omega
    · have e : s.data.toList.take k = s.data.toList := List.take_of_length_le (by rw [len_eq]; omega)
      have hrs : (A * 256 + n % 256) % 4294967296 = Ad.rs s.data.toList := by rw [Ad.rs, ← e, hA, hn]
      have hr := Ad.rs_lt s.data.toList
      obtain ⟨R, hR⟩ : ∃ R : Nat, Ad.rs s.data.toList = R := ⟨_, rfl⟩
      rw [hR] at hrs hr HT
      have hor' : bits .or .u32 ((A : Int) * 256 % 4294967296) ((n : Int) % 256) = (R : Int) := by rw [hor]; omega
      clear hor hA hn
      go_wp2_with fail
      refine (rtext _ _ (by omega) (by omega)).mono ?_
      rintro e w1 ⟨rfl, hb1⟩
      have ht := unhide HT
      rw [Int.toNat_natCast]
      go_wp2_with fail
      go_ret2
      exact ⟨rfl, hb1⟩
end Go.Proofs.YtnnhkjjnolhaoaaDoor
