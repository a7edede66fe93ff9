/- What the reference's ParseNet computes. -/
import Derived.Test.YtnnhkjjnolhaoaaDoorAdRefn
namespace Go.Proofs.YtnnhkjjnolhaoaaDoor
open Go.ChangeShapes Go.WideShapes Go.ChangeAt Go.RowKit

/-- Does s end in a stroke and the digits of k? -/
def ends (s : ByteArray) (k : Nat) : Bool := (s.extract (s.size - (1 + (Ad.dig k).length)) s.size).toList == (ByteArray.mk #[47] ++ ByteArray.mk (Ad.dig k).toArray).toList
theorem ends_list (s : ByteArray) (k : Nat) (h : ends s k = true) : s.data.toList = (s.extract 0 (s.size - (1 + (Ad.dig k).length))).data.toList ++ 47 :: Ad.dig k := by
  have e := beq_iff_eq.1 h
  rw [tl_eq, tl_eq, ext_suf] at e
  have e' : s.data.toList.drop (s.size - (1 + (Ad.dig k).length)) = 47 :: Ad.dig k := by simpa [ByteArray.data_append] using e
  rw [ext_pre, ← e']
  simp
theorem ends_of (s : ByteArray) (k : Nat) (p : List UInt8) (h : s.data.toList = p ++ 47 :: Ad.dig k) : ends s k = true ∧ 1 + (Ad.dig k).length ≤ s.size ∧ (s.extract 0 (s.size - (1 + (Ad.dig k).length))).data.toList = p := by
  have hz : s.size = p.length + (1 + (Ad.dig k).length) := by rw [← len_eq, h]; simp; omega
  have hn : s.size - (1 + (Ad.dig k).length) = p.length := by omega
  refine ⟨?_, by omega, ?_⟩
  · unfold ends
    rw [tl_eq, tl_eq, ext_suf, hn, h]
    simp [ByteArray.data_append]
  · rw [ext_pre, hn, h]; simp
/-- One stroke alone: what stands behind it is one number. -/
theorem end_one (a b k : Nat) (p : List UInt8) (ha : a < 4294967296) (hb : b ≤ 32) (hk : k ≤ 32) (h : Ad.netx a b = p ++ 47 :: Ad.dig k) : k = b := by
  have h1 := congrArg (List.count 47) h
  have t0 : (Ad.txt a).count 47 = 0 := List.count_eq_zero.2 (Ad.txt_47 a ha)
  have d0 : ∀ n, n ≤ 32 → (Ad.dig n).count 47 = 0 := fun n hn => List.count_eq_zero.2 (Ad.p47 n (by omega))
  rw [Ad.netx, List.count_append, List.count_append, List.count_cons_self, List.count_cons_self, t0, d0 b hb, d0 k hk] at h1
  have hp : (47 : UInt8) ∉ p := List.count_eq_zero.1 (by omega)
  have h2 := congrArg (Ad.after 47) h
  rw [Ad.after_net a b ha, Ad.after_app 47 _ _ hp] at h2
  have h3 := congrArg Ad.av h2
  rw [Ad.av_dig b hb, Ad.av_dig k hk] at h3
  omega

set_option maxHeartbeats 1000000 in
set_option maxRecDepth 100000 in
theorem rpnet_no (s : ByteArray) (w : World) (hs : s.size ≤ 140737488355328) (h : ∀ a b : Nat, ¬ Ad.IsNet s.data.toList a b) :
    Calls Tryd.prog 20 #[.string s] w fun e w' => e = .returned (.tuple #[.int .u32 0, .int .i64 0, .bool false]) ∧ Below w.heap.size w w' := by
  have KH := hide h
  clear h
  go_enter Tryd.func20, Tryd.ntmps20
  go_wp2_with fail
  go_loopw [5] (fun i W => ∃ k : Nat, k ≤ 33 ∧ i = .int .i64 k ∧ Below w.heap.size w W) (fun i _ => 33 - (intOf i).toNat)
  case atStart => exact ⟨0, by omega, rfl, Below.refl _ _⟩
  case round =>
    obtain ⟨k, hk, rfl, hb⟩ := hrel
    have HB := hide hb
    clear hb
    by_cases hlt : k ≤ 32
    · skip
      have hd := Ad.dig_hi k (by omega)
      have hd1 := Ad.dig_lo k (by omega)
      by_cases hz : s.size < 1 + (Ad.dig k).length
      · have hz' : (s.size : Int) < 1 + (Ad.dig k).length := by omega
        go_wp2_with fail
        refine (rdig _ _ (by omega) (by omega)).mono ?_
        rintro e w1 ⟨rfl, hb1⟩
        rw [Int.toNat_natCast]
        have HB1 := hide (Below.then (unhide HB) hb1)
        clear hb1 HB
        go_wp2_with fail
        go_roundw
        case rel => exact ⟨k + 1, by omega, by go_num, unhide HB1⟩
        case measure => simp [intOf]; omega
      · have hz' : ¬ (s.size : Int) < 1 + (Ad.dig k).length := by omega
        have hz'' : (s.size : Int) - (1 + (Ad.dig k).length) ≤ s.size := by omega
        cases hm : ends s k with
        | false =>
          unfold ends at hm
          go_wp2_with fail
          refine (rdig _ _ (by omega) (by omega)).mono ?_
          rintro e w1 ⟨rfl, hb1⟩
          rw [Int.toNat_natCast]
          have HB1 := hide (Below.then (unhide HB) hb1)
          clear hb1 HB
          go_wp2_with fail
          go_roundw
          case rel => exact ⟨k + 1, by omega, by go_num, unhide HB1⟩
          case measure => simp [intOf]; omega
        | true =>
          have hl := hide (ends_list s k hm)
          have zp : (s.extract 0 (s.size - (1 + (Ad.dig k).length))).size ≤ 140737488355328 := by rw [ByteArray.size_extract]; omega
          unfold ends at hm
          by_cases ha : Ad.IsAddr (s.extract 0 (s.size - (1 + (Ad.dig k).length))).data.toList
          · have gl := Ad.gs_lt (s.extract 0 (s.size - (1 + (Ad.dig k).length))).data.toList
            obtain ⟨x, hx⟩ : ∃ x, Ad.gs (s.extract 0 (s.size - (1 + (Ad.dig k).length))).data.toList = x := ⟨_, rfl⟩
            have hr : Ad.hasB x k x = false := by
              cases hh : Ad.hasB x k x with
              | false => rfl
              | true =>
                refine absurd ?_ (unhide KH x k)
                refine ⟨by omega, hlt, (Ad.of_has hh).2.2, ?_⟩
                rw [unhide hl, Ad.netx, ← hx, Ad.gs_is ha]
            have HP := rparse_yes _ (hs := zp) (h := ha)
            rw [hx] at gl HP
            have KP := hide HP
            clear HP hx ha
            go_wp2_with fail
            refine (rdig _ _ (by omega) (by omega)).mono ?_
            rintro e w1 ⟨rfl, hb1⟩
            rw [Int.toNat_natCast]
            have HB1 := hide (Below.then (unhide HB) hb1)
            clear hb1 HB
            go_wp2_with fail
            refine (unhide KP w1).mono ?_
            rintro e w2 ⟨rfl, hb2⟩
            have HB2 := hide (Below.then (unhide HB1) hb2)
            clear hb2
            go_wp2_with fail
            refine (rright _ _ _ (by omega) (by omega)).mono ?_
            rintro e w3 ⟨rfl, rfl⟩
            go_wp2_with fail
            go_roundw
            case rel => exact ⟨k + 1, by omega, by go_num, unhide HB2⟩
            case measure => simp [intOf]; omega
          · have KP := hide (fun w => rparse_no _ w zp ha)
            clear ha
            go_wp2_with fail
            refine (rdig _ _ (by omega) (by omega)).mono ?_
            rintro e w1 ⟨rfl, hb1⟩
            rw [Int.toNat_natCast]
            have HB1 := hide (Below.then (unhide HB) hb1)
            clear hb1 HB
            go_wp2_with fail
            refine (unhide KP w1).mono ?_
            rintro e w2 ⟨rfl, hb2⟩
            have HB2 := hide (Below.then (unhide HB1) hb2)
            clear hb2
            go_wp2_with fail
            refine (rright _ _ _ (by omega) (by omega)).mono ?_
            rintro e w3 ⟨rfl, rfl⟩
            go_wp2_with fail
            go_roundw
            case rel => exact ⟨k + 1, by omega, by go_num, unhide HB2⟩
            case measure => simp [intOf]; omega
    · go_wp2_with fail
      go_returns
      exact ⟨rfl, unhide HB⟩

set_option maxHeartbeats 1000000 in
set_option maxRecDepth 100000 in
theorem rpnet_yes (s : ByteArray) (a b : Nat) (w : World) (hs : s.size ≤ 140737488355328) (h : Ad.IsNet s.data.toList a b) :
    Calls Tryd.prog 20 #[.string s] w fun e w' => e = .returned (.tuple #[.int .u32 a, .int .i64 b, .bool true]) ∧ Below w.heap.size w w' := by
  obtain ⟨ha, hb, hc, ht⟩ := h
  have hh : Ad.hasB a b a = true := Ad.has_yes (by omega) (by omega) hc
  have KT := hide ht
  clear ht hc
  go_enter Tryd.func20, Tryd.ntmps20
  go_wp2_with fail
  go_loopw [5] (fun i W => ∃ k : Nat, k ≤ b ∧ i = .int .i64 k ∧ Below w.heap.size w W) (fun i _ => b - (intOf i).toNat)
  case atStart => exact ⟨0, by omega, rfl, Below.refl _ _⟩
  case round =>
    obtain ⟨k, hk, rfl, hb'⟩ := hrel
    have HB := hide hb'
    clear hb'
    by_cases hlt : k < b
    · skip
      have hd := Ad.dig_hi k (by omega)
      have hd1 := Ad.dig_lo k (by omega)
      by_cases hz : s.size < 1 + (Ad.dig k).length
      · have hz' : (s.size : Int) < 1 + (Ad.dig k).length := by omega
        go_wp2_with fail
        refine (rdig _ _ (by omega) (by omega)).mono ?_
        rintro e w1 ⟨rfl, hb1⟩
        rw [Int.toNat_natCast]
        have HB1 := hide (Below.then (unhide HB) hb1)
        clear hb1 HB
        go_wp2_with fail
        go_roundw
        case rel => exact ⟨k + 1, by omega, by go_num, unhide HB1⟩
        case measure => simp [intOf]; omega
      · have hz' : ¬ (s.size : Int) < 1 + (Ad.dig k).length := by omega
        have hz'' : (s.size : Int) - (1 + (Ad.dig k).length) ≤ s.size := by omega
        cases hm : ends s k with
        | false =>
          unfold ends at hm
          go_wp2_with fail
          refine (rdig _ _ (by omega) (by omega)).mono ?_
          rintro e w1 ⟨rfl, hb1⟩
          rw [Int.toNat_natCast]
          have HB1 := hide (Below.then (unhide HB) hb1)
          clear hb1 HB
          go_wp2_with fail
          go_roundw
          case rel => exact ⟨k + 1, by omega, by go_num, unhide HB1⟩
          case measure => simp [intOf]; omega
        | true =>
          have hl := ends_list s k hm
          rw [← unhide KT] at hl
          have := end_one a b k _ ha hb (by omega) hl
          omega
    · have hkb : k = b := by omega
      subst hkb
      obtain ⟨hm, hz, hp⟩ := ends_of s k (Ad.txt a) (by rw [← unhide KT, Ad.netx])
      have hd := Ad.dig_hi k (by omega)
      have hd1 := Ad.dig_lo k (by omega)
      have hz' : ¬ (s.size : Int) < 1 + (Ad.dig k).length := by omega
      have hz'' : (s.size : Int) - (1 + (Ad.dig k).length) ≤ s.size := by omega
      have zp : (s.extract 0 (s.size - (1 + (Ad.dig k).length))).size ≤ 140737488355328 := by rw [ByteArray.size_extract]; omega
      have HP : ∀ W, Calls Tryd.prog 12 #[.string (s.extract 0 (s.size - (1 + (Ad.dig k).length)))] W fun e w' => e = .returned (.tuple #[.int .u32 a, .bool true]) ∧ Below W.heap.size W w' := fun W => by
        have := rparse_yes _ W zp ⟨a, ha, hp.symm⟩
        rw [hp, Ad.gs_txt a ha] at this
        exact this
      have KP := hide HP
      clear HP hp
      unfold ends at hm
      go_wp2_with fail
      refine (rdig _ _ (by omega) (by omega)).mono ?_
      rintro e w1 ⟨rfl, hb1⟩
      rw [Int.toNat_natCast]
      have HB1 := hide (Below.then (unhide HB) hb1)
      clear hb1 HB
      go_wp2_with fail
      refine (unhide KP w1).mono ?_
      rintro e w2 ⟨rfl, hb2⟩
      have HB2 := hide (Below.then (unhide HB1) hb2)
      clear hb2
      go_wp2_with fail
      refine (rright _ _ _ (by omega) (by omega)).mono ?_
      rintro e w3 ⟨rfl, rfl⟩
      go_wp2_with fail
      go_returns
      exact ⟨rfl, unhide HB2⟩
end Go.Proofs.YtnnhkjjnolhaoaaDoor
