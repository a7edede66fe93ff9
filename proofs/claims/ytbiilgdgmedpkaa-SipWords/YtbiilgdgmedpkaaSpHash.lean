/- Hash. -/
import Derived.Test.YtbiilgdgmedpkaaSpBegun
namespace Go.Proofs.Ytbiilgdgmedpkaa
open Go.ChangeShapes Go.WideShapes Go.ChangeAt Go.RowKit Sp

set_option maxHeartbeats 400000 in
theorem hash_no (key s : ByteArray) (w : World) (hk : key.size ≠ 16) :
    Calls Try.prog 10 #[.string key, .string s] w fun e w' => e = .returned (.tuple #[.int .u64 0, .bool false]) ∧ w' = w := by
  have hd : ((key.size : Int) != 16) = true := by simp; omega
  go_enter Try.func10, Try.ntmps10
  go_wp2_with fail
  go_ret2
  exact ⟨rfl, rfl⟩

set_option maxHeartbeats 2000000 in
theorem hash_yes (key s : ByteArray) (w : World) (hk : key.size = 16) (hs : s.size ≤ maxLen) :
    Calls Try.prog 10 #[.string key, .string s] w fun e w' => e = .returned (.tuple #[.int .u64 (nn (hash key s)), .bool true]) ∧ Below w.heap.size w w' := by
  have hs0 := hs
  unfold maxLen at hs
  have hd : ((key.size : Int) != 16) = false := by simp; omega
  have HBG := hide (begun_any key w hk)
  obtain ⟨s0, hs0'⟩ : ∃ s0, s0 = beg (wd key 0 0) (wd key 8 0) := ⟨_, rfl⟩
  rw [← hs0'] at HBG
  have HL := hide (fun W => last_any s W hs0)
  have HF : Hid (hash key s = Sp.fin (inW (runW (fun k => wd s (8 * k) 0) (s.size / 8) s0) (lastW s))) := by show _ = _; rw [hs0']; rfl
  clear hs0 hs0'
  obtain ⟨f, hf⟩ : ∃ f : Nat → Sp.B, Hid ((fun k => wd s (8 * k) 0) = f) := ⟨_, rfl⟩
  rw [unhide hf] at HF
  go_enter Try.func10, Try.ntmps10
  go_wp2_with fail
  refine (unhide HBG).mono ?_
  rintro e w1 ⟨rfl, hb1⟩
  have HB1 := hide hb1
  clear hb1 HBG
  go_wp2_with fail
  obtain ⟨W0, hW0⟩ : ∃ W0, w1.alloc (.cells #[.int .u64 (nn s0.a), .int .u64 (nn s0.b), .int .u64 (nn s0.c), .int .u64 (nn s0.d)] 35) = W0 := ⟨_, rfl⟩
  obtain ⟨p, hp⟩ : ∃ p, w1.heap.size = p := ⟨_, rfl⟩
  have HR0 : Hid (Row W0 p (cel s0.l)) := by rw [← hW0, ← hp]; exact row_new w1 (cel s0.l) 35
  have HB0 : Hid (Below w.heap.size w W0) := by rw [← hW0]; exact (unhide HB1).alloc (unhide HB1).size _
  have HP : Hid (w.heap.size ≤ p) := by rw [← hp]; exact (unhide HB1).size
  simp only [hW0, hp]
  clear hW0 hp HB1
  go_loopw [18] (fun t W => ∃ k : Nat, k ≤ s.size / 8 ∧ t = .int .i64 k ∧ Row W p (cel (runW f k s0).l) ∧ But [p] W0 W) (fun t _ => s.size / 8 - (intOf t).toNat)
  case atStart => exact ⟨0, Nat.zero_le _, rfl, unhide HR0, But.of (Below.refl _ _)⟩
  case round =>
    obtain ⟨k, hkn, rfl, hr, hb⟩ := hrel
    have HR := hide hr
    have HB := hide hb
    clear hr hb HR0
    by_cases hlt : k < s.size / 8
    · have hlt' : (k : Int) < (s.size : Int) / 8 := by omega
      have b1 : ((k : Int) + 1) * 8 ≤ s.size := by omega
      have hsz : (s.extract (k * 8) ((k + 1) * 8)).size ≤ 8 := by rw [ext_size _ _ _ (by omega)]; omega
      have HN : Hid (∀ W, Calls Try.prog 16 #[.string (s.extract (k * 8) ((k + 1) * 8))] W fun e w' => e = .returned (.int .u64 (nn (f k))) ∧ w' = W) := fun W => by
        have h := number_any (s.extract (k * 8) ((k + 1) * 8)) W hsz
        have e : leB (s.extract (k * 8) ((k + 1) * 8)).data.toList = f k := by
          rw [← unhide hf, ext_head, show (k + 1) * 8 - k * 8 = 8 by omega, show k * 8 = 8 * k by omega]; rfl
        rw [e] at h
        exact h
      clear hsz
      go_wp2_with fail
      refine (unhide HN _).mono ?_
      rintro e w2 ⟨rfl, rfl⟩
      go_wp2_with fail
      refine (take_any p _ (f k) _ (unhide HR)).mono ?_
      rintro e w3 ⟨rfl, hr3, hb3⟩
      have HR3 := hide hr3
      have HB3 := hide ((unhide HB).trans hb3)
      clear hr3 hb3
      go_wp2_with fail
      go_roundw
      case rel => exact ⟨k + 1, by omega, by go_num, unhide HR3, unhide HB3⟩
      case measure => simp [intOf]; omega
    · obtain rfl : k = s.size / 8 := by omega
      go_wp2_with fail
      refine (unhide HL _).mono ?_
      rintro e w2 ⟨rfl, rfl⟩
      go_wp2_with fail
      refine (take_any p _ (lastW s) _ (unhide HR)).mono ?_
      rintro e w3 ⟨rfl, hr3, hb3⟩
      have HR3 := hide hr3
      have HB3 := hide ((unhide HB).trans hb3)
      clear hr3 hb3
      go_wp2_with fail
      refine (sum_any p _ _ (unhide HR3)).mono ?_
      rintro e w4 ⟨rfl, hb4⟩
      have HB4 := hide ((unhide HB3).trans hb4)
      clear hb4
      go_wp2_with fail
      go_ret2
      exact ⟨by rw [unhide HF]; rfl, (unhide HB4).below (unhide HB0) (by intro x hx; have := unhide HP; simp at hx; omega)⟩

theorem hash_any (key s : ByteArray) (w : World) (hs : s.size ≤ maxLen) :
    Calls Try.prog 10 #[.string key, .string s] w fun e w' => e = .returned (.tuple #[.int .u64 (nn (hashV key s)), .bool (key.size == 16)]) ∧ Below w.heap.size w w' := by
  unfold hashV
  by_cases hk : key.size = 16
  · rw [if_pos hk, beq_iff_eq.2 hk]
    exact hash_yes key s w hk hs
  · rw [if_neg hk, beq_eq_false_iff_ne.2 hk]
    exact (hash_no key s w hk).mono fun e w' ⟨he, hw⟩ => ⟨he, by rw [hw]; exact Below.refl _ _⟩
end Go.Proofs.Ytbiilgdgmedpkaa
