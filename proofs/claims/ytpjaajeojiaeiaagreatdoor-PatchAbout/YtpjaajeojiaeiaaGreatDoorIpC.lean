/- Contracts and mathematics of the layers below (IpByte, IpMeas, IpParse, IpSize). -/
import Derived.Test.YtpjaajeojiaeiaaGreatDoorIpA
import Derived.Test.YtpjaajeojiaeiaaGreatDoorIpB
import Derived.Test.YtpjaajeojiaeiaaGreatDoorRg
import Derived.Test.YtpjaajeojiaeiaaGreatDoorCl
import Derived.Test.YtpjaajeojiaeiaaGreatDoorCk
/- The numbers that read finds, byte by byte. Nothing of the program is in here. -/
namespace Go.Proofs.YtpjaajeojiaeiaaGreatDoor.Ip
open Go.RowKit

/-- Byte i of a text. -/
def byt (s : ByteArray) (i : Nat) : Int := ((s.data.toList.getD i 0).toNat : Int)
theorem byt_lo (s : ByteArray) (i : Nat) : 0 ≤ byt s i := Int.natCast_nonneg _
theorem byt_hi (s : ByteArray) (i : Nat) : byt s i < 256 := by unfold byt; have := (s.data.toList.getD i 0).toNat_lt; omega
theorem byt_eq (s : ByteArray) (i : Nat) (h : i < s.size) : byt s i = (s[i].toNat : Int) := by unfold byt; rw [getD_byte s i h]
theorem num4 (l : List UInt8) (p : Nat) (h : p + 3 < l.length) : (Oct.num ((l.drop p).take 4) : Int) = (((l.getD p 0).toNat * 256 + (l.getD (p + 1) 0).toNat) * 256 + (l.getD (p + 2) 0).toNat) * 256 + (l.getD (p + 3) 0).toNat := by
 rw [drop_head l p (by omega), drop_head l (p + 1) (by omega), drop_head l (p + 2) (by omega), drop_head l (p + 3) (by omega)]
 simp [Oct.num]
theorem num2 (l : List UInt8) (p : Nat) (h : p + 1 < l.length) : (Oct.num ((l.drop p).take 2) : Int) = (l.getD p 0).toNat * 256 + (l.getD (p + 1) 0).toNat := by
 rw [drop_head l p (by omega), drop_head l (p + 1) (by omega)]
 simp [Oct.num]
theorem num1 (l : List UInt8) (p : Nat) (h : p < l.length) : (Oct.num ((l.drop p).take 1) : Int) = (l.getD p 0).toNat := by
 rw [drop_head l p (by omega)]
 simp [Oct.num]
theorem word_at (s : ByteArray) (p : Nat) (h : p + 3 < s.size) : (Oct.num ((s.data.toList.drop p).take 4) : Int) = ((byt s p * 256 + byt s (p + 1)) * 256 + byt s (p + 2)) * 256 + byt s (p + 3) := num4 _ p (by rw [Oct.len_eq]; exact h)

/-- The twelve numbers. -/
def fb (s : ByteArray) : Nat → Int
 | 0 => byt s 0 / 16 | 1 => byt s 0 % 16 | 2 => byt s 1 | 3 => byt s 2 * 256 + byt s 3
 | 4 => byt s 4 * 256 + byt s 5 | 5 => (byt s 6 * 256 + byt s 7) / 8192 | 6 => (byt s 6 * 256 + byt s 7) % 8192
 | 7 => byt s 8 | 8 => byt s 9 | 9 => byt s 10 * 256 + byt s 11
 | 10 => ((byt s 12 * 256 + byt s 13) * 256 + byt s 14) * 256 + byt s 15
 | _ => ((byt s 16 * 256 + byt s 17) * 256 + byt s 18) * 256 + byt s 19
theorem fget_fb (s : ByteArray) (h : 20 ≤ s.size) (k : Nat) (hk : k < 12) : fget s k = fb s k := by
 have w0 : (Oct.num ((s.data.toList.drop 0).take 4) : Int) = ((byt s 0 * 256 + byt s 1) * 256 + byt s 2) * 256 + byt s 3 := word_at s 0 (by omega)
 have w1 : (Oct.num ((s.data.toList.drop 4).take 4) : Int) = ((byt s 4 * 256 + byt s 5) * 256 + byt s 6) * 256 + byt s 7 := word_at s 4 (by omega)
 have w2 : (Oct.num ((s.data.toList.drop 8).take 4) : Int) = ((byt s 8 * 256 + byt s 9) * 256 + byt s 10) * 256 + byt s 11 := word_at s 8 (by omega)
 have w3 : (Oct.num ((s.data.toList.drop 12).take 4) : Int) = ((byt s 12 * 256 + byt s 13) * 256 + byt s 14) * 256 + byt s 15 := word_at s 12 (by omega)
 have w4 : (Oct.num ((s.data.toList.drop 16).take 4) : Int) = ((byt s 16 * 256 + byt s 17) * 256 + byt s 18) * 256 + byt s 19 := word_at s 16 (by omega)
 have lo := byt_lo s
 have hi := byt_hi s
 have l0 := lo 0; have l1 := lo 1; have l2 := lo 2; have l3 := lo 3; have l4 := lo 4; have l5 := lo 5; have l6 := lo 6; have l7 := lo 7; have l8 := lo 8; have l9 := lo 9
 have l10 := lo 10; have l11 := lo 11; have l12 := lo 12; have l13 := lo 13; have l14 := lo 14; have l15 := lo 15; have l16 := lo 16; have l17 := lo 17; have l18 := lo 18; have l19 := lo 19
 have h0 := hi 0; have h1 := hi 1; have h2 := hi 2; have h3 := hi 3; have h4 := hi 4; have h5 := hi 5; have h6 := hi 6; have h7 := hi 7; have h8 := hi 8; have h9 := hi 9
 have h10 := hi 10; have h11 := hi 11; have h12 := hi 12; have h13 := hi 13; have h14 := hi 14; have h15 := hi 15; have h16 := hi 16; have h17 := hi 17; have h18 := hi 18; have h19 := hi 19
 clear lo hi
 rcases twelve hk with rfl | rfl | rfl | rfl | rfl | rfl | rfl | rfl | rfl | rfl | rfl | rfl
 ·show (Oct.num ((s.data.toList.drop 0).take 4) : Int) / 268435456 % 16 = byt s 0 / 16
  rw [w0]; omega
 ·show (Oct.num ((s.data.toList.drop 0).take 4) : Int) / 16777216 % 16 = byt s 0 % 16
  rw [w0]; omega
 ·show (Oct.num ((s.data.toList.drop 0).take 4) : Int) / 65536 % 256 = byt s 1
  rw [w0]; omega
 ·show (Oct.num ((s.data.toList.drop 0).take 4) : Int) / 1 % 65536 = byt s 2 * 256 + byt s 3
  rw [w0]; omega
 ·show (Oct.num ((s.data.toList.drop 4).take 4) : Int) / 65536 % 65536 = byt s 4 * 256 + byt s 5
  rw [w1]; omega
 ·show (Oct.num ((s.data.toList.drop 4).take 4) : Int) / 8192 % 8 = (byt s 6 * 256 + byt s 7) / 8192
  rw [w1]; omega
 ·show (Oct.num ((s.data.toList.drop 4).take 4) : Int) / 1 % 8192 = (byt s 6 * 256 + byt s 7) % 8192
  rw [w1]; omega
 ·show (Oct.num ((s.data.toList.drop 8).take 4) : Int) / 16777216 % 256 = byt s 8
  rw [w2]; omega
 ·show (Oct.num ((s.data.toList.drop 8).take 4) : Int) / 65536 % 256 = byt s 9
  rw [w2]; omega
 ·show (Oct.num ((s.data.toList.drop 8).take 4) : Int) / 1 % 65536 = byt s 10 * 256 + byt s 11
  rw [w2]; omega
 ·show (Oct.num ((s.data.toList.drop 12).take 4) : Int) / 1 % 4294967296 = ((byt s 12 * 256 + byt s 13) * 256 + byt s 14) * 256 + byt s 15
  rw [w3]; omega
 ·show (Oct.num ((s.data.toList.drop 16).take 4) : Int) / 1 % 4294967296 = ((byt s 16 * 256 + byt s 17) * 256 + byt s 18) * 256 + byt s 19
  rw [w4]; omega
theorem fget_fits (s : ByteArray) : Fits12 (fget s) := fun k _ => ⟨Int.emod_nonneg _ (Int.ne_of_gt (Int.pow_pos (by decide))), Int.emod_lt_of_pos _ (Int.pow_pos (by decide))⟩

/-- The error that measured tells. -/
def measE (s : ByteArray) : Int :=
 if s.size < 20 then 2 else if ¬ fget s 0 = 4 then 3 else if fget s 1 * 4 < 20 ∨ (s.size : Int) < fget s 1 * 4 then 4
 else if fget s 3 < fget s 1 * 4 ∨ (s.size : Int) < fget s 3 then 5 else if 1500 < fget s 3 then 18 else 0
/-- What holds where it tells none. -/
structure Meas (s : ByteArray) : Prop where
 n : 20 ≤ s.size
 v : fget s 0 = 4
 lo : 20 ≤ fget s 1 * 4
 hi : fget s 1 * 4 ≤ s.size
 t0 : fget s 1 * 4 ≤ fget s 3
 t1 : fget s 3 ≤ s.size
 t2 : fget s 3 ≤ 1500
theorem meas_of {s : ByteArray} (h : measE s = 0) : Meas s := by
 unfold measE at h
 split at h
 ·cases h
 ·split at h
  ·cases h
  ·split at h
   ·cases h
   ·split at h
    ·cases h
    ·split at h
     ·cases h
     ·exact ⟨by omega, by omega, by omega, by omega, by omega, by omega, by omega⟩
theorem meas_to {s : ByteArray} (h : Meas s) : measE s = 0 := by
 obtain ⟨n, v, lo, hi, t0, t1, t2⟩ := h
 unfold measE
 rw [if_neg (by omega), if_neg (by omega), if_neg (by omega), if_neg (by omega), if_neg (by omega)]
end Go.Proofs.YtpjaajeojiaeiaaGreatDoor.Ip

/- What measured and Size compute, and the reference's Sizes. -/
namespace Go.Proofs.YtpjaajeojiaeiaaGreatDoor.Ip
open Go.ChangeShapes Go.WideShapes Go.ChangeAt Go.RowKit

def zeroF : Nat → Int := fun _ => 0
/-- The fixed part that measured answers. -/
def measF (s : ByteArray) : Nat → Int := if measE s = 0 then fget s else zeroF
abbrev zeroFix : Value := .agg #[.int .i64 0, .int .i64 0, .int .i64 0, .int .i64 0, .int .i64 0, .int .i64 0, .int .i64 0, .int .i64 0, .int .i64 0, .int .i64 0, .int .i64 0, .int .i64 0]

set_option maxRecDepth 100000 in
set_option maxHeartbeats 2000000 in
theorem measured_any (s : ByteArray) (w : World) (hs : s.size ≤ 281474976710656) :
  Calls Tryz.prog 64 #[.string s] w fun e w' => e = .returned (.tuple #[fixVal (measF s), .int .i64 (measE s)]) ∧ Below w.heap.size w w' := by
 have hs9 : (s.size : Int) ≤ 281474976710656 := by omega
 by_cases h20 : s.size < 20
 ·have HR : Hid (measE s = 2) := by show _ = _; unfold measE; rw [if_pos h20]
  have HZ : Hid (measF s = zeroF) := by show _ = _; unfold measF; rw [HR.out, if_neg (by decide)]
  have hd : decide ((s.size : Int) < 20) = true := by simp; omega
  go_enter Tryz.func64, Tryz.ntmps64
  go_wp2_with fail
  rw [HR.out, HZ.out]
  refine bodyPost_ret (v := .tuple #[zeroFix, .int .i64 2]) ?_ rfl ⟨rfl, ?_⟩
  ·simp [results, Tryz.results64, go_sem]
  ·(repeat first | exact Below.refl _ _ | refine Below.drew ?_ | refine Below.alloc ?_ (by simp <;> omega) _ | refine Below.setCell ?_ (by simp <;> omega) _)
 ·have h20' : 20 ≤ s.size := by omega
  have hd20 : decide ((s.size : Int) < 20) = false := by simp; omega
  have f1 := fit1 (fget_fits s)
  have f3 := fit3 (fget_fits s)
  by_cases h0 : fget s 0 = 4
  case neg =>
   have HR : Hid (measE s = 3) := by show _ = _; unfold measE; rw [if_neg h20, if_pos h0]
   have HZ : Hid (measF s = zeroF) := by show _ = _; unfold measF; rw [HR.out, if_neg (by decide)]
   have H0 := hide h0
   clear h0
   go_enter Tryz.func64, Tryz.ntmps64
   go_wp2_with fail
   refine (read_any s _ h20' hs).mono ?_
   rintro e w1 ⟨rfl, hb1⟩
   obtain ⟨HZ, HZf⟩ : FixAt w1 w.heap.size zeroF ∧ ∀ j, w1.frozen? ⟨w.heap.size, j, none⟩ = false := ⟨(fixAt_new w zeroF 113).on hb1 (by simp), fun j => (hb1.frozen (p := ⟨w.heap.size, j, none⟩) (by simp)).trans (by simp [go_sem])⟩
   have hbw : Below w.heap.size w w1 := ((Below.refl w.heap.size w).alloc (Nat.le_refl _) _).trans (hb1.mono (by simp))
   have hsw : w.heap.size + 1 ≤ w1.heap.size := by have := hb1.size; simp at this; omega
   have hV1 := fixAt_new w1 (fget s) 113
   have hV2 := HZ.on ((Below.refl w1.heap.size w1).alloc (Nat.le_refl _) (.cells #[.int .i64 (fget s 0), .int .i64 (fget s 1), .int .i64 (fget s 2), .int .i64 (fget s 3), .int .i64 (fget s 4), .int .i64 (fget s 5), .int .i64 (fget s 6), .int .i64 (fget s 7), .int .i64 (fget s 8), .int .i64 (fget s 9), .int .i64 (fget s 10), .int .i64 (fget s 11)] 113)) (by omega)
   have hV3 : ∀ j, (w1.alloc (.cells #[.int .i64 (fget s 0), .int .i64 (fget s 1), .int .i64 (fget s 2), .int .i64 (fget s 3), .int .i64 (fget s 4), .int .i64 (fget s 5), .int .i64 (fget s 6), .int .i64 (fget s 7), .int .i64 (fget s 8), .int .i64 (fget s 9), .int .i64 (fget s 10), .int .i64 (fget s 11)] 113)).frozen? ⟨w.heap.size, j, none⟩ = false := fun j => (((Below.refl w1.heap.size w1).alloc (Nat.le_refl _) _).frozen (p := ⟨w.heap.size, j, none⟩) (by simp; omega)).trans (HZf j)
   have hV4 := hbw.alloc (by omega) (.cells #[.int .i64 (fget s 0), .int .i64 (fget s 1), .int .i64 (fget s 2), .int .i64 (fget s 3), .int .i64 (fget s 4), .int .i64 (fget s 5), .int .i64 (fget s 6), .int .i64 (fget s 7), .int .i64 (fget s 8), .int .i64 (fget s 9), .int .i64 (fget s 10), .int .i64 (fget s 11)] 113)
   clear hb1 HZ HZf hbw
   go_wp2_with fail
   generalize w1.alloc (.cells #[.int .i64 (fget s 0), .int .i64 (fget s 1), .int .i64 (fget s 2), .int .i64 (fget s 3), .int .i64 (fget s 4), .int .i64 (fget s 5), .int .i64 (fget s 6), .int .i64 (fget s 7), .int .i64 (fget s 8), .int .i64 (fget s 9), .int .i64 (fget s 10), .int .i64 (fget s 11)] 113) = V at *
   refine (size_any w1.heap.size (fget s) V hV1 (by omega) (by omega)).mono ?_
   rintro e w2 ⟨rfl, rfl⟩
   have h0 := unhide H0
   have c0 := hV1 0 (by decide)
   have r0 := hV2 0 (by decide)
   have c1 := hV1 1 (by decide)
   have r1 := hV2 1 (by decide)
   have c2 := hV1 2 (by decide)
   have r2 := hV2 2 (by decide)
   have c3 := hV1 3 (by decide)
   have r3 := hV2 3 (by decide)
   have c4 := hV1 4 (by decide)
   have r4 := hV2 4 (by decide)
   have c5 := hV1 5 (by decide)
   have r5 := hV2 5 (by decide)
   have c6 := hV1 6 (by decide)
   have r6 := hV2 6 (by decide)
   have c7 := hV1 7 (by decide)
   have r7 := hV2 7 (by decide)
   have c8 := hV1 8 (by decide)
   have r8 := hV2 8 (by decide)
   have c9 := hV1 9 (by decide)
   have r9 := hV2 9 (by decide)
   have c10 := hV1 10 (by decide)
   have r10 := hV2 10 (by decide)
   have c11 := hV1 11 (by decide)
   have r11 := hV2 11 (by decide)
   simp only [zeroF] at r0 r1 r2 r3 r4 r5 r6 r7 r8 r9 r10 r11
   have HV1 := hide hV1
   have HV2 := hide hV2
   have HV4 := hide hV4
   clear hV1 hV2 hV4
   go_wp2_with fail
   have hfx := set12_fix (zeroF) (unhide HV2)
   have hbz := set12_below (b := w.heap.size) (F := zeroF) (unhide HV4) (Nat.le_refl _)
   clear HV1 HV2 HV4 hV3 c0 r0 c1 r1 c2 r2 c3 r3 c4 r4 c5 r5 c6 r6 c7 r7 c8 r8 c9 r9 c10 r10 c11 r11
   have g0 := hfx 0 (by decide)
   have g1 := hfx 1 (by decide)
   have g2 := hfx 2 (by decide)
   have g3 := hfx 3 (by decide)
   have g4 := hfx 4 (by decide)
   have g5 := hfx 5 (by decide)
   have g6 := hfx 6 (by decide)
   have g7 := hfx 7 (by decide)
   have g8 := hfx 8 (by decide)
   have g9 := hfx 9 (by decide)
   have g10 := hfx 10 (by decide)
   have g11 := hfx 11 (by decide)
   clear hfx
   simp only [set12, zeroF] at hbz g0 g1 g2 g3 g4 g5 g6 g7 g8 g9 g10 g11
   rw [HR.out, HZ.out]
   refine bodyPost_ret (v := .tuple #[zeroFix, .int .i64 3]) ?_ rfl ⟨rfl, hbz⟩
   simp [results, Tryz.results64, go_sem, g0, g1, g2, g3, g4, g5, g6, g7, g8, g9, g10, g11]
  case pos =>
   by_cases ha : fget s 1 * 4 < 20
   case pos =>
    have HR : Hid (measE s = 4) := by show _ = _; unfold measE; rw [if_neg h20, if_neg (not_not_intro h0), if_pos (.inl ha)]
    have HZ : Hid (measF s = zeroF) := by show _ = _; unfold measF; rw [HR.out, if_neg (by decide)]
    have d1 : decide (fget s 1 * 4 < 20) = true := by simpa using ha
    have H0 := hide h0
    clear h0
    go_enter Tryz.func64, Tryz.ntmps64
    go_wp2_with fail
    refine (read_any s _ h20' hs).mono ?_
    rintro e w1 ⟨rfl, hb1⟩
    obtain ⟨HZ, HZf⟩ : FixAt w1 w.heap.size zeroF ∧ ∀ j, w1.frozen? ⟨w.heap.size, j, none⟩ = false := ⟨(fixAt_new w zeroF 113).on hb1 (by simp), fun j => (hb1.frozen (p := ⟨w.heap.size, j, none⟩) (by simp)).trans (by simp [go_sem])⟩
    have hbw : Below w.heap.size w w1 := ((Below.refl w.heap.size w).alloc (Nat.le_refl _) _).trans (hb1.mono (by simp))
    have hsw : w.heap.size + 1 ≤ w1.heap.size := by have := hb1.size; simp at this; omega
    have hV1 := fixAt_new w1 (fget s) 113
    have hV2 := HZ.on ((Below.refl w1.heap.size w1).alloc (Nat.le_refl _) (.cells #[.int .i64 (fget s 0), .int .i64 (fget s 1), .int .i64 (fget s 2), .int .i64 (fget s 3), .int .i64 (fget s 4), .int .i64 (fget s 5), .int .i64 (fget s 6), .int .i64 (fget s 7), .int .i64 (fget s 8), .int .i64 (fget s 9), .int .i64 (fget s 10), .int .i64 (fget s 11)] 113)) (by omega)
    have hV3 : ∀ j, (w1.alloc (.cells #[.int .i64 (fget s 0), .int .i64 (fget s 1), .int .i64 (fget s 2), .int .i64 (fget s 3), .int .i64 (fget s 4), .int .i64 (fget s 5), .int .i64 (fget s 6), .int .i64 (fget s 7), .int .i64 (fget s 8), .int .i64 (fget s 9), .int .i64 (fget s 10), .int .i64 (fget s 11)] 113)).frozen? ⟨w.heap.size, j, none⟩ = false := fun j => (((Below.refl w1.heap.size w1).alloc (Nat.le_refl _) _).frozen (p := ⟨w.heap.size, j, none⟩) (by simp; omega)).trans (HZf j)
    have hV4 := hbw.alloc (by omega) (.cells #[.int .i64 (fget s 0), .int .i64 (fget s 1), .int .i64 (fget s 2), .int .i64 (fget s 3), .int .i64 (fget s 4), .int .i64 (fget s 5), .int .i64 (fget s 6), .int .i64 (fget s 7), .int .i64 (fget s 8), .int .i64 (fget s 9), .int .i64 (fget s 10), .int .i64 (fget s 11)] 113)
    clear hb1 HZ HZf hbw
    go_wp2_with fail
    generalize w1.alloc (.cells #[.int .i64 (fget s 0), .int .i64 (fget s 1), .int .i64 (fget s 2), .int .i64 (fget s 3), .int .i64 (fget s 4), .int .i64 (fget s 5), .int .i64 (fget s 6), .int .i64 (fget s 7), .int .i64 (fget s 8), .int .i64 (fget s 9), .int .i64 (fget s 10), .int .i64 (fget s 11)] 113) = V at *
    refine (size_any w1.heap.size (fget s) V hV1 (by omega) (by omega)).mono ?_
    rintro e w2 ⟨rfl, rfl⟩
    have h0 := unhide H0
    have c0 := hV1 0 (by decide)
    have r0 := hV2 0 (by decide)
    have c1 := hV1 1 (by decide)
    have r1 := hV2 1 (by decide)
    have c2 := hV1 2 (by decide)
    have r2 := hV2 2 (by decide)
    have c3 := hV1 3 (by decide)
    have r3 := hV2 3 (by decide)
    have c4 := hV1 4 (by decide)
    have r4 := hV2 4 (by decide)
    have c5 := hV1 5 (by decide)
    have r5 := hV2 5 (by decide)
    have c6 := hV1 6 (by decide)
    have r6 := hV2 6 (by decide)
    have c7 := hV1 7 (by decide)
    have r7 := hV2 7 (by decide)
    have c8 := hV1 8 (by decide)
    have r8 := hV2 8 (by decide)
    have c9 := hV1 9 (by decide)
    have r9 := hV2 9 (by decide)
    have c10 := hV1 10 (by decide)
    have r10 := hV2 10 (by decide)
    have c11 := hV1 11 (by decide)
    have r11 := hV2 11 (by decide)
    simp only [zeroF] at r0 r1 r2 r3 r4 r5 r6 r7 r8 r9 r10 r11
    have HV1 := hide hV1
    have HV2 := hide hV2
    have HV4 := hide hV4
    clear hV1 hV2 hV4
    go_wp2_with fail
    have hfx := set12_fix (zeroF) (unhide HV2)
    have hbz := set12_below (b := w.heap.size) (F := zeroF) (unhide HV4) (Nat.le_refl _)
    clear HV1 HV2 HV4 hV3 c0 r0 c1 r1 c2 r2 c3 r3 c4 r4 c5 r5 c6 r6 c7 r7 c8 r8 c9 r9 c10 r10 c11 r11
    have g0 := hfx 0 (by decide)
    have g1 := hfx 1 (by decide)
    have g2 := hfx 2 (by decide)
    have g3 := hfx 3 (by decide)
    have g4 := hfx 4 (by decide)
    have g5 := hfx 5 (by decide)
    have g6 := hfx 6 (by decide)
    have g7 := hfx 7 (by decide)
    have g8 := hfx 8 (by decide)
    have g9 := hfx 9 (by decide)
    have g10 := hfx 10 (by decide)
    have g11 := hfx 11 (by decide)
    clear hfx
    simp only [set12, zeroF] at hbz g0 g1 g2 g3 g4 g5 g6 g7 g8 g9 g10 g11
    rw [HR.out, HZ.out]
    refine bodyPost_ret (v := .tuple #[zeroFix, .int .i64 4]) ?_ rfl ⟨rfl, hbz⟩
    simp [results, Tryz.results64, go_sem, g0, g1, g2, g3, g4, g5, g6, g7, g8, g9, g10, g11]
   case neg =>
    have d1 : decide (fget s 1 * 4 < 20) = false := by simpa using ha
    by_cases hb : (s.size : Int) < fget s 1 * 4
    case pos =>
     have HR : Hid (measE s = 4) := by show _ = _; unfold measE; rw [if_neg h20, if_neg (not_not_intro h0), if_pos (.inr hb)]
     have HZ : Hid (measF s = zeroF) := by show _ = _; unfold measF; rw [HR.out, if_neg (by decide)]
     have d2 : decide ((s.size : Int) < fget s 1 * 4) = true := by simpa using hb
     have H0 := hide h0
     clear h0
     go_enter Tryz.func64, Tryz.ntmps64
     go_wp2_with fail
     refine (read_any s _ h20' hs).mono ?_
     rintro e w1 ⟨rfl, hb1⟩
     obtain ⟨HZ, HZf⟩ : FixAt w1 w.heap.size zeroF ∧ ∀ j, w1.frozen? ⟨w.heap.size, j, none⟩ = false := ⟨(fixAt_new w zeroF 113).on hb1 (by simp), fun j => (hb1.frozen (p := ⟨w.heap.size, j, none⟩) (by simp)).trans (by simp [go_sem])⟩
     have hbw : Below w.heap.size w w1 := ((Below.refl w.heap.size w).alloc (Nat.le_refl _) _).trans (hb1.mono (by simp))
     have hsw : w.heap.size + 1 ≤ w1.heap.size := by have := hb1.size; simp at this; omega
     have hV1 := fixAt_new w1 (fget s) 113
     have hV2 := HZ.on ((Below.refl w1.heap.size w1).alloc (Nat.le_refl _) (.cells #[.int .i64 (fget s 0), .int .i64 (fget s 1), .int .i64 (fget s 2), .int .i64 (fget s 3), .int .i64 (fget s 4), .int .i64 (fget s 5), .int .i64 (fget s 6), .int .i64 (fget s 7), .int .i64 (fget s 8), .int .i64 (fget s 9), .int .i64 (fget s 10), .int .i64 (fget s 11)] 113)) (by omega)
     have hV3 : ∀ j, (w1.alloc (.cells #[.int .i64 (fget s 0), .int .i64 (fget s 1), .int .i64 (fget s 2), .int .i64 (fget s 3), .int .i64 (fget s 4), .int .i64 (fget s 5), .int .i64 (fget s 6), .int .i64 (fget s 7), .int .i64 (fget s 8), .int .i64 (fget s 9), .int .i64 (fget s 10), .int .i64 (fget s 11)] 113)).frozen? ⟨w.heap.size, j, none⟩ = false := fun j => (((Below.refl w1.heap.size w1).alloc (Nat.le_refl _) _).frozen (p := ⟨w.heap.size, j, none⟩) (by simp; omega)).trans (HZf j)
     have hV4 := hbw.alloc (by omega) (.cells #[.int .i64 (fget s 0), .int .i64 (fget s 1), .int .i64 (fget s 2), .int .i64 (fget s 3), .int .i64 (fget s 4), .int .i64 (fget s 5), .int .i64 (fget s 6), .int .i64 (fget s 7), .int .i64 (fget s 8), .int .i64 (fget s 9), .int .i64 (fget s 10), .int .i64 (fget s 11)] 113)
     clear hb1 HZ HZf hbw
     go_wp2_with fail
     generalize w1.alloc (.cells #[.int .i64 (fget s 0), .int .i64 (fget s 1), .int .i64 (fget s 2), .int .i64 (fget s 3), .int .i64 (fget s 4), .int .i64 (fget s 5), .int .i64 (fget s 6), .int .i64 (fget s 7), .int .i64 (fget s 8), .int .i64 (fget s 9), .int .i64 (fget s 10), .int .i64 (fget s 11)] 113) = V at *
     refine (size_any w1.heap.size (fget s) V hV1 (by omega) (by omega)).mono ?_
     rintro e w2 ⟨rfl, rfl⟩
     have h0 := unhide H0
     have c0 := hV1 0 (by decide)
     have r0 := hV2 0 (by decide)
     have c1 := hV1 1 (by decide)
     have r1 := hV2 1 (by decide)
     have c2 := hV1 2 (by decide)
     have r2 := hV2 2 (by decide)
     have c3 := hV1 3 (by decide)
     have r3 := hV2 3 (by decide)
     have c4 := hV1 4 (by decide)
     have r4 := hV2 4 (by decide)
     have c5 := hV1 5 (by decide)
     have r5 := hV2 5 (by decide)
     have c6 := hV1 6 (by decide)
     have r6 := hV2 6 (by decide)
     have c7 := hV1 7 (by decide)
     have r7 := hV2 7 (by decide)
     have c8 := hV1 8 (by decide)
     have r8 := hV2 8 (by decide)
     have c9 := hV1 9 (by decide)
     have r9 := hV2 9 (by decide)
     have c10 := hV1 10 (by decide)
     have r10 := hV2 10 (by decide)
     have c11 := hV1 11 (by decide)
     have r11 := hV2 11 (by decide)
     simp only [zeroF] at r0 r1 r2 r3 r4 r5 r6 r7 r8 r9 r10 r11
     have HV1 := hide hV1
     have HV2 := hide hV2
     have HV4 := hide hV4
     clear hV1 hV2 hV4
     go_wp2_with fail
     have hfx := set12_fix (zeroF) (unhide HV2)
     have hbz := set12_below (b := w.heap.size) (F := zeroF) (unhide HV4) (Nat.le_refl _)
     clear HV1 HV2 HV4 hV3 c0 r0 c1 r1 c2 r2 c3 r3 c4 r4 c5 r5 c6 r6 c7 r7 c8 r8 c9 r9 c10 r10 c11 r11
     have g0 := hfx 0 (by decide)
     have g1 := hfx 1 (by decide)
     have g2 := hfx 2 (by decide)
     have g3 := hfx 3 (by decide)
     have g4 := hfx 4 (by decide)
     have g5 := hfx 5 (by decide)
     have g6 := hfx 6 (by decide)
     have g7 := hfx 7 (by decide)
     have g8 := hfx 8 (by decide)
     have g9 := hfx 9 (by decide)
     have g10 := hfx 10 (by decide)
     have g11 := hfx 11 (by decide)
     clear hfx
     simp only [set12, zeroF] at hbz g0 g1 g2 g3 g4 g5 g6 g7 g8 g9 g10 g11
     rw [HR.out, HZ.out]
     refine bodyPost_ret (v := .tuple #[zeroFix, .int .i64 4]) ?_ rfl ⟨rfl, hbz⟩
     simp [results, Tryz.results64, go_sem, g0, g1, g2, g3, g4, g5, g6, g7, g8, g9, g10, g11]
    case neg =>
     have d2 : decide ((s.size : Int) < fget s 1 * 4) = false := by simpa using hb
     by_cases hc : fget s 3 < fget s 1 * 4
     case pos =>
      have HR : Hid (measE s = 5) := by show _ = _; unfold measE; rw [if_neg h20, if_neg (not_not_intro h0), if_neg (by omega), if_pos (.inl hc)]
      have HZ : Hid (measF s = zeroF) := by show _ = _; unfold measF; rw [HR.out, if_neg (by decide)]
      have d3 : decide (fget s 3 < fget s 1 * 4) = true := by simpa using hc
      have H0 := hide h0
      clear h0
      go_enter Tryz.func64, Tryz.ntmps64
      go_wp2_with fail
      refine (read_any s _ h20' hs).mono ?_
      rintro e w1 ⟨rfl, hb1⟩
      obtain ⟨HZ, HZf⟩ : FixAt w1 w.heap.size zeroF ∧ ∀ j, w1.frozen? ⟨w.heap.size, j, none⟩ = false := ⟨(fixAt_new w zeroF 113).on hb1 (by simp), fun j => (hb1.frozen (p := ⟨w.heap.size, j, none⟩) (by simp)).trans (by simp [go_sem])⟩
      have hbw : Below w.heap.size w w1 := ((Below.refl w.heap.size w).alloc (Nat.le_refl _) _).trans (hb1.mono (by simp))
      have hsw : w.heap.size + 1 ≤ w1.heap.size := by have := hb1.size; simp at this; omega
      have hV1 := fixAt_new w1 (fget s) 113
      have hV2 := HZ.on ((Below.refl w1.heap.size w1).alloc (Nat.le_refl _) (.cells #[.int .i64 (fget s 0), .int .i64 (fget s 1), .int .i64 (fget s 2), .int .i64 (fget s 3), .int .i64 (fget s 4), .int .i64 (fget s 5), .int .i64 (fget s 6), .int .i64 (fget s 7), .int .i64 (fget s 8), .int .i64 (fget s 9), .int .i64 (fget s 10), .int .i64 (fget s 11)] 113)) (by omega)
      have hV3 : ∀ j, (w1.alloc (.cells #[.int .i64 (fget s 0), .int .i64 (fget s 1), .int .i64 (fget s 2), .int .i64 (fget s 3), .int .i64 (fget s 4), .int .i64 (fget s 5), .int .i64 (fget s 6), .int .i64 (fget s 7), .int .i64 (fget s 8), .int .i64 (fget s 9), .int .i64 (fget s 10), .int .i64 (fget s 11)] 113)).frozen? ⟨w.heap.size, j, none⟩ = false := fun j => (((Below.refl w1.heap.size w1).alloc (Nat.le_refl _) _).frozen (p := ⟨w.heap.size, j, none⟩) (by simp; omega)).trans (HZf j)
      have hV4 := hbw.alloc (by omega) (.cells #[.int .i64 (fget s 0), .int .i64 (fget s 1), .int .i64 (fget s 2), .int .i64 (fget s 3), .int .i64 (fget s 4), .int .i64 (fget s 5), .int .i64 (fget s 6), .int .i64 (fget s 7), .int .i64 (fget s 8), .int .i64 (fget s 9), .int .i64 (fget s 10), .int .i64 (fget s 11)] 113)
      clear hb1 HZ HZf hbw
      go_wp2_with fail
      generalize w1.alloc (.cells #[.int .i64 (fget s 0), .int .i64 (fget s 1), .int .i64 (fget s 2), .int .i64 (fget s 3), .int .i64 (fget s 4), .int .i64 (fget s 5), .int .i64 (fget s 6), .int .i64 (fget s 7), .int .i64 (fget s 8), .int .i64 (fget s 9), .int .i64 (fget s 10), .int .i64 (fget s 11)] 113) = V at *
      refine (size_any w1.heap.size (fget s) V hV1 (by omega) (by omega)).mono ?_
      rintro e w2 ⟨rfl, rfl⟩
      have h0 := unhide H0
      have c0 := hV1 0 (by decide)
      have r0 := hV2 0 (by decide)
      have c1 := hV1 1 (by decide)
      have r1 := hV2 1 (by decide)
      have c2 := hV1 2 (by decide)
      have r2 := hV2 2 (by decide)
      have c3 := hV1 3 (by decide)
      have r3 := hV2 3 (by decide)
      have c4 := hV1 4 (by decide)
      have r4 := hV2 4 (by decide)
      have c5 := hV1 5 (by decide)
      have r5 := hV2 5 (by decide)
      have c6 := hV1 6 (by decide)
      have r6 := hV2 6 (by decide)
      have c7 := hV1 7 (by decide)
      have r7 := hV2 7 (by decide)
      have c8 := hV1 8 (by decide)
      have r8 := hV2 8 (by decide)
      have c9 := hV1 9 (by decide)
      have r9 := hV2 9 (by decide)
      have c10 := hV1 10 (by decide)
      have r10 := hV2 10 (by decide)
      have c11 := hV1 11 (by decide)
      have r11 := hV2 11 (by decide)
      simp only [zeroF] at r0 r1 r2 r3 r4 r5 r6 r7 r8 r9 r10 r11
      have HV1 := hide hV1
      have HV2 := hide hV2
      have HV4 := hide hV4
      clear hV1 hV2 hV4
      go_wp2_with fail
      have hfx := set12_fix (zeroF) (unhide HV2)
      have hbz := set12_below (b := w.heap.size) (F := zeroF) (unhide HV4) (Nat.le_refl _)
      clear HV1 HV2 HV4 hV3 c0 r0 c1 r1 c2 r2 c3 r3 c4 r4 c5 r5 c6 r6 c7 r7 c8 r8 c9 r9 c10 r10 c11 r11
      have g0 := hfx 0 (by decide)
      have g1 := hfx 1 (by decide)
      have g2 := hfx 2 (by decide)
      have g3 := hfx 3 (by decide)
      have g4 := hfx 4 (by decide)
      have g5 := hfx 5 (by decide)
      have g6 := hfx 6 (by decide)
      have g7 := hfx 7 (by decide)
      have g8 := hfx 8 (by decide)
      have g9 := hfx 9 (by decide)
      have g10 := hfx 10 (by decide)
      have g11 := hfx 11 (by decide)
      clear hfx
      simp only [set12, zeroF] at hbz g0 g1 g2 g3 g4 g5 g6 g7 g8 g9 g10 g11
      rw [HR.out, HZ.out]
      refine bodyPost_ret (v := .tuple #[zeroFix, .int .i64 5]) ?_ rfl ⟨rfl, hbz⟩
      simp [results, Tryz.results64, go_sem, g0, g1, g2, g3, g4, g5, g6, g7, g8, g9, g10, g11]
     case neg =>
      have d3 : decide (fget s 3 < fget s 1 * 4) = false := by simpa using hc
      by_cases hd : (s.size : Int) < fget s 3
      case pos =>
       have HR : Hid (measE s = 5) := by show _ = _; unfold measE; rw [if_neg h20, if_neg (not_not_intro h0), if_neg (by omega), if_pos (.inr hd)]
       have HZ : Hid (measF s = zeroF) := by show _ = _; unfold measF; rw [HR.out, if_neg (by decide)]
       have d4 : decide ((s.size : Int) < fget s 3) = true := by simpa using hd
       have H0 := hide h0
       clear h0
       go_enter Tryz.func64, Tryz.ntmps64
       go_wp2_with fail
       refine (read_any s _ h20' hs).mono ?_
       rintro e w1 ⟨rfl, hb1⟩
       obtain ⟨HZ, HZf⟩ : FixAt w1 w.heap.size zeroF ∧ ∀ j, w1.frozen? ⟨w.heap.size, j, none⟩ = false := ⟨(fixAt_new w zeroF 113).on hb1 (by simp), fun j => (hb1.frozen (p := ⟨w.heap.size, j, none⟩) (by simp)).trans (by simp [go_sem])⟩
       have hbw : Below w.heap.size w w1 := ((Below.refl w.heap.size w).alloc (Nat.le_refl _) _).trans (hb1.mono (by simp))
       have hsw : w.heap.size + 1 ≤ w1.heap.size := by have := hb1.size; simp at this; omega
       have hV1 := fixAt_new w1 (fget s) 113
       have hV2 := HZ.on ((Below.refl w1.heap.size w1).alloc (Nat.le_refl _) (.cells #[.int .i64 (fget s 0), .int .i64 (fget s 1), .int .i64 (fget s 2), .int .i64 (fget s 3), .int .i64 (fget s 4), .int .i64 (fget s 5), .int .i64 (fget s 6), .int .i64 (fget s 7), .int .i64 (fget s 8), .int .i64 (fget s 9), .int .i64 (fget s 10), .int .i64 (fget s 11)] 113)) (by omega)
       have hV3 : ∀ j, (w1.alloc (.cells #[.int .i64 (fget s 0), .int .i64 (fget s 1), .int .i64 (fget s 2), .int .i64 (fget s 3), .int .i64 (fget s 4), .int .i64 (fget s 5), .int .i64 (fget s 6), .int .i64 (fget s 7), .int .i64 (fget s 8), .int .i64 (fget s 9), .int .i64 (fget s 10), .int .i64 (fget s 11)] 113)).frozen? ⟨w.heap.size, j, none⟩ = false := fun j => (((Below.refl w1.heap.size w1).alloc (Nat.le_refl _) _).frozen (p := ⟨w.heap.size, j, none⟩) (by simp; omega)).trans (HZf j)
       have hV4 := hbw.alloc (by omega) (.cells #[.int .i64 (fget s 0), .int .i64 (fget s 1), .int .i64 (fget s 2), .int .i64 (fget s 3), .int .i64 (fget s 4), .int .i64 (fget s 5), .int .i64 (fget s 6), .int .i64 (fget s 7), .int .i64 (fget s 8), .int .i64 (fget s 9), .int .i64 (fget s 10), .int .i64 (fget s 11)] 113)
       clear hb1 HZ HZf hbw
       go_wp2_with fail
       generalize w1.alloc (.cells #[.int .i64 (fget s 0), .int .i64 (fget s 1), .int .i64 (fget s 2), .int .i64 (fget s 3), .int .i64 (fget s 4), .int .i64 (fget s 5), .int .i64 (fget s 6), .int .i64 (fget s 7), .int .i64 (fget s 8), .int .i64 (fget s 9), .int .i64 (fget s 10), .int .i64 (fget s 11)] 113) = V at *
       refine (size_any w1.heap.size (fget s) V hV1 (by omega) (by omega)).mono ?_
       rintro e w2 ⟨rfl, rfl⟩
       have h0 := unhide H0
       have c0 := hV1 0 (by decide)
       have r0 := hV2 0 (by decide)
       have c1 := hV1 1 (by decide)
       have r1 := hV2 1 (by decide)
       have c2 := hV1 2 (by decide)
       have r2 := hV2 2 (by decide)
       have c3 := hV1 3 (by decide)
       have r3 := hV2 3 (by decide)
       have c4 := hV1 4 (by decide)
       have r4 := hV2 4 (by decide)
       have c5 := hV1 5 (by decide)
       have r5 := hV2 5 (by decide)
       have c6 := hV1 6 (by decide)
       have r6 := hV2 6 (by decide)
       have c7 := hV1 7 (by decide)
       have r7 := hV2 7 (by decide)
       have c8 := hV1 8 (by decide)
       have r8 := hV2 8 (by decide)
       have c9 := hV1 9 (by decide)
       have r9 := hV2 9 (by decide)
       have c10 := hV1 10 (by decide)
       have r10 := hV2 10 (by decide)
       have c11 := hV1 11 (by decide)
       have r11 := hV2 11 (by decide)
       simp only [zeroF] at r0 r1 r2 r3 r4 r5 r6 r7 r8 r9 r10 r11
       have HV1 := hide hV1
       have HV2 := hide hV2
       have HV4 := hide hV4
       clear hV1 hV2 hV4
       go_wp2_with fail
       have hfx := set12_fix (zeroF) (unhide HV2)
       have hbz := set12_below (b := w.heap.size) (F := zeroF) (unhide HV4) (Nat.le_refl _)
       clear HV1 HV2 HV4 hV3 c0 r0 c1 r1 c2 r2 c3 r3 c4 r4 c5 r5 c6 r6 c7 r7 c8 r8 c9 r9 c10 r10 c11 r11
       have g0 := hfx 0 (by decide)
       have g1 := hfx 1 (by decide)
       have g2 := hfx 2 (by decide)
       have g3 := hfx 3 (by decide)
       have g4 := hfx 4 (by decide)
       have g5 := hfx 5 (by decide)
       have g6 := hfx 6 (by decide)
       have g7 := hfx 7 (by decide)
       have g8 := hfx 8 (by decide)
       have g9 := hfx 9 (by decide)
       have g10 := hfx 10 (by decide)
       have g11 := hfx 11 (by decide)
       clear hfx
       simp only [set12, zeroF] at hbz g0 g1 g2 g3 g4 g5 g6 g7 g8 g9 g10 g11
       rw [HR.out, HZ.out]
       refine bodyPost_ret (v := .tuple #[zeroFix, .int .i64 5]) ?_ rfl ⟨rfl, hbz⟩
       simp [results, Tryz.results64, go_sem, g0, g1, g2, g3, g4, g5, g6, g7, g8, g9, g10, g11]
      case neg =>
       have d4 : decide ((s.size : Int) < fget s 3) = false := by simpa using hd
       by_cases he : 1500 < fget s 3
       case pos =>
        have HR : Hid (measE s = 18) := by show _ = _; unfold measE; rw [if_neg h20, if_neg (not_not_intro h0), if_neg (by omega), if_neg (by omega), if_pos he]
        have HZ : Hid (measF s = zeroF) := by show _ = _; unfold measF; rw [HR.out, if_neg (by decide)]
        have d5 : decide (1500 < fget s 3) = true := by simpa using he
        have H0 := hide h0
        clear h0
        go_enter Tryz.func64, Tryz.ntmps64
        go_wp2_with fail
        refine (read_any s _ h20' hs).mono ?_
        rintro e w1 ⟨rfl, hb1⟩
        obtain ⟨HZ, HZf⟩ : FixAt w1 w.heap.size zeroF ∧ ∀ j, w1.frozen? ⟨w.heap.size, j, none⟩ = false := ⟨(fixAt_new w zeroF 113).on hb1 (by simp), fun j => (hb1.frozen (p := ⟨w.heap.size, j, none⟩) (by simp)).trans (by simp [go_sem])⟩
        have hbw : Below w.heap.size w w1 := ((Below.refl w.heap.size w).alloc (Nat.le_refl _) _).trans (hb1.mono (by simp))
        have hsw : w.heap.size + 1 ≤ w1.heap.size := by have := hb1.size; simp at this; omega
        have hV1 := fixAt_new w1 (fget s) 113
        have hV2 := HZ.on ((Below.refl w1.heap.size w1).alloc (Nat.le_refl _) (.cells #[.int .i64 (fget s 0), .int .i64 (fget s 1), .int .i64 (fget s 2), .int .i64 (fget s 3), .int .i64 (fget s 4), .int .i64 (fget s 5), .int .i64 (fget s 6), .int .i64 (fget s 7), .int .i64 (fget s 8), .int .i64 (fget s 9), .int .i64 (fget s 10), .int .i64 (fget s 11)] 113)) (by omega)
        have hV3 : ∀ j, (w1.alloc (.cells #[.int .i64 (fget s 0), .int .i64 (fget s 1), .int .i64 (fget s 2), .int .i64 (fget s 3), .int .i64 (fget s 4), .int .i64 (fget s 5), .int .i64 (fget s 6), .int .i64 (fget s 7), .int .i64 (fget s 8), .int .i64 (fget s 9), .int .i64 (fget s 10), .int .i64 (fget s 11)] 113)).frozen? ⟨w.heap.size, j, none⟩ = false := fun j => (((Below.refl w1.heap.size w1).alloc (Nat.le_refl _) _).frozen (p := ⟨w.heap.size, j, none⟩) (by simp; omega)).trans (HZf j)
        have hV4 := hbw.alloc (by omega) (.cells #[.int .i64 (fget s 0), .int .i64 (fget s 1), .int .i64 (fget s 2), .int .i64 (fget s 3), .int .i64 (fget s 4), .int .i64 (fget s 5), .int .i64 (fget s 6), .int .i64 (fget s 7), .int .i64 (fget s 8), .int .i64 (fget s 9), .int .i64 (fget s 10), .int .i64 (fget s 11)] 113)
        clear hb1 HZ HZf hbw
        go_wp2_with fail
        generalize w1.alloc (.cells #[.int .i64 (fget s 0), .int .i64 (fget s 1), .int .i64 (fget s 2), .int .i64 (fget s 3), .int .i64 (fget s 4), .int .i64 (fget s 5), .int .i64 (fget s 6), .int .i64 (fget s 7), .int .i64 (fget s 8), .int .i64 (fget s 9), .int .i64 (fget s 10), .int .i64 (fget s 11)] 113) = V at *
        refine (size_any w1.heap.size (fget s) V hV1 (by omega) (by omega)).mono ?_
        rintro e w2 ⟨rfl, rfl⟩
        have h0 := unhide H0
        have c0 := hV1 0 (by decide)
        have r0 := hV2 0 (by decide)
        have c1 := hV1 1 (by decide)
        have r1 := hV2 1 (by decide)
        have c2 := hV1 2 (by decide)
        have r2 := hV2 2 (by decide)
        have c3 := hV1 3 (by decide)
        have r3 := hV2 3 (by decide)
        have c4 := hV1 4 (by decide)
        have r4 := hV2 4 (by decide)
        have c5 := hV1 5 (by decide)
        have r5 := hV2 5 (by decide)
        have c6 := hV1 6 (by decide)
        have r6 := hV2 6 (by decide)
        have c7 := hV1 7 (by decide)
        have r7 := hV2 7 (by decide)
        have c8 := hV1 8 (by decide)
        have r8 := hV2 8 (by decide)
        have c9 := hV1 9 (by decide)
        have r9 := hV2 9 (by decide)
        have c10 := hV1 10 (by decide)
        have r10 := hV2 10 (by decide)
        have c11 := hV1 11 (by decide)
        have r11 := hV2 11 (by decide)
        simp only [zeroF] at r0 r1 r2 r3 r4 r5 r6 r7 r8 r9 r10 r11
        have HV1 := hide hV1
        have HV2 := hide hV2
        have HV4 := hide hV4
        clear hV1 hV2 hV4
        go_wp2_with fail
        have hfx := set12_fix (zeroF) (unhide HV2)
        have hbz := set12_below (b := w.heap.size) (F := zeroF) (unhide HV4) (Nat.le_refl _)
        clear HV1 HV2 HV4 hV3 c0 r0 c1 r1 c2 r2 c3 r3 c4 r4 c5 r5 c6 r6 c7 r7 c8 r8 c9 r9 c10 r10 c11 r11
        have g0 := hfx 0 (by decide)
        have g1 := hfx 1 (by decide)
        have g2 := hfx 2 (by decide)
        have g3 := hfx 3 (by decide)
        have g4 := hfx 4 (by decide)
        have g5 := hfx 5 (by decide)
        have g6 := hfx 6 (by decide)
        have g7 := hfx 7 (by decide)
        have g8 := hfx 8 (by decide)
        have g9 := hfx 9 (by decide)
        have g10 := hfx 10 (by decide)
        have g11 := hfx 11 (by decide)
        clear hfx
        simp only [set12, zeroF] at hbz g0 g1 g2 g3 g4 g5 g6 g7 g8 g9 g10 g11
        rw [HR.out, HZ.out]
        refine bodyPost_ret (v := .tuple #[zeroFix, .int .i64 18]) ?_ rfl ⟨rfl, hbz⟩
        simp [results, Tryz.results64, go_sem, g0, g1, g2, g3, g4, g5, g6, g7, g8, g9, g10, g11]
       case neg =>
        have HR : Hid (measE s = 0) := by show _ = _; unfold measE; rw [if_neg h20, if_neg (not_not_intro h0), if_neg (by omega), if_neg (by omega), if_neg he]
        have HZ : Hid (measF s = fget s) := by show _ = _; unfold measF; rw [HR.out, if_pos rfl]
        have d5 : decide (1500 < fget s 3) = false := by simpa using he
        have H0 := hide h0
        clear h0
        go_enter Tryz.func64, Tryz.ntmps64
        go_wp2_with fail
        refine (read_any s _ h20' hs).mono ?_
        rintro e w1 ⟨rfl, hb1⟩
        obtain ⟨HZ, HZf⟩ : FixAt w1 w.heap.size zeroF ∧ ∀ j, w1.frozen? ⟨w.heap.size, j, none⟩ = false := ⟨(fixAt_new w zeroF 113).on hb1 (by simp), fun j => (hb1.frozen (p := ⟨w.heap.size, j, none⟩) (by simp)).trans (by simp [go_sem])⟩
        have hbw : Below w.heap.size w w1 := ((Below.refl w.heap.size w).alloc (Nat.le_refl _) _).trans (hb1.mono (by simp))
        have hsw : w.heap.size + 1 ≤ w1.heap.size := by have := hb1.size; simp at this; omega
        have hV1 := fixAt_new w1 (fget s) 113
        have hV2 := HZ.on ((Below.refl w1.heap.size w1).alloc (Nat.le_refl _) (.cells #[.int .i64 (fget s 0), .int .i64 (fget s 1), .int .i64 (fget s 2), .int .i64 (fget s 3), .int .i64 (fget s 4), .int .i64 (fget s 5), .int .i64 (fget s 6), .int .i64 (fget s 7), .int .i64 (fget s 8), .int .i64 (fget s 9), .int .i64 (fget s 10), .int .i64 (fget s 11)] 113)) (by omega)
        have hV3 : ∀ j, (w1.alloc (.cells #[.int .i64 (fget s 0), .int .i64 (fget s 1), .int .i64 (fget s 2), .int .i64 (fget s 3), .int .i64 (fget s 4), .int .i64 (fget s 5), .int .i64 (fget s 6), .int .i64 (fget s 7), .int .i64 (fget s 8), .int .i64 (fget s 9), .int .i64 (fget s 10), .int .i64 (fget s 11)] 113)).frozen? ⟨w.heap.size, j, none⟩ = false := fun j => (((Below.refl w1.heap.size w1).alloc (Nat.le_refl _) _).frozen (p := ⟨w.heap.size, j, none⟩) (by simp; omega)).trans (HZf j)
        have hV4 := hbw.alloc (by omega) (.cells #[.int .i64 (fget s 0), .int .i64 (fget s 1), .int .i64 (fget s 2), .int .i64 (fget s 3), .int .i64 (fget s 4), .int .i64 (fget s 5), .int .i64 (fget s 6), .int .i64 (fget s 7), .int .i64 (fget s 8), .int .i64 (fget s 9), .int .i64 (fget s 10), .int .i64 (fget s 11)] 113)
        clear hb1 HZ HZf hbw
        go_wp2_with fail
        generalize w1.alloc (.cells #[.int .i64 (fget s 0), .int .i64 (fget s 1), .int .i64 (fget s 2), .int .i64 (fget s 3), .int .i64 (fget s 4), .int .i64 (fget s 5), .int .i64 (fget s 6), .int .i64 (fget s 7), .int .i64 (fget s 8), .int .i64 (fget s 9), .int .i64 (fget s 10), .int .i64 (fget s 11)] 113) = V at *
        refine (size_any w1.heap.size (fget s) V hV1 (by omega) (by omega)).mono ?_
        rintro e w2 ⟨rfl, rfl⟩
        have h0 := unhide H0
        have c0 := hV1 0 (by decide)
        have r0 := hV2 0 (by decide)
        have c1 := hV1 1 (by decide)
        have r1 := hV2 1 (by decide)
        have c2 := hV1 2 (by decide)
        have r2 := hV2 2 (by decide)
        have c3 := hV1 3 (by decide)
        have r3 := hV2 3 (by decide)
        have c4 := hV1 4 (by decide)
        have r4 := hV2 4 (by decide)
        have c5 := hV1 5 (by decide)
        have r5 := hV2 5 (by decide)
        have c6 := hV1 6 (by decide)
        have r6 := hV2 6 (by decide)
        have c7 := hV1 7 (by decide)
        have r7 := hV2 7 (by decide)
        have c8 := hV1 8 (by decide)
        have r8 := hV2 8 (by decide)
        have c9 := hV1 9 (by decide)
        have r9 := hV2 9 (by decide)
        have c10 := hV1 10 (by decide)
        have r10 := hV2 10 (by decide)
        have c11 := hV1 11 (by decide)
        have r11 := hV2 11 (by decide)
        simp only [zeroF] at r0 r1 r2 r3 r4 r5 r6 r7 r8 r9 r10 r11
        have HV1 := hide hV1
        have HV2 := hide hV2
        have HV4 := hide hV4
        clear hV1 hV2 hV4
        go_wp2_with fail
        have hfx := set12_fix (fget s) (unhide HV2)
        have hbz := set12_below (b := w.heap.size) (F := fget s) (unhide HV4) (Nat.le_refl _)
        clear HV1 HV2 HV4 hV3 c0 r0 c1 r1 c2 r2 c3 r3 c4 r4 c5 r5 c6 r6 c7 r7 c8 r8 c9 r9 c10 r10 c11 r11
        have g0 := hfx 0 (by decide)
        have g1 := hfx 1 (by decide)
        have g2 := hfx 2 (by decide)
        have g3 := hfx 3 (by decide)
        have g4 := hfx 4 (by decide)
        have g5 := hfx 5 (by decide)
        have g6 := hfx 6 (by decide)
        have g7 := hfx 7 (by decide)
        have g8 := hfx 8 (by decide)
        have g9 := hfx 9 (by decide)
        have g10 := hfx 10 (by decide)
        have g11 := hfx 11 (by decide)
        clear hfx
        simp only [set12, h0] at hbz g0 g1 g2 g3 g4 g5 g6 g7 g8 g9 g10 g11
        rw [HR.out, HZ.out]
        refine bodyPost_ret (v := .tuple #[fixVal (fget s), .int .i64 0]) ?_ rfl ⟨rfl, hbz⟩
        simp [results, Tryz.results64, go_sem, g0, g1, g2, g3, g4, g5, g6, g7, g8, g9, g10, g11, h0]
end Go.Proofs.YtpjaajeojiaeiaaGreatDoor.Ip

/- What Parse computes: the header and the body of the packet that a text begins with, or the first error. -/
namespace Go.Proofs.YtpjaajeojiaeiaaGreatDoor.Ip
open Go.ChangeShapes Go.WideShapes Go.ChangeAt Go.RowKit

/-- The bytes of the header, its options, the body. -/
def pX (s : ByteArray) : ByteArray := s.extract 0 (fget s 1 * 4).toNat
def pO (s : ByteArray) : ByteArray := (pX s).extract 20 (pX s).size
def pB (s : ByteArray) : ByteArray := s.extract (fget s 1 * 4).toNat (fget s 3).toNat
def parseE (s : ByteArray) : Int := if measE s = 0 then (if Ck.sum (pX s).data.toList = 65535 then (if optsOk (pO s).data.toList = true then 0 else 6) else 7) else measE s
def parseH (s : ByteArray) : Hd := if parseE s = 0 then fhead (fget s) (pO s) else zeroHd
def parseS (s : ByteArray) : ByteArray := if parseE s = 0 then pB s else ⟨#[]⟩
theorem parseH_no {s : ByteArray} (h : ¬ parseE s = 0) : parseH s = zeroHd := if_neg h
theorem parseS_no {s : ByteArray} (h : ¬ parseE s = 0) : parseS s = ⟨#[]⟩ := if_neg h
theorem pX_size {s : ByteArray} (m : Meas s) : ((pX s).size : Int) = fget s 1 * 4 := by
 unfold pX
 have h := m.hi
 have l := m.lo
 rw [Oct.ext_size _ _ _ (by omega)]; omega
theorem size_quiet (b : Nat) (F : Nat → Int) (w : World) (h : FixAt w b F) (h0 : 0 ≤ F 1) (h1 : F 1 ≤ 1000) :
  Calls Tryz.prog 65 #[.pointer (some ⟨b, 0, none⟩)] w fun e w' => e = .returned (.int .i64 (F 1 * 4)) ∧ Below w.heap.size w w' :=
 (size_any b F w h h0 h1).mono fun _ _ ⟨h1, h2⟩ => ⟨h1, by rw [h2]; exact Below.refl _ _⟩
set_option maxRecDepth 100000 in
set_option maxHeartbeats 4000000 in
theorem parse_any (s : ByteArray) (w : World) (hs : s.size ≤ 281474976710656) :
  Calls Tryz.prog 38 #[.string s] w fun e w' => e = .returned (.tuple #[(parseH s).val, .string (parseS s), .int .i64 (parseE s)]) ∧ Below w.heap.size w w' := by
 have hs9 : (s.size : Int) ≤ 281474976710656 := by omega
 have hnew := newHd w zeroHd 76
 simp only [zeroHd] at hnew
 go_enter Tryz.func38, Tryz.ntmps38
 go_wp2_with fail
 refine (measured_any s _ hs).mono ?_
 rintro e w1 ⟨rfl, hb1⟩
 have hn1 := hnew.on hb1 (by simp)
 have hbw : Below w.heap.size w w1 := ((Below.refl w.heap.size w).alloc (Nat.le_refl _) _).trans (hb1.mono (by simp))
 have hsw : w.heap.size + 1 ≤ w1.heap.size := by have := hb1.size; simp at this; omega
 clear hb1 hnew
 generalize hFe : measF s = F at *
 have hV1 := fixAt_new w1 F 113
 have hVa : Below w1.heap.size w1 (w1.alloc (.cells #[.int .i64 (F 0), .int .i64 (F 1), .int .i64 (F 2), .int .i64 (F 3), .int .i64 (F 4), .int .i64 (F 5), .int .i64 (F 6), .int .i64 (F 7), .int .i64 (F 8), .int .i64 (F 9), .int .i64 (F 10), .int .i64 (F 11)] 113)) := (Below.refl _ _).alloc (Nat.le_refl _) _
 have hVs : (w1.alloc (.cells #[.int .i64 (F 0), .int .i64 (F 1), .int .i64 (F 2), .int .i64 (F 3), .int .i64 (F 4), .int .i64 (F 5), .int .i64 (F 6), .int .i64 (F 7), .int .i64 (F 8), .int .i64 (F 9), .int .i64 (F 10), .int .i64 (F 11)] 113)).heap.size = w1.heap.size + 1 := by simp
 have HV : Hid (∀ V, w1.alloc (.cells #[.int .i64 (F 0), .int .i64 (F 1), .int .i64 (F 2), .int .i64 (F 3), .int .i64 (F 4), .int .i64 (F 5), .int .i64 (F 6), .int .i64 (F 7), .int .i64 (F 8), .int .i64 (F 9), .int .i64 (F 10), .int .i64 (F 11)] 113) = V → FixAt V w1.heap.size F ∧ NewHd V w.heap.size zeroHd ∧ Below w.heap.size w V ∧ V.heap.size = w1.heap.size + 1) := by
  rintro V rfl
  exact ⟨hV1, hn1.on hVa (by omega), hbw.trans (hVa.mono (by omega)), hVs⟩
 clear hV1 hVa hVs hn1 hbw
 by_cases hm : measE s = 0
 case neg =>
  have HE : Hid (parseE s = measE s) := by show _ = _; unfold parseE; rw [if_neg hm]
  have HH : Hid (parseH s = zeroHd) := parseH_no (by rw [HE.out]; exact hm)
  have HS : Hid (parseS s = ⟨#[]⟩) := parseS_no (by rw [HE.out]; exact hm)
  have hd : (measE s != 0) = true := by simpa using hm
  have hV := HV.out _ rfl
  have r0 := (hV.2.1).at_ 0 (by decide)
  have r1 := (hV.2.1).at_ 1 (by decide)
  have r2 := (hV.2.1).at_ 2 (by decide)
  have r3 := (hV.2.1).at_ 3 (by decide)
  have r4 := (hV.2.1).at_ 4 (by decide)
  have r5 := (hV.2.1).at_ 5 (by decide)
  have r6 := (hV.2.1).at_ 6 (by decide)
  have r7 := (hV.2.1).at_ 7 (by decide)
  have r8 := (hV.2.1).at_ 8 (by decide)
  simp only [hcell, zeroHd] at r0 r1 r2 r3 r4 r5 r6 r7 r8
  have rf := (hV.2.1).free
  have HVV := hide hV
  clear hV HV
  go_wp2_with fail
  clear r0 r1 r2 r3 r4 r5 r6 r7 r8 rf
  have hz := setHd_at zeroHd ((unhide HVV).2.1).at_
  have hbz := setHd_below ((unhide HVV).2.2.1) w.heap.size zeroHd (Nat.le_refl _)
  have g0 := hz 0 (by decide)
  have g1 := hz 1 (by decide)
  have g2 := hz 2 (by decide)
  have g3 := hz 3 (by decide)
  have g4 := hz 4 (by decide)
  have g5 := hz 5 (by decide)
  have g6 := hz 6 (by decide)
  have g7 := hz 7 (by decide)
  have g8 := hz 8 (by decide)
  clear hz
  simp only [setHd, hcell, zeroHd] at hbz g0 g1 g2 g3 g4 g5 g6 g7 g8
  rw [HH.out, HS.out, HE.out]
  refine bodyPost_ret (v := .tuple #[.agg #[.int .i64 0, .int .i64 0, .int .i64 0, .int .i64 0, .int .i64 0, .int .i64 0, .int .u32 0, .int .u32 0, .string ⟨#[]⟩], .string ⟨#[]⟩, .int .i64 (measE s)]) ?_ rfl ⟨rfl, hbz⟩
  simp [results, Tryz.results38, go_sem, g0, g1, g2, g3, g4, g5, g6, g7, g8]
 case pos =>
  have m := meas_of hm
  have hF : measF s = fget s := by unfold measF; rw [if_pos hm]
  rw [hF] at hFe
  subst hFe
  clear hF
  obtain ⟨m1, m2, m3, m4, m5, m6, m7⟩ := m
  clear m2
  have hx := pX_size (meas_of hm)
  have f3 := fit3 (fget_fits s)
  have f1 := fit1 (fget_fits s)
  have f10 := fit10 (fget_fits s)
  have f11 := fit11 (fget_fits s)
  have HM := hide hm
  have hm0 : measE s = 0 := hm
  clear hm
  go_wp2_with fail
  have hV := HV.out _ rfl
  generalize w1.alloc (.cells #[.int .i64 (fget s 0), .int .i64 (fget s 1), .int .i64 (fget s 2), .int .i64 (fget s 3), .int .i64 (fget s 4), .int .i64 (fget s 5), .int .i64 (fget s 6), .int .i64 (fget s 7), .int .i64 (fget s 8), .int .i64 (fget s 9), .int .i64 (fget s 10), .int .i64 (fget s 11)] 113) = V at *
  obtain ⟨v1, v2, v3, v4⟩ := hV
  clear HV
  refine (size_any w1.heap.size (fget s) V v1 (by omega) (by omega)).mono ?_
  rintro e w3 ⟨rfl, he3⟩
  have he3 := he3.symm
  subst he3
  have hxe : s.extract 0 (fget s 1 * 4).toNat = pX s := rfl
  have HV1 := hide v1
  have HV2 := hide v2
  have HV3 := hide v3
  clear v1 v2 v3
  go_wp2_with fail
  refine (sum_any (pX s) _ (by omega)).mono ?_
  rintro e w2 ⟨rfl, hb2⟩
  have n1 := (unhide HV1).on hb2 (by omega)
  have n2 := (unhide HV2).on hb2 (by omega)
  have n3 := (unhide HV3).trans (hb2.mono (by omega))
  have n4 : w1.heap.size + 1 ≤ w2.heap.size := by have := hb2.size; omega
  clear HV1 HV2 HV3 hb2
  have HV1 := hide n1
  have HV2 := hide n2
  have HV3 := hide n3
  clear n1
  by_cases hsum : Ck.sum (pX s).data.toList = 65535
  case neg =>
   have HE : Hid (parseE s = 7) := by show _ = _; unfold parseE; rw [if_pos (unhide HM), if_neg hsum]
   have HH : Hid (parseH s = zeroHd) := parseH_no (by rw [HE.out]; decide)
   have HS : Hid (parseS s = ⟨#[]⟩) := parseS_no (by rw [HE.out]; decide)
   have hd : (Ck.sum (pX s).data.toList != 65535) = true := by simpa using hsum
   have r0 := (unhide HV2).at_ 0 (by decide)
   have r1 := (unhide HV2).at_ 1 (by decide)
   have r2 := (unhide HV2).at_ 2 (by decide)
   have r3 := (unhide HV2).at_ 3 (by decide)
   have r4 := (unhide HV2).at_ 4 (by decide)
   have r5 := (unhide HV2).at_ 5 (by decide)
   have r6 := (unhide HV2).at_ 6 (by decide)
   have r7 := (unhide HV2).at_ 7 (by decide)
   have r8 := (unhide HV2).at_ 8 (by decide)
   simp only [hcell, zeroHd] at r0 r1 r2 r3 r4 r5 r6 r7 r8
   have rf := (unhide HV2).free
   clear n2 n3
   go_wp2_with fail
   clear r0 r1 r2 r3 r4 r5 r6 r7 r8 rf
   have hz := setHd_at zeroHd (unhide HV2).at_
   have hbz := setHd_below (unhide HV3) w.heap.size zeroHd (Nat.le_refl _)
   have g0 := hz 0 (by decide)
   have g1 := hz 1 (by decide)
   have g2 := hz 2 (by decide)
   have g3 := hz 3 (by decide)
   have g4 := hz 4 (by decide)
   have g5 := hz 5 (by decide)
   have g6 := hz 6 (by decide)
   have g7 := hz 7 (by decide)
   have g8 := hz 8 (by decide)
   clear hz
   simp only [setHd, hcell, zeroHd] at hbz g0 g1 g2 g3 g4 g5 g6 g7 g8
   rw [HH.out, HS.out, HE.out]
   refine bodyPost_ret (v := .tuple #[.agg #[.int .i64 0, .int .i64 0, .int .i64 0, .int .i64 0, .int .i64 0, .int .i64 0, .int .u32 0, .int .u32 0, .string ⟨#[]⟩], .string ⟨#[]⟩, .int .i64 (7)]) ?_ rfl ⟨rfl, hbz⟩
   simp [results, Tryz.results38, go_sem, g0, g1, g2, g3, g4, g5, g6, g7, g8]
  case pos =>
   have hd : (Ck.sum (pX s).data.toList != 65535) = false := by simpa using hsum
   have hq : (20 : Int) ≤ (pX s).size := by omega
   have hoe : (pX s).extract 20 (pX s).size = pO s := rfl
   have hosz : (pO s).size ≤ 140737488355328 := by unfold pO; rw [Oct.ext_size _ _ _ (Nat.le_refl _)]; omega
   clear n2 n3
   go_wp2_with fail
   refine (optsRight_any (pO s) _ hosz).mono ?_
   rintro e w4 ⟨rfl, he4⟩
   have he4 := he4.symm
   subst he4
   cases hop : optsOk (pO s).data.toList with
   | false =>
    have HE : Hid (parseE s = 6) := by show _ = _; unfold parseE; rw [if_pos (unhide HM), if_pos hsum, if_neg (by rw [hop]; decide)]
    have HH : Hid (parseH s = zeroHd) := parseH_no (by rw [HE.out]; decide)
    have HS : Hid (parseS s = ⟨#[]⟩) := parseS_no (by rw [HE.out]; decide)
    have r0 := (unhide HV2).at_ 0 (by decide)
    have r1 := (unhide HV2).at_ 1 (by decide)
    have r2 := (unhide HV2).at_ 2 (by decide)
    have r3 := (unhide HV2).at_ 3 (by decide)
    have r4 := (unhide HV2).at_ 4 (by decide)
    have r5 := (unhide HV2).at_ 5 (by decide)
    have r6 := (unhide HV2).at_ 6 (by decide)
    have r7 := (unhide HV2).at_ 7 (by decide)
    have r8 := (unhide HV2).at_ 8 (by decide)
    simp only [hcell, zeroHd] at r0 r1 r2 r3 r4 r5 r6 r7 r8
    have rf := (unhide HV2).free
    go_wp2_with fail
    clear r0 r1 r2 r3 r4 r5 r6 r7 r8 rf
    have hz := setHd_at zeroHd (unhide HV2).at_
    have hbz := setHd_below (unhide HV3) w.heap.size zeroHd (Nat.le_refl _)
    have g0 := hz 0 (by decide)
    have g1 := hz 1 (by decide)
    have g2 := hz 2 (by decide)
    have g3 := hz 3 (by decide)
    have g4 := hz 4 (by decide)
    have g5 := hz 5 (by decide)
    have g6 := hz 6 (by decide)
    have g7 := hz 7 (by decide)
    have g8 := hz 8 (by decide)
    clear hz
    simp only [setHd, hcell, zeroHd] at hbz g0 g1 g2 g3 g4 g5 g6 g7 g8
    rw [HH.out, HS.out, HE.out]
    refine bodyPost_ret (v := .tuple #[.agg #[.int .i64 0, .int .i64 0, .int .i64 0, .int .i64 0, .int .i64 0, .int .i64 0, .int .u32 0, .int .u32 0, .string ⟨#[]⟩], .string ⟨#[]⟩, .int .i64 (6)]) ?_ rfl ⟨rfl, hbz⟩
    simp [results, Tryz.results38, go_sem, g0, g1, g2, g3, g4, g5, g6, g7, g8]
   | true =>
    have HE : Hid (parseE s = 0) := by show _ = _; unfold parseE; rw [if_pos (unhide HM), if_pos hsum, if_pos hop]
    have HH : Hid (parseH s = fhead (fget s) (pO s)) := by show _ = _; unfold parseH; rw [HE.out, if_pos rfl]
    have HS : Hid (parseS s = pB s) := by show _ = _; unfold parseS; rw [HE.out, if_pos rfl]
    clear hd hop
    have p1 : 0 ≤ fget s 1 * 4 := by omega
    have p3 : 0 ≤ fget s 3 := by omega
    go_wp2_with fail
    have n1 := unhide HV1
    have n2 := unhide HV2
    have n3 := unhide HV3
    have hbe : s.extract (fget s 1 * 4).toNat (fget s 3).toNat = pB s := rfl
    have hbsz : (pB s).size ≤ 281474976710656 := by unfold pB; rw [Oct.ext_size _ _ _ (by omega)]; omega
    have hon : ∀ {u : World}, Below w2.heap.size w2.drew u → FixAt u w1.heap.size (fget s) ∧ NewHd u w.heap.size zeroHd ∧ w1.heap.size + 1 ≤ u.heap.size := fun {u} hb =>
     ⟨n1.drew.on hb (by omega), n2.drew.on hb (by omega), by have := hb.size; exact Nat.le_trans n4 this⟩
    clear HV1 HV2 HV3 hxe hoe hsum
    generalize hO : pO s = O at *
    generalize hBB : pB s = B at *
    refine wp_region_grow_store (by kernel_rfl) [.string O, .string O, .agg #[.int .i64 (fget s 2), .int .i64 (fget s 4), .int .i64 (fget s 5), .int .i64 (fget s 6), .int .i64 (fget s 7), .int .i64 (fget s 8), .int .u32 (fget s 10), .int .u32 (fget s 11), .string O], .string s, .int .i64 (fget s 1 * 4), .pointer (some ⟨w1.heap.size, 3, none⟩), .int .i64 (fget s 3), .string B, .string B, undef, .string B, .int .i64 (0)] 9 (fun v => setHd v w.heap.size (fhead (fget s) O)) (by kernel_rfl) (by decide) rfl ?op ?store ?fin
    case op =>
     intro i o bx u ho hne hbel hS
     match i, ho with
     | 0, ho =>
      obtain rfl := Option.some.inj ho
      have d7 : bx.tmps.getD 7 undef = .string O := hS.base 7
      refine .inl ⟨rfl, ends_value (c := .string O) ?_⟩
      simp [execOp, Act.eval, d7]
     | 1, ho =>
      obtain rfl := Option.some.inj ho
      have d30 : bx.tmps.getD 30 undef = .string O := hS.dep 0 30
      refine .inl ⟨rfl, ends_call (c := .string O) (by kernel_rfl) (f := 69) (args := #[.string O]) ?_ (clone_any O u (by omega))⟩
      simp [Act.eval, d30, go_sem]
     | 2, ho =>
      obtain rfl := Option.some.inj ho
      have d5 : bx.tmps.getD 5 undef = .pointer (some ⟨w1.heap.size, 0, none⟩) := hS.base 5
      have d31 : bx.tmps.getD 31 undef = .string O := hS.dep 1 31
      refine .inl ⟨rfl, ends_call (c := .agg #[.int .i64 (fget s 2), .int .i64 (fget s 4), .int .i64 (fget s 5), .int .i64 (fget s 6), .int .i64 (fget s 7), .int .i64 (fget s 8), .int .u32 (fget s 10), .int .u32 (fget s 11), .string O]) (by kernel_rfl) (f := 68) (args := #[.pointer (some ⟨w1.heap.size, 0, none⟩), .string O]) ?_ (header_any w1.heap.size (fget s) O u (hon (hbel (by kernel_rfl))).1 (by have := (hon (hbel (by kernel_rfl))).2.2; omega) (by omega) (by omega))⟩
      simp [Act.eval, d5, d31, go_sem]
     | 3, ho =>
      obtain rfl := Option.some.inj ho
      have d0 : bx.tmps.getD 0 undef = .string s := hS.base 0
      refine .inl ⟨rfl, ends_value (c := .string s) ?_⟩
      simp [execOp, Act.eval, d0]
     | 4, ho =>
      obtain rfl := Option.some.inj ho
      have d5 : bx.tmps.getD 5 undef = .pointer (some ⟨w1.heap.size, 0, none⟩) := hS.base 5
      refine .inl ⟨rfl, ends_call (c := .int .i64 (fget s 1 * 4)) (by kernel_rfl) (f := 65) (args := #[.pointer (some ⟨w1.heap.size, 0, none⟩)]) ?_ (size_quiet w1.heap.size (fget s) u (hon (hbel (by kernel_rfl))).1 (by omega) (by omega))⟩
      simp [Act.eval, d5, go_sem]
     | 5, ho =>
      obtain rfl := Option.some.inj ho
      have d5 : bx.tmps.getD 5 undef = .pointer (some ⟨w1.heap.size, 0, none⟩) := hS.base 5
      refine .inl ⟨rfl, ends_value (c := .pointer (some ⟨w1.heap.size, 3, none⟩)) ?_⟩
      simp [Act.eval, d5, go_sem]
     | 6, ho =>
      obtain rfl := Option.some.inj ho
      have d35 : bx.tmps.getD 35 undef = .pointer (some ⟨w1.heap.size, 3, none⟩) := hS.dep 5 35
      have hl := (hon (hbel (by kernel_rfl))).1 3 (by decide)
      refine .inl ⟨rfl, ends_value (c := .int .i64 (fget s 3)) ?_⟩
      simp [Act.eval, d35, go_sem, hl]
     | 7, ho =>
      obtain rfl := Option.some.inj ho
      have d33 : bx.tmps.getD 33 undef = .string s := hS.dep 3 33
      have d34 : bx.tmps.getD 34 undef = .int .i64 (fget s 1 * 4) := hS.dep 4 34
      have d36 : bx.tmps.getD 36 undef = .int .i64 (fget s 3) := hS.dep 6 36
      refine .inl ⟨rfl, ends_value (c := .string B) ?_⟩
      simp [Act.eval, d33, d34, d36, go_sem, m5, m6, hbe, p1]
     | 8, ho =>
      obtain rfl := Option.some.inj ho
      have d37 : bx.tmps.getD 37 undef = .string B := hS.dep 7 37
      refine .inl ⟨rfl, ends_call (c := .string B) (by kernel_rfl) (f := 69) (args := #[.string B]) ?_ (clone_any B u hbsz)⟩
      simp [Act.eval, d37, go_sem]
     | 9, _ => exact absurd rfl hne
     | 10, ho =>
      obtain rfl := Option.some.inj ho
      have d38 : bx.tmps.getD 38 undef = .string B := hS.dep 8 38
      refine .inl ⟨rfl, ends_value (c := .string B) ?_⟩
      simp [execOp, Act.eval, d38]
     | 11, ho =>
      obtain rfl := Option.some.inj ho
      refine .inl ⟨rfl, ends_value (c := .int .i64 (0)) ?_⟩
      simp [execOp, Act.eval]
     | n + 12, ho => exact absurd ho (by simp)
    case store =>
     intro o bx u ho hbel hS
     obtain rfl := Option.some.inj ho
     have d2 : bx.tmps.getD 2 undef = .pointer (some ⟨w.heap.size, 0, none⟩) := hS.base 2
     have d32 : bx.tmps.getD 32 undef = .agg #[.int .i64 (fget s 2), .int .i64 (fget s 4), .int .i64 (fget s 5), .int .i64 (fget s 6), .int .i64 (fget s 7), .int .i64 (fget s 8), .int .u32 (fget s 10), .int .u32 (fget s 11), .string O] := hS.dep 2 32
     have hn := (hon hbel).2.1
     have r0 := hn.at_ 0 (by decide)
     have r1 := hn.at_ 1 (by decide)
     have r2 := hn.at_ 2 (by decide)
     have r3 := hn.at_ 3 (by decide)
     have r4 := hn.at_ 4 (by decide)
     have r5 := hn.at_ 5 (by decide)
     have r6 := hn.at_ 6 (by decide)
     have r7 := hn.at_ 7 (by decide)
     have r8 := hn.at_ 8 (by decide)
     simp only [hcell, zeroHd] at r0 r1 r2 r3 r4 r5 r6 r7 r8
     have rf := hn.free
     unfold setHd fhead
     refine ⟨rfl, ?_⟩
     simp [Act.eval, d2, d32, go_sem, r0, r1, r2, r3, r4, r5, r6, r7, r8, rf]
    case fin =>
     intro u hbel
     simp [putAll, dstAt, Act.put]
     have hz := setHd_at (fhead (fget s) O) (hon hbel).2.1.at_
     have hbz := setHd_below (n3.drew.trans (hbel.mono (by omega))) w.heap.size (fhead (fget s) O) (Nat.le_refl _)
     generalize setHd u w.heap.size (fhead (fget s) O) = z at *
     go_wp2_with fail
     have g0 := hz 0 (by decide)
     have g1 := hz 1 (by decide)
     have g2 := hz 2 (by decide)
     have g3 := hz 3 (by decide)
     have g4 := hz 4 (by decide)
     have g5 := hz 5 (by decide)
     have g6 := hz 6 (by decide)
     have g7 := hz 7 (by decide)
     have g8 := hz 8 (by decide)
     simp only [hcell, fhead] at g0 g1 g2 g3 g4 g5 g6 g7 g8
     rw [HH.out, HS.out, HE.out]
     refine bodyPost_ret (v := .tuple #[.agg #[.int .i64 (fget s 2), .int .i64 (fget s 4), .int .i64 (fget s 5), .int .i64 (fget s 6), .int .i64 (fget s 7), .int .i64 (fget s 8), .int .u32 (fget s 10), .int .u32 (fget s 11), .string O], .string B, .int .i64 0]) ?_ rfl ⟨rfl, hbz⟩
     simp [results, Tryz.results38, go_sem, g0, g1, g2, g3, g4, g5, g6, g7, g8]
end Go.Proofs.YtpjaajeojiaeiaaGreatDoor.Ip

/- What Size computes, and what the reference Sizes computes. -/
namespace Go.Proofs.YtpjaajeojiaeiaaGreatDoor.Ip
open Go.ChangeShapes Go.WideShapes Go.ChangeAt Go.RowKit

def sizeH (s : ByteArray) : Int := if measE s = 0 then fget s 1 * 4 else 0
def sizeT (s : ByteArray) : Int := if measE s = 0 then fget s 3 else 0
theorem ret_iib {a b c d : Int} {x y : Bool} (h1 : a = b) (h2 : c = d) (h3 : x = y) : Ending.returned (.tuple #[.int .i64 a, .int .i64 c, .bool x]) = .returned (.tuple #[.int .i64 b, .int .i64 d, .bool y]) := by rw [h1, h2, h3]
theorem ret_iii {a b c d x y : Int} (h1 : a = b) (h2 : c = d) (h3 : x = y) : Ending.returned (.tuple #[.int .i64 a, .int .i64 c, .int .i64 x]) = .returned (.tuple #[.int .i64 b, .int .i64 d, .int .i64 y]) := by rw [h1, h2, h3]

set_option maxRecDepth 100000 in
set_option maxHeartbeats 2000000 in
theorem size_of_any (s : ByteArray) (w : World) (hs : s.size ≤ 281474976710656) :
  Calls Tryz.prog 74 #[.string s] w fun e w' => e = .returned (.tuple #[.int .i64 (sizeH s), .int .i64 (sizeT s), .bool (decide (measE s = 0))]) ∧ Below w.heap.size w w' := by
 go_enter Tryz.func74, Tryz.ntmps74
 go_wp2_with fail
 refine (measured_any s _ hs).mono ?_
 rintro e w1 ⟨rfl, hb1⟩
 by_cases hm : measE s = 0
 case neg =>
  have H1 : Hid (sizeH s = 0) := if_neg hm
  have H2 : Hid (sizeT s = 0) := if_neg hm
  have H3 : Hid (decide (measE s = 0) = false) := decide_eq_false hm
  have hd : (measE s != 0) = true := by simpa using hm
  have HB := hide hb1
  generalize hFe : measF s = F at *
  clear hb1 hm
  go_wp2_with fail
  go_ret3
  exact ⟨ret_iib H1.out.symm H2.out.symm H3.out.symm, (unhide HB).alloc (unhide HB).size _⟩
 case pos =>
  have H1 : Hid (sizeH s = fget s 1 * 4) := if_pos hm
  have H2 : Hid (sizeT s = fget s 3) := if_pos hm
  have H3 : Hid (decide (measE s = 0) = true) := decide_eq_true hm
  have hF : measF s = fget s := by unfold measF; rw [if_pos hm]
  rw [hF]
  have f1 := fit1 (fget_fits s)
  have HB := hide hb1
  have hsz := hb1.size
  clear hb1 hF
  generalize hFe : fget s = F at *
  have HV : Hid (∀ V, w1.alloc (.cells #[.int .i64 (F 0), .int .i64 (F 1), .int .i64 (F 2), .int .i64 (F 3), .int .i64 (F 4), .int .i64 (F 5), .int .i64 (F 6), .int .i64 (F 7), .int .i64 (F 8), .int .i64 (F 9), .int .i64 (F 10), .int .i64 (F 11)] 113) = V → FixAt V w1.heap.size F ∧ V.heap.size = w1.heap.size + 1 ∧ Below w.heap.size w V) := by
   rintro V rfl
   exact ⟨fixAt_new w1 F _, by simp, (unhide HB).alloc (unhide HB).size _⟩
  have hm0 : measE s = 0 := hm
  clear hm
  go_wp2_with fail
  have hV := HV.out _ rfl
  generalize w1.alloc (.cells #[.int .i64 (F 0), .int .i64 (F 1), .int .i64 (F 2), .int .i64 (F 3), .int .i64 (F 4), .int .i64 (F 5), .int .i64 (F 6), .int .i64 (F 7), .int .i64 (F 8), .int .i64 (F 9), .int .i64 (F 10), .int .i64 (F 11)] 113) = V at *
  obtain ⟨v1, v2, v3⟩ := hV
  clear HV
  refine wp_region_grow (by kernel_rfl) [.int .i64 (F 1 * 4), .pointer (some ⟨w1.heap.size, 3, none⟩), .int .i64 (F 3), .int .i64 (F 1 * 4), .int .i64 (F 3), .bool true] (by kernel_rfl) ?op ?fin
  case op =>
   intro i o bx u ho hbel hS
   match i, ho with
   | 0, ho =>
    obtain rfl := Option.some.inj ho
    have d5 : bx.tmps.getD 5 undef = .pointer (some ⟨w1.heap.size, 0, none⟩) := hS.base 5
    refine .inl ⟨rfl, ends_call' (c := .int .i64 (F 1 * 4)) (f := 65) (args := #[.pointer (some ⟨w1.heap.size, 0, none⟩)]) ?_ (size_quiet w1.heap.size F u (v1.drew.on hbel (by omega)) (by omega) (by omega))⟩
    simp [Act.eval, d5, go_sem]
   | 1, ho =>
    obtain rfl := Option.some.inj ho
    have d5 : bx.tmps.getD 5 undef = .pointer (some ⟨w1.heap.size, 0, none⟩) := hS.base 5
    refine .inl ⟨rfl, ends_value' (c := .pointer (some ⟨w1.heap.size, 3, none⟩)) ?_⟩
    simp [Act.eval, d5, go_sem]
   | 2, ho =>
    obtain rfl := Option.some.inj ho
    have d15 : bx.tmps.getD 15 undef = .pointer (some ⟨w1.heap.size, 3, none⟩) := hS.dep 1 15
    have hl := v1.drew.on hbel (by omega) 3 (by decide)
    refine .inl ⟨rfl, ends_value' (c := .int .i64 (F 3)) ?_⟩
    simp [Act.eval, d15, go_sem, hl]
   | 3, ho =>
    obtain rfl := Option.some.inj ho
    have d14 : bx.tmps.getD 14 undef = .int .i64 (F 1 * 4) := hS.dep 0 14
    refine .inl ⟨rfl, ends_value' (c := .int .i64 (F 1 * 4)) ?_⟩
    simp [execOp, Act.eval, d14]
   | 4, ho =>
    obtain rfl := Option.some.inj ho
    have d16 : bx.tmps.getD 16 undef = .int .i64 (F 3) := hS.dep 2 16
    refine .inl ⟨rfl, ends_value' (c := .int .i64 (F 3)) ?_⟩
    simp [execOp, Act.eval, d16]
   | 5, ho =>
    obtain rfl := Option.some.inj ho
    refine .inl ⟨rfl, ends_value' (c := .bool true) ?_⟩
    simp [execOp, Act.eval]
   | n + 6, ho => exact absurd ho (by simp)
  case fin =>
   intro u hbel
   simp [putAll, dstAt, Act.put]
   go_wp2_with fail
   go_ret3
   exact ⟨ret_iib H1.out.symm H2.out.symm H3.out.symm, v3.drew.trans (hbel.mono (by omega))⟩

set_option maxRecDepth 100000 in
set_option maxHeartbeats 2000000 in
theorem rsizes_any (s : ByteArray) (w : World) (hs : s.size ≤ 281474976710656) :
  Calls Tryz.prog 87 #[.string s] w fun e w' => e = .returned (.tuple #[.int .i64 (sizeH s), .int .i64 (sizeT s), .int .i64 (measE s)]) ∧ w' = w := by
 have hs9 : (s.size : Int) ≤ 281474976710656 := by omega
 by_cases h20 : s.size < 20
 ·have HE : Hid (measE s = 2) := by show _ = _; unfold measE; rw [if_pos h20]
  have H1 : Hid (sizeH s = 0) := if_neg (by rw [HE.out]; decide)
  have H2 : Hid (sizeT s = 0) := if_neg (by rw [HE.out]; decide)
  have hd : decide ((s.size : Int) < 20) = true := by simp; omega
  go_enter Tryz.func87, Tryz.ntmps87
  go_wp2_with fail
  go_ret3
  exact ⟨ret_iii H1.out.symm H2.out.symm HE.out.symm, rfl⟩
 ·have hd20 : decide ((s.size : Int) < 20) = false := by simp; omega
  have e0 : fget s 0 = (s[0].toNat : Int) / 16 := by rw [fget_fb s (by omega) 0 (by decide)]; show byt s 0 / 16 = _; rw [byt_eq s 0 (by omega)]
  have e1 : fget s 1 = (s[0].toNat : Int) % 16 := by rw [fget_fb s (by omega) 1 (by decide)]; show byt s 0 % 16 = _; rw [byt_eq s 0 (by omega)]
  have e3 : got s 2 2 = fget s 3 := by
   rw [fget_fb s (by omega) 3 (by decide), got, if_pos ((gotB_iff s 2 2).2 ⟨⟨by omega, by omega⟩, by omega, by omega⟩)]
   exact num2 s.data.toList 2 (by rw [Oct.len_eq]; omega)
  have hget : ∀ u, Calls Tryz.prog 33 #[.string s, .int .i64 2, .int .i64 2] u fun e u' => e = .returned (.tuple #[.int .i64 (fget s 3), .bool (gotB s 2 2)]) ∧ u' = u := fun u => by
   rw [← e3]; exact rget_any s 2 2 u (by unfold maxLen; omega)
  clear e3
  have hlt := s[0].toNat_lt
  have hzz : 0 < s.size := by omega
  have hsz4 : 4 * ((s[0].toNat : Int) % 16) = fget s 1 * 4 := by omega
  generalize hb0 : s[0].toNat = b0 at *
  by_cases h0 : fget s 0 = 4
  case neg =>
   have HE : Hid (measE s = 3) := by show _ = _; unfold measE; rw [if_neg h20, if_pos h0]
   have H1 : Hid (sizeH s = 0) := if_neg (by rw [HE.out]; decide)
   have H2 : Hid (sizeT s = 0) := if_neg (by rw [HE.out]; decide)
   have d0 : ((b0 : Int) / 16 != 4) = true := by simp; omega
   go_enter Tryz.func87, Tryz.ntmps87
   go_wp2_with fail
   go_ret3
   exact ⟨ret_iii (H1.out.symm) H2.out.symm HE.out.symm, rfl⟩
  case pos =>
   have d0 : ((b0 : Int) / 16 != 4) = false := by simp; omega
   by_cases ha : fget s 1 * 4 < 20
   case pos =>
    have HE : Hid (measE s = 4) := by show _ = _; unfold measE; rw [if_neg h20, if_neg (not_not_intro h0), if_pos (.inl ha)]
    have H1 : Hid (sizeH s = 0) := if_neg (by rw [HE.out]; decide)
    have H2 : Hid (sizeT s = 0) := if_neg (by rw [HE.out]; decide)
    have d1 : decide (4 * ((b0 : Int) % 16) < 20) = true := by simp; omega
    go_enter Tryz.func87, Tryz.ntmps87
    go_wp2_with fail
    go_ret3
    exact ⟨ret_iii (H1.out.symm) H2.out.symm HE.out.symm, rfl⟩
   case neg =>
    have d1 : decide (4 * ((b0 : Int) % 16) < 20) = false := by simp; omega
    by_cases hb : (s.size : Int) < fget s 1 * 4
    case pos =>
     have HE : Hid (measE s = 4) := by show _ = _; unfold measE; rw [if_neg h20, if_neg (not_not_intro h0), if_pos (.inr hb)]
     have H1 : Hid (sizeH s = 0) := if_neg (by rw [HE.out]; decide)
     have H2 : Hid (sizeT s = 0) := if_neg (by rw [HE.out]; decide)
     have d2 : decide ((s.size : Int) < 4 * ((b0 : Int) % 16)) = true := by simp; omega
     go_enter Tryz.func87, Tryz.ntmps87
     go_wp2_with fail
     go_ret3
     exact ⟨ret_iii (H1.out.symm) H2.out.symm HE.out.symm, rfl⟩
    case neg =>
     have d2 : decide ((s.size : Int) < 4 * ((b0 : Int) % 16)) = false := by simp; omega
     by_cases hc : fget s 3 < fget s 1 * 4
     case pos =>
      have HE : Hid (measE s = 5) := by show _ = _; unfold measE; rw [if_neg h20, if_neg (not_not_intro h0), if_neg (by omega), if_pos (.inl hc)]
      have H1 : Hid (sizeH s = 0) := if_neg (by rw [HE.out]; decide)
      have H2 : Hid (sizeT s = 0) := if_neg (by rw [HE.out]; decide)
      have d3 : decide (fget s 3 < 4 * ((b0 : Int) % 16)) = true := by simp; omega
      go_enter Tryz.func87, Tryz.ntmps87
      go_wp2_with fail
      refine (hget _).mono ?_
      rintro e w1 ⟨rfl, he1⟩
      have he1 := he1.symm
      subst he1
      go_wp2_with fail
      go_ret3
      exact ⟨ret_iii (H1.out.symm) H2.out.symm HE.out.symm, rfl⟩
     case neg =>
      have d3 : decide (fget s 3 < 4 * ((b0 : Int) % 16)) = false := by simp; omega
      by_cases hd : (s.size : Int) < fget s 3
      case pos =>
       have HE : Hid (measE s = 5) := by show _ = _; unfold measE; rw [if_neg h20, if_neg (not_not_intro h0), if_neg (by omega), if_pos (.inr hd)]
       have H1 : Hid (sizeH s = 0) := if_neg (by rw [HE.out]; decide)
       have H2 : Hid (sizeT s = 0) := if_neg (by rw [HE.out]; decide)
       have d4 : decide ((s.size : Int) < fget s 3) = true := by simpa using hd
       go_enter Tryz.func87, Tryz.ntmps87
       go_wp2_with fail
       refine (hget _).mono ?_
       rintro e w1 ⟨rfl, he1⟩
       have he1 := he1.symm
       subst he1
       go_wp2_with fail
       go_ret3
       exact ⟨ret_iii (H1.out.symm) H2.out.symm HE.out.symm, rfl⟩
      case neg =>
       have d4 : decide ((s.size : Int) < fget s 3) = false := by simpa using hd
       by_cases he : 1500 < fget s 3
       case pos =>
        have HE : Hid (measE s = 18) := by show _ = _; unfold measE; rw [if_neg h20, if_neg (not_not_intro h0), if_neg (by omega), if_neg (by omega), if_pos he]
        have H1 : Hid (sizeH s = 0) := if_neg (by rw [HE.out]; decide)
        have H2 : Hid (sizeT s = 0) := if_neg (by rw [HE.out]; decide)
        have d5 : decide (1500 < fget s 3) = true := by simpa using he
        go_enter Tryz.func87, Tryz.ntmps87
        go_wp2_with fail
        refine (hget _).mono ?_
        rintro e w1 ⟨rfl, he1⟩
        have he1 := he1.symm
        subst he1
        go_wp2_with fail
        go_ret3
        exact ⟨ret_iii (H1.out.symm) H2.out.symm HE.out.symm, rfl⟩
       case neg =>
        have HE : Hid (measE s = 0) := by show _ = _; unfold measE; rw [if_neg h20, if_neg (not_not_intro h0), if_neg (by omega), if_neg (by omega), if_neg he]
        have H1 : Hid (sizeH s = fget s 1 * 4) := if_pos HE.out
        have H2 : Hid (sizeT s = fget s 3) := if_pos HE.out
        have d5 : decide (1500 < fget s 3) = false := by simpa using he
        go_enter Tryz.func87, Tryz.ntmps87
        go_wp2_with fail
        refine (hget _).mono ?_
        rintro e w1 ⟨rfl, he1⟩
        have he1 := he1.symm
        subst he1
        go_wp2_with fail
        go_ret3
        exact ⟨ret_iii (by rw [H1.out]; exact hsz4) H2.out.symm HE.out.symm, rfl⟩
end Go.Proofs.YtpjaajeojiaeiaaGreatDoor.Ip
