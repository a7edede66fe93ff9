/- What measured and Size compute, and the reference's Sizes. -/
import Derived.Test.YtfppjpcolohmfaaIpByte
import Derived.Test.YtfppjpcolohmfaaIpHd
import Derived.Test.YtfppjpcolohmfaaIpGrow
import Derived.Test.YtfppjpcolohmfaaIpRight
namespace Go.Proofs.Ytfppjpcolohmfaa
open Go.ChangeShapes Go.WideShapes Go.ChangeAt Go.RowKit

def zeroF : Nat → Int := fun _ => 0
/-- The fixed part that measured answers. -/
def measF (s : ByteArray) : Nat → Int := if measE s = 0 then fget s else zeroF
abbrev zeroFix : Value := .agg #[.int .i64 0, .int .i64 0, .int .i64 0, .int .i64 0, .int .i64 0, .int .i64 0, .int .i64 0, .int .i64 0, .int .i64 0, .int .i64 0, .int .i64 0, .int .i64 0]

set_option maxRecDepth 100000 in
set_option maxHeartbeats 2000000 in
theorem measured_any (s : ByteArray) (w : World) (hs : s.size ≤ 281474976710656) :
    Calls Try.prog 32 #[.string s] w fun e w' => e = .returned (.tuple #[fixVal (measF s), .int .i64 (measE s)]) ∧ Below w.heap.size w w' := by
  have hs9 : (s.size : Int) ≤ 281474976710656 := by omega
  by_cases h20 : s.size < 20
  · have HR : Hid (measE s = 2) := by show _ = _; unfold measE; rw [if_pos h20]
    have HZ : Hid (measF s = zeroF) := by show _ = _; unfold measF; rw [HR.out, if_neg (by decide)]
    have hd : decide ((s.size : Int) < 20) = true := by simp; omega
    go_enter Try.func32, Try.ntmps32
    go_wp2_with fail
    rw [HR.out, HZ.out]
    refine bodyPost_ret (v := .tuple #[zeroFix, .int .i64 2]) ?_ rfl ⟨rfl, ?_⟩
    · simp [results, Try.results32, go_sem]
    · (repeat first | exact Below.refl _ _ | refine Below.drew ?_ | refine Below.alloc ?_ (by simp <;> omega) _ | refine Below.setCell ?_ (by simp <;> omega) _)
  · have h20' : 20 ≤ s.size := by omega
    have hd20 : decide ((s.size : Int) < 20) = false := by simp; omega
    have f1 := fit1 (fget_fits s)
    have f3 := fit3 (fget_fits s)
    by_cases h0 : fget s 0 = 4
    case neg =>
      have HR : Hid (measE s = 3) := by show _ = _; unfold measE; rw [if_neg h20, if_pos h0]
      have HZ : Hid (measF s = zeroF) := by show _ = _; unfold measF; rw [HR.out, if_neg (by decide)]
      have H0 := hide h0
      clear h0
      go_enter Try.func32, Try.ntmps32
      go_wp2_with fail
      refine (read_any s _ h20' hs).mono ?_
      rintro e w1 ⟨rfl, hb1⟩
      obtain ⟨HZ, HZf⟩ : FixAt w1 w.heap.size zeroF ∧ ∀ j, w1.frozen? ⟨w.heap.size, j, none⟩ = false := ⟨(fixAt_new w zeroF 55).on hb1 (by simp), fun j => (hb1.frozen (p := ⟨w.heap.size, j, none⟩) (by simp)).trans (by simp [go_sem])⟩
      have hbw : Below w.heap.size w w1 := ((Below.refl w.heap.size w).alloc (Nat.le_refl _) _).trans (hb1.mono (by simp))
      have hsw : w.heap.size + 1 ≤ w1.heap.size := by have := hb1.size; simp at this; omega
      have hV1 := fixAt_new w1 (fget s) 55
      have hV2 := HZ.on ((Below.refl w1.heap.size w1).alloc (Nat.le_refl _) (.cells #[.int .i64 (fget s 0), .int .i64 (fget s 1), .int .i64 (fget s 2), .int .i64 (fget s 3), .int .i64 (fget s 4), .int .i64 (fget s 5), .int .i64 (fget s 6), .int .i64 (fget s 7), .int .i64 (fget s 8), .int .i64 (fget s 9), .int .i64 (fget s 10), .int .i64 (fget s 11)] 55)) (by omega)
      have hV3 : ∀ j, (w1.alloc (.cells #[.int .i64 (fget s 0), .int .i64 (fget s 1), .int .i64 (fget s 2), .int .i64 (fget s 3), .int .i64 (fget s 4), .int .i64 (fget s 5), .int .i64 (fget s 6), .int .i64 (fget s 7), .int .i64 (fget s 8), .int .i64 (fget s 9), .int .i64 (fget s 10), .int .i64 (fget s 11)] 55)).frozen? ⟨w.heap.size, j, none⟩ = false := fun j => (((Below.refl w1.heap.size w1).alloc (Nat.le_refl _) _).frozen (p := ⟨w.heap.size, j, none⟩) (by simp; omega)).trans (HZf j)
      have hV4 := hbw.alloc (by omega) (.cells #[.int .i64 (fget s 0), .int .i64 (fget s 1), .int .i64 (fget s 2), .int .i64 (fget s 3), .int .i64 (fget s 4), .int .i64 (fget s 5), .int .i64 (fget s 6), .int .i64 (fget s 7), .int .i64 (fget s 8), .int .i64 (fget s 9), .int .i64 (fget s 10), .int .i64 (fget s 11)] 55)
      clear hb1 HZ HZf hbw
      go_wp2_with fail
      generalize w1.alloc (.cells #[.int .i64 (fget s 0), .int .i64 (fget s 1), .int .i64 (fget s 2), .int .i64 (fget s 3), .int .i64 (fget s 4), .int .i64 (fget s 5), .int .i64 (fget s 6), .int .i64 (fget s 7), .int .i64 (fget s 8), .int .i64 (fget s 9), .int .i64 (fget s 10), .int .i64 (fget s 11)] 55) = V at *
      refine (size_any w1.heap.size (fget s) V hV1 (by omega) (by omega)).mono ?_
      rintro e w2 ⟨rfl, rfl⟩
      have h0 := unhide H0
      have c0 := hV1 0 (by decide)
      have r0 := hV2 0 (by decide)
      have c1 := hV1 1 (by decide)
      have r1 := hV2 1 (by decide)
      have c2 := hV1 2 (by decide)
      have r2 := hV2 2 (by decide)
      have c3 := hV1 3 (by decide)
      have r3 := hV2 3 (by decide)
      have c4 := hV1 4 (by decide)
      have r4 := hV2 4 (by decide)
      have c5 := hV1 5 (by decide)
      have r5 := hV2 5 (by decide)
      have c6 := hV1 6 (by decide)
      have r6 := hV2 6 (by decide)
      have c7 := hV1 7 (by decide)
      have r7 := hV2 7 (by decide)
      have c8 := hV1 8 (by decide)
      have r8 := hV2 8 (by decide)
      have c9 := hV1 9 (by decide)
      have r9 := hV2 9 (by decide)
      have c10 := hV1 10 (by decide)
      have r10 := hV2 10 (by decide)
      have c11 := hV1 11 (by decide)
      have r11 := hV2 11 (by decide)
      simp only [zeroF] at r0 r1 r2 r3 r4 r5 r6 r7 r8 r9 r10 r11
      have HV1 := hide hV1
      have HV2 := hide hV2
      have HV4 := hide hV4
      clear hV1 hV2 hV4
      go_wp2_with fail
      have hfx := set12_fix (zeroF) (unhide HV2)
      have hbz := set12_below (b := w.heap.size) (F := zeroF) (unhide HV4) (Nat.le_refl _)
      clear HV1 HV2 HV4 hV3 c0 r0 c1 r1 c2 r2 c3 r3 c4 r4 c5 r5 c6 r6 c7 r7 c8 r8 c9 r9 c10 r10 c11 r11
      have g0 := hfx 0 (by decide)
      have g1 := hfx 1 (by decide)
      have g2 := hfx 2 (by decide)
      have g3 := hfx 3 (by decide)
      have g4 := hfx 4 (by decide)
      have g5 := hfx 5 (by decide)
      have g6 := hfx 6 (by decide)
      have g7 := hfx 7 (by decide)
      have g8 := hfx 8 (by decide)
      have g9 := hfx 9 (by decide)
      have g10 := hfx 10 (by decide)
      have g11 := hfx 11 (by decide)
      clear hfx
      simp only [set12, zeroF] at hbz g0 g1 g2 g3 g4 g5 g6 g7 g8 g9 g10 g11
      rw [HR.out, HZ.out]
      refine bodyPost_ret (v := .tuple #[zeroFix, .int .i64 3]) ?_ rfl ⟨rfl, hbz⟩
      simp [results, Try.results32, go_sem, g0, g1, g2, g3, g4, g5, g6, g7, g8, g9, g10, g11]
    case pos =>
      by_cases ha : fget s 1 * 4 < 20
      case pos =>
        have HR : Hid (measE s = 4) := by show _ = _; unfold measE; rw [if_neg h20, if_neg (not_not_intro h0), if_pos (.inl ha)]
        have HZ : Hid (measF s = zeroF) := by show _ = _; unfold measF; rw [HR.out, if_neg (by decide)]
        have d1 : decide (fget s 1 * 4 < 20) = true := by simpa using ha
        have H0 := hide h0
        clear h0
        go_enter Try.func32, Try.ntmps32
        go_wp2_with fail
        refine (read_any s _ h20' hs).mono ?_
        rintro e w1 ⟨rfl, hb1⟩
        obtain ⟨HZ, HZf⟩ : FixAt w1 w.heap.size zeroF ∧ ∀ j, w1.frozen? ⟨w.heap.size, j, none⟩ = false := ⟨(fixAt_new w zeroF 55).on hb1 (by simp), fun j => (hb1.frozen (p := ⟨w.heap.size, j, none⟩) (by simp)).trans (by simp [go_sem])⟩
        have hbw : Below w.heap.size w w1 := ((Below.refl w.heap.size w).alloc (Nat.le_refl _) _).trans (hb1.mono (by simp))
        have hsw : w.heap.size + 1 ≤ w1.heap.size := by have := hb1.size; simp at this; omega
        have hV1 := fixAt_new w1 (fget s) 55
        have hV2 := HZ.on ((Below.refl w1.heap.size w1).alloc (Nat.le_refl _) (.cells #[.int .i64 (fget s 0), .int .i64 (fget s 1), .int .i64 (fget s 2), .int .i64 (fget s 3), .int .i64 (fget s 4), .int .i64 (fget s 5), .int .i64 (fget s 6), .int .i64 (fget s 7), .int .i64 (fget s 8), .int .i64 (fget s 9), .int .i64 (fget s 10), .int .i64 (fget s 11)] 55)) (by omega)
        have hV3 : ∀ j, (w1.alloc (.cells #[.int .i64 (fget s 0), .int .i64 (fget s 1), .int .i64 (fget s 2), .int .i64 (fget s 3), .int .i64 (fget s 4), .int .i64 (fget s 5), .int .i64 (fget s 6), .int .i64 (fget s 7), .int .i64 (fget s 8), .int .i64 (fget s 9), .int .i64 (fget s 10), .int .i64 (fget s 11)] 55)).frozen? ⟨w.heap.size, j, none⟩ = false := fun j => (((Below.refl w1.heap.size w1).alloc (Nat.le_refl _) _).frozen (p := ⟨w.heap.size, j, none⟩) (by simp; omega)).trans (HZf j)
        have hV4 := hbw.alloc (by omega) (.cells #[.int .i64 (fget s 0), .int .i64 (fget s 1), .int .i64 (fget s 2), .int .i64 (fget s 3), .int .i64 (fget s 4), .int .i64 (fget s 5), .int .i64 (fget s 6), .int .i64 (fget s 7), .int .i64 (fget s 8), .int .i64 (fget s 9), .int .i64 (fget s 10), .int .i64 (fget s 11)] 55)
        clear hb1 HZ HZf hbw
        go_wp2_with fail
        generalize w1.alloc (.cells #[.int .i64 (fget s 0), .int .i64 (fget s 1), .int .i64 (fget s 2), .int .i64 (fget s 3), .int .i64 (fget s 4), .int .i64 (fget s 5), .int .i64 (fget s 6), .int .i64 (fget s 7), .int .i64 (fget s 8), .int .i64 (fget s 9), .int .i64 (fget s 10), .int .i64 (fget s 11)] 55) = V at *
        refine (size_any w1.heap.size (fget s) V hV1 (by omega) (by omega)).mono ?_
        rintro e w2 ⟨rfl, rfl⟩
        have h0 := unhide H0
        have c0 := hV1 0 (by decide)
        have r0 := hV2 0 (by decide)
        have c1 := hV1 1 (by decide)
        have r1 := hV2 1 (by decide)
        have c2 := hV1 2 (by decide)
        have r2 := hV2 2 (by decide)
        have c3 := hV1 3 (by decide)
        have r3 := hV2 3 (by decide)
        have c4 := hV1 4 (by decide)
        have r4 := hV2 4 (by decide)
        have c5 := hV1 5 (by decide)
        have r5 := hV2 5 (by decide)
        have c6 := hV1 6 (by decide)
        have r6 := hV2 6 (by decide)
        have c7 := hV1 7 (by decide)
        have r7 := hV2 7 (by decide)
        have c8 := hV1 8 (by decide)
        have r8 := hV2 8 (by decide)
        have c9 := hV1 9 (by decide)
        have r9 := hV2 9 (by decide)
        have c10 := hV1 10 (by decide)
        have r10 := hV2 10 (by decide)
        have c11 := hV1 11 (by decide)
        have r11 := hV2 11 (by decide)
        simp only [zeroF] at r0 r1 r2 r3 r4 r5 r6 r7 r8 r9 r10 r11
        have HV1 := hide hV1
        have HV2 := hide hV2
        have HV4 := hide hV4
        clear hV1 hV2 hV4
        go_wp2_with fail
        have hfx := set12_fix (zeroF) (unhide HV2)
        have hbz := set12_below (b := w.heap.size) (F := zeroF) (unhide HV4) (Nat.le_refl _)
        clear HV1 HV2 HV4 hV3 c0 r0 c1 r1 c2 r2 c3 r3 c4 r4 c5 r5 c6 r6 c7 r7 c8 r8 c9 r9 c10 r10 c11 r11
        have g0 := hfx 0 (by decide)
        have g1 := hfx 1 (by decide)
        have g2 := hfx 2 (by decide)
        have g3 := hfx 3 (by decide)
        have g4 := hfx 4 (by decide)
        have g5 := hfx 5 (by decide)
        have g6 := hfx 6 (by decide)
        have g7 := hfx 7 (by decide)
        have g8 := hfx 8 (by decide)
        have g9 := hfx 9 (by decide)
        have g10 := hfx 10 (by decide)
        have g11 := hfx 11 (by decide)
        clear hfx
        simp only [set12, zeroF] at hbz g0 g1 g2 g3 g4 g5 g6 g7 g8 g9 g10 g11
        rw [HR.out, HZ.out]
        refine bodyPost_ret (v := .tuple #[zeroFix, .int .i64 4]) ?_ rfl ⟨rfl, hbz⟩
        simp [results, Try.results32, go_sem, g0, g1, g2, g3, g4, g5, g6, g7, g8, g9, g10, g11]
      case neg =>
        have d1 : decide (fget s 1 * 4 < 20) = false := by simpa using ha
        by_cases hb : (s.size : Int) < fget s 1 * 4
        case pos =>
          have HR : Hid (measE s = 4) := by show _ = _; unfold measE; rw [if_neg h20, if_neg (not_not_intro h0), if_pos (.inr hb)]
          have HZ : Hid (measF s = zeroF) := by show _ = _; unfold measF; rw [HR.out, if_neg (by decide)]
          have d2 : decide ((s.size : Int) < fget s 1 * 4) = true := by simpa using hb
          have H0 := hide h0
          clear h0
          go_enter Try.func32, Try.ntmps32
          go_wp2_with fail
          refine (read_any s _ h20' hs).mono ?_
          rintro e w1 ⟨rfl, hb1⟩
          obtain ⟨HZ, HZf⟩ : FixAt w1 w.heap.size zeroF ∧ ∀ j, w1.frozen? ⟨w.heap.size, j, none⟩ = false := ⟨(fixAt_new w zeroF 55).on hb1 (by simp), fun j => (hb1.frozen (p := ⟨w.heap.size, j, none⟩) (by simp)).trans (by simp [go_sem])⟩
          have hbw : Below w.heap.size w w1 := ((Below.refl w.heap.size w).alloc (Nat.le_refl _) _).trans (hb1.mono (by simp))
          have hsw : w.heap.size + 1 ≤ w1.heap.size := by have := hb1.size; simp at this; omega
          have hV1 := fixAt_new w1 (fget s) 55
          have hV2 := HZ.on ((Below.refl w1.heap.size w1).alloc (Nat.le_refl _) (.cells #[.int .i64 (fget s 0), .int .i64 (fget s 1), .int .i64 (fget s 2), .int .i64 (fget s 3), .int .i64 (fget s 4), .int .i64 (fget s 5), .int .i64 (fget s 6), .int .i64 (fget s 7), .int .i64 (fget s 8), .int .i64 (fget s 9), .int .i64 (fget s 10), .int .i64 (fget s 11)] 55)) (by omega)
          have hV3 : ∀ j, (w1.alloc (.cells #[.int .i64 (fget s 0), .int .i64 (fget s 1), .int .i64 (fget s 2), .int .i64 (fget s 3), .int .i64 (fget s 4), .int .i64 (fget s 5), .int .i64 (fget s 6), .int .i64 (fget s 7), .int .i64 (fget s 8), .int .i64 (fget s 9), .int .i64 (fget s 10), .int .i64 (fget s 11)] 55)).frozen? ⟨w.heap.size, j, none⟩ = false := fun j => (((Below.refl w1.heap.size w1).alloc (Nat.le_refl _) _).frozen (p := ⟨w.heap.size, j, none⟩) (by simp; omega)).trans (HZf j)
          have hV4 := hbw.alloc (by omega) (.cells #[.int .i64 (fget s 0), .int .i64 (fget s 1), .int .i64 (fget s 2), .int .i64 (fget s 3), .int .i64 (fget s 4), .int .i64 (fget s 5), .int .i64 (fget s 6), .int .i64 (fget s 7), .int .i64 (fget s 8), .int .i64 (fget s 9), .int .i64 (fget s 10), .int .i64 (fget s 11)] 55)
          clear hb1 HZ HZf hbw
          go_wp2_with fail
          generalize w1.alloc (.cells #[.int .i64 (fget s 0), .int .i64 (fget s 1), .int .i64 (fget s 2), .int .i64 (fget s 3), .int .i64 (fget s 4), .int .i64 (fget s 5), .int .i64 (fget s 6), .int .i64 (fget s 7), .int .i64 (fget s 8), .int .i64 (fget s 9), .int .i64 (fget s 10), .int .i64 (fget s 11)] 55) = V at *
          refine (size_any w1.heap.size (fget s) V hV1 (by omega) (by omega)).mono ?_
          rintro e w2 ⟨rfl, rfl⟩
          have h0 := unhide H0
          have c0 := hV1 0 (by decide)
          have r0 := hV2 0 (by decide)
          have c1 := hV1 1 (by decide)
          have r1 := hV2 1 (by decide)
          have c2 := hV1 2 (by decide)
          have r2 := hV2 2 (by decide)
          have c3 := hV1 3 (by decide)
          have r3 := hV2 3 (by decide)
          have c4 := hV1 4 (by decide)
          have r4 := hV2 4 (by decide)
          have c5 := hV1 5 (by decide)
          have r5 := hV2 5 (by decide)
          have c6 := hV1 6 (by decide)
          have r6 := hV2 6 (by decide)
          have c7 := hV1 7 (by decide)
          have r7 := hV2 7 (by decide)
          have c8 := hV1 8 (by decide)
          have r8 := hV2 8 (by decide)
          have c9 := hV1 9 (by decide)
          have r9 := hV2 9 (by decide)
          have c10 := hV1 10 (by decide)
          have r10 := hV2 10 (by decide)
          have c11 := hV1 11 (by decide)
          have r11 := hV2 11 (by decide)
          simp only [zeroF] at r0 r1 r2 r3 r4 r5 r6 r7 r8 r9 r10 r11
          have HV1 := hide hV1
          have HV2 := hide hV2
          have HV4 := hide hV4
          clear hV1 hV2 hV4
          go_wp2_with fail
          have hfx := set12_fix (zeroF) (unhide HV2)
          have hbz := set12_below (b := w.heap.size) (F := zeroF) (unhide HV4) (Nat.le_refl _)
          clear HV1 HV2 HV4 hV3 c0 r0 c1 r1 c2 r2 c3 r3 c4 r4 c5 r5 c6 r6 c7 r7 c8 r8 c9 r9 c10 r10 c11 r11
          have g0 := hfx 0 (by decide)
          have g1 := hfx 1 (by decide)
          have g2 := hfx 2 (by decide)
          have g3 := hfx 3 (by decide)
          have g4 := hfx 4 (by decide)
          have g5 := hfx 5 (by decide)
          have g6 := hfx 6 (by decide)
          have g7 := hfx 7 (by decide)
          have g8 := hfx 8 (by decide)
          have g9 := hfx 9 (by decide)
          have g10 := hfx 10 (by decide)
          have g11 := hfx 11 (by decide)
          clear hfx
          simp only [set12, zeroF] at hbz g0 g1 g2 g3 g4 g5 g6 g7 g8 g9 g10 g11
          rw [HR.out, HZ.out]
          refine bodyPost_ret (v := .tuple #[zeroFix, .int .i64 4]) ?_ rfl ⟨rfl, hbz⟩
          simp [results, Try.results32, go_sem, g0, g1, g2, g3, g4, g5, g6, g7, g8, g9, g10, g11]
        case neg =>
          have d2 : decide ((s.size : Int) < fget s 1 * 4) = false := by simpa using hb
          by_cases hc : fget s 3 < fget s 1 * 4
          case pos =>
            have HR : Hid (measE s = 5) := by show _ = _; unfold measE; rw [if_neg h20, if_neg (not_not_intro h0), if_neg (by omega), if_pos (.inl hc)]
            have HZ : Hid (measF s = zeroF) := by show _ = _; unfold measF; rw [HR.out, if_neg (by decide)]
            have d3 : decide (fget s 3 < fget s 1 * 4) = true := by simpa using hc
            have H0 := hide h0
            clear h0
            go_enter Try.func32, Try.ntmps32
            go_wp2_with fail
            refine (read_any s _ h20' hs).mono ?_
            rintro e w1 ⟨rfl, hb1⟩
            obtain ⟨HZ, HZf⟩ : FixAt w1 w.heap.size zeroF ∧ ∀ j, w1.frozen? ⟨w.heap.size, j, none⟩ = false := ⟨(fixAt_new w zeroF 55).on hb1 (by simp), fun j => (hb1.frozen (p := ⟨w.heap.size, j, none⟩) (by simp)).trans (by simp [go_sem])⟩
            have hbw : Below w.heap.size w w1 := ((Below.refl w.heap.size w).alloc (Nat.le_refl _) _).trans (hb1.mono (by simp))
            have hsw : w.heap.size + 1 ≤ w1.heap.size := by have := hb1.size; simp at this; omega
            have hV1 := fixAt_new w1 (fget s) 55
            have hV2 := HZ.on ((Below.refl w1.heap.size w1).alloc (Nat.le_refl _) (.cells #[.int .i64 (fget s 0), .int .i64 (fget s 1), .int .i64 (fget s 2), .int .i64 (fget s 3), .int .i64 (fget s 4), .int .i64 (fget s 5), .int .i64 (fget s 6), .int .i64 (fget s 7), .int .i64 (fget s 8), .int .i64 (fget s 9), .int .i64 (fget s 10), .int .i64 (fget s 11)] 55)) (by omega)
            have hV3 : ∀ j, (w1.alloc (.cells #[.int .i64 (fget s 0), .int .i64 (fget s 1), .int .i64 (fget s 2), .int .i64 (fget s 3), .int .i64 (fget s 4), .int .i64 (fget s 5), .int .i64 (fget s 6), .int .i64 (fget s 7), .int .i64 (fget s 8), .int .i64 (fget s 9), .int .i64 (fget s 10), .int .i64 (fget s 11)] 55)).frozen? ⟨w.heap.size, j, none⟩ = false := fun j => (((Below.refl w1.heap.size w1).alloc (Nat.le_refl _) _).frozen (p := ⟨w.heap.size, j, none⟩) (by simp; omega)).trans (HZf j)
            have hV4 := hbw.alloc (by omega) (.cells #[.int .i64 (fget s 0), .int .i64 (fget s 1), .int .i64 (fget s 2), .int .i64 (fget s 3), .int .i64 (fget s 4), .int .i64 (fget s 5), .int .i64 (fget s 6), .int .i64 (fget s 7), .int .i64 (fget s 8), .int .i64 (fget s 9), .int .i64 (fget s 10), .int .i64 (fget s 11)] 55)
            clear hb1 HZ HZf hbw
            go_wp2_with fail
            generalize w1.alloc (.cells #[.int .i64 (fget s 0), .int .i64 (fget s 1), .int .i64 (fget s 2), .int .i64 (fget s 3), .int .i64 (fget s 4), .int .i64 (fget s 5), .int .i64 (fget s 6), .int .i64 (fget s 7), .int .i64 (fget s 8), .int .i64 (fget s 9), .int .i64 (fget s 10), .int .i64 (fget s 11)] 55) = V at *
            refine (size_any w1.heap.size (fget s) V hV1 (by omega) (by omega)).mono ?_
            rintro e w2 ⟨rfl, rfl⟩
            have h0 := unhide H0
            have c0 := hV1 0 (by decide)
            have r0 := hV2 0 (by decide)
            have c1 := hV1 1 (by decide)
            have r1 := hV2 1 (by decide)
            have c2 := hV1 2 (by decide)
            have r2 := hV2 2 (by decide)
            have c3 := hV1 3 (by decide)
            have r3 := hV2 3 (by decide)
            have c4 := hV1 4 (by decide)
            have r4 := hV2 4 (by decide)
            have c5 := hV1 5 (by decide)
            have r5 := hV2 5 (by decide)
            have c6 := hV1 6 (by decide)
            have r6 := hV2 6 (by decide)
            have c7 := hV1 7 (by decide)
            have r7 := hV2 7 (by decide)
            have c8 := hV1 8 (by decide)
            have r8 := hV2 8 (by decide)
            have c9 := hV1 9 (by decide)
            have r9 := hV2 9 (by decide)
            have c10 := hV1 10 (by decide)
            have r10 := hV2 10 (by decide)
            have c11 := hV1 11 (by decide)
            have r11 := hV2 11 (by decide)
            simp only [zeroF] at r0 r1 r2 r3 r4 r5 r6 r7 r8 r9 r10 r11
            have HV1 := hide hV1
            have HV2 := hide hV2
            have HV4 := hide hV4
            clear hV1 hV2 hV4
            go_wp2_with fail
            have hfx := set12_fix (zeroF) (unhide HV2)
            have hbz := set12_below (b := w.heap.size) (F := zeroF) (unhide HV4) (Nat.le_refl _)
            clear HV1 HV2 HV4 hV3 c0 r0 c1 r1 c2 r2 c3 r3 c4 r4 c5 r5 c6 r6 c7 r7 c8 r8 c9 r9 c10 r10 c11 r11
            have g0 := hfx 0 (by decide)
            have g1 := hfx 1 (by decide)
            have g2 := hfx 2 (by decide)
            have g3 := hfx 3 (by decide)
            have g4 := hfx 4 (by decide)
            have g5 := hfx 5 (by decide)
            have g6 := hfx 6 (by decide)
            have g7 := hfx 7 (by decide)
            have g8 := hfx 8 (by decide)
            have g9 := hfx 9 (by decide)
            have g10 := hfx 10 (by decide)
            have g11 := hfx 11 (by decide)
            clear hfx
            simp only [set12, zeroF] at hbz g0 g1 g2 g3 g4 g5 g6 g7 g8 g9 g10 g11
            rw [HR.out, HZ.out]
            refine bodyPost_ret (v := .tuple #[zeroFix, .int .i64 5]) ?_ rfl ⟨rfl, hbz⟩
            simp [results, Try.results32, go_sem, g0, g1, g2, g3, g4, g5, g6, g7, g8, g9, g10, g11]
          case neg =>
            have d3 : decide (fget s 3 < fget s 1 * 4) = false := by simpa using hc
            by_cases hd : (s.size : Int) < fget s 3
            case pos =>
              have HR : Hid (measE s = 5) := by show _ = _; unfold measE; rw [if_neg h20, if_neg (not_not_intro h0), if_neg (by omega), if_pos (.inr hd)]
              have HZ : Hid (measF s = zeroF) := by show _ = _; unfold measF; rw [HR.out, if_neg (by decide)]
              have d4 : decide ((s.size : Int) < fget s 3) = true := by simpa using hd
              have H0 := hide h0
              clear h0
              go_enter Try.func32, Try.ntmps32
              go_wp2_with fail
              refine (read_any s _ h20' hs).mono ?_
              rintro e w1 ⟨rfl, hb1⟩
              obtain ⟨HZ, HZf⟩ : FixAt w1 w.heap.size zeroF ∧ ∀ j, w1.frozen? ⟨w.heap.size, j, none⟩ = false := ⟨(fixAt_new w zeroF 55).on hb1 (by simp), fun j => (hb1.frozen (p := ⟨w.heap.size, j, none⟩) (by simp)).trans (by simp [go_sem])⟩
              have hbw : Below w.heap.size w w1 := ((Below.refl w.heap.size w).alloc (Nat.le_refl _) _).trans (hb1.mono (by simp))
              have hsw : w.heap.size + 1 ≤ w1.heap.size := by have := hb1.size; simp at this; omega
              have hV1 := fixAt_new w1 (fget s) 55
              have hV2 := HZ.on ((Below.refl w1.heap.size w1).alloc (Nat.le_refl _) (.cells #[.int .i64 (fget s 0), .int .i64 (fget s 1), .int .i64 (fget s 2), .int .i64 (fget s 3), .int .i64 (fget s 4), .int .i64 (fget s 5), .int .i64 (fget s 6), .int .i64 (fget s 7), .int .i64 (fget s 8), .int .i64 (fget s 9), .int .i64 (fget s 10), .int .i64 (fget s 11)] 55)) (by omega)
              have hV3 : ∀ j, (w1.alloc (.cells #[.int .i64 (fget s 0), .int .i64 (fget s 1), .int .i64 (fget s 2), .int .i64 (fget s 3), .int .i64 (fget s 4), .int .i64 (fget s 5), .int .i64 (fget s 6), .int .i64 (fget s 7), .int .i64 (fget s 8), .int .i64 (fget s 9), .int .i64 (fget s 10), .int .i64 (fget s 11)] 55)).frozen? ⟨w.heap.size, j, none⟩ = false := fun j => (((Below.refl w1.heap.size w1).alloc (Nat.le_refl _) _).frozen (p := ⟨w.heap.size, j, none⟩) (by simp; omega)).trans (HZf j)
              have hV4 := hbw.alloc (by omega) (.cells #[.int .i64 (fget s 0), .int .i64 (fget s 1), .int .i64 (fget s 2), .int .i64 (fget s 3), .int .i64 (fget s 4), .int .i64 (fget s 5), .int .i64 (fget s 6), .int .i64 (fget s 7), .int .i64 (fget s 8), .int .i64 (fget s 9), .int .i64 (fget s 10), .int .i64 (fget s 11)] 55)
              clear hb1 HZ HZf hbw
              go_wp2_with fail
              generalize w1.alloc (.cells #[.int .i64 (fget s 0), .int .i64 (fget s 1), .int .i64 (fget s 2), .int .i64 (fget s 3), .int .i64 (fget s 4), .int .i64 (fget s 5), .int .i64 (fget s 6), .int .i64 (fget s 7), .int .i64 (fget s 8), .int .i64 (fget s 9), .int .i64 (fget s 10), .int .i64 (fget s 11)] 55) = V at *
              refine (size_any w1.heap.size (fget s) V hV1 (by omega) (by omega)).mono ?_
              rintro e w2 ⟨rfl, rfl⟩
              have h0 := unhide H0
              have c0 := hV1 0 (by decide)
              have r0 := hV2 0 (by decide)
              have c1 := hV1 1 (by decide)
              have r1 := hV2 1 (by decide)
              have c2 := hV1 2 (by decide)
              have r2 := hV2 2 (by decide)
              have c3 := hV1 3 (by decide)
              have r3 := hV2 3 (by decide)
              have c4 := hV1 4 (by decide)
              have r4 := hV2 4 (by decide)
              have c5 := hV1 5 (by decide)
              have r5 := hV2 5 (by decide)
              have c6 := hV1 6 (by decide)
              have r6 := hV2 6 (by decide)
              have c7 := hV1 7 (by decide)
              have r7 := hV2 7 (by decide)
              have c8 := hV1 8 (by decide)
              have r8 := hV2 8 (by decide)
              have c9 := hV1 9 (by decide)
              have r9 := hV2 9 (by decide)
              have c10 := hV1 10 (by decide)
              have r10 := hV2 10 (by decide)
              have c11 := hV1 11 (by decide)
              have r11 := hV2 11 (by decide)
              simp only [zeroF] at r0 r1 r2 r3 r4 r5 r6 r7 r8 r9 r10 r11
              have HV1 := hide hV1
              have HV2 := hide hV2
              have HV4 := hide hV4
              clear hV1 hV2 hV4
              go_wp2_with fail
              have hfx := set12_fix (zeroF) (unhide HV2)
              have hbz := set12_below (b := w.heap.size) (F := zeroF) (unhide HV4) (Nat.le_refl _)
              clear HV1 HV2 HV4 hV3 c0 r0 c1 r1 c2 r2 c3 r3 c4 r4 c5 r5 c6 r6 c7 r7 c8 r8 c9 r9 c10 r10 c11 r11
              have g0 := hfx 0 (by decide)
              have g1 := hfx 1 (by decide)
              have g2 := hfx 2 (by decide)
              have g3 := hfx 3 (by decide)
              have g4 := hfx 4 (by decide)
              have g5 := hfx 5 (by decide)
              have g6 := hfx 6 (by decide)
              have g7 := hfx 7 (by decide)
              have g8 := hfx 8 (by decide)
              have g9 := hfx 9 (by decide)
              have g10 := hfx 10 (by decide)
              have g11 := hfx 11 (by decide)
              clear hfx
              simp only [set12, zeroF] at hbz g0 g1 g2 g3 g4 g5 g6 g7 g8 g9 g10 g11
              rw [HR.out, HZ.out]
              refine bodyPost_ret (v := .tuple #[zeroFix, .int .i64 5]) ?_ rfl ⟨rfl, hbz⟩
              simp [results, Try.results32, go_sem, g0, g1, g2, g3, g4, g5, g6, g7, g8, g9, g10, g11]
            case neg =>
              have d4 : decide ((s.size : Int) < fget s 3) = false := by simpa using hd
              by_cases he : 1500 < fget s 3
              case pos =>
                have HR : Hid (measE s = 18) := by show _ = _; unfold measE; rw [if_neg h20, if_neg (not_not_intro h0), if_neg (by omega), if_neg (by omega), if_pos he]
                have HZ : Hid (measF s = zeroF) := by show _ = _; unfold measF; rw [HR.out, if_neg (by decide)]
                have d5 : decide (1500 < fget s 3) = true := by simpa using he
                have H0 := hide h0
                clear h0
                go_enter Try.func32, Try.ntmps32
                go_wp2_with fail
                refine (read_any s _ h20' hs).mono ?_
                rintro e w1 ⟨rfl, hb1⟩
                obtain ⟨HZ, HZf⟩ : FixAt w1 w.heap.size zeroF ∧ ∀ j, w1.frozen? ⟨w.heap.size, j, none⟩ = false := ⟨(fixAt_new w zeroF 55).on hb1 (by simp), fun j => (hb1.frozen (p := ⟨w.heap.size, j, none⟩) (by simp)).trans (by simp [go_sem])⟩
                have hbw : Below w.heap.size w w1 := ((Below.refl w.heap.size w).alloc (Nat.le_refl _) _).trans (hb1.mono (by simp))
                have hsw : w.heap.size + 1 ≤ w1.heap.size := by have := hb1.size; simp at this; omega
                have hV1 := fixAt_new w1 (fget s) 55
                have hV2 := HZ.on ((Below.refl w1.heap.size w1).alloc (Nat.le_refl _) (.cells #[.int .i64 (fget s 0), .int .i64 (fget s 1), .int .i64 (fget s 2), .int .i64 (fget s 3), .int .i64 (fget s 4), .int .i64 (fget s 5), .int .i64 (fget s 6), .int .i64 (fget s 7), .int .i64 (fget s 8), .int .i64 (fget s 9), .int .i64 (fget s 10), .int .i64 (fget s 11)] 55)) (by omega)
                have hV3 : ∀ j, (w1.alloc (.cells #[.int .i64 (fget s 0), .int .i64 (fget s 1), .int .i64 (fget s 2), .int .i64 (fget s 3), .int .i64 (fget s 4), .int .i64 (fget s 5), .int .i64 (fget s 6), .int .i64 (fget s 7), .int .i64 (fget s 8), .int .i64 (fget s 9), .int .i64 (fget s 10), .int .i64 (fget s 11)] 55)).frozen? ⟨w.heap.size, j, none⟩ = false := fun j => (((Below.refl w1.heap.size w1).alloc (Nat.le_refl _) _).frozen (p := ⟨w.heap.size, j, none⟩) (by simp; omega)).trans (HZf j)
                have hV4 := hbw.alloc (by omega) (.cells #[.int .i64 (fget s 0), .int .i64 (fget s 1), .int .i64 (fget s 2), .int .i64 (fget s 3), .int .i64 (fget s 4), .int .i64 (fget s 5), .int .i64 (fget s 6), .int .i64 (fget s 7), .int .i64 (fget s 8), .int .i64 (fget s 9), .int .i64 (fget s 10), .int .i64 (fget s 11)] 55)
                clear hb1 HZ HZf hbw
                go_wp2_with fail
                generalize w1.alloc (.cells #[.int .i64 (fget s 0), .int .i64 (fget s 1), .int .i64 (fget s 2), .int .i64 (fget s 3), .int .i64 (fget s 4), .int .i64 (fget s 5), .int .i64 (fget s 6), .int .i64 (fget s 7), .int .i64 (fget s 8), .int .i64 (fget s 9), .int .i64 (fget s 10), .int .i64 (fget s 11)] 55) = V at *
                refine (size_any w1.heap.size (fget s) V hV1 (by omega) (by omega)).mono ?_
                rintro e w2 ⟨rfl, rfl⟩
                have h0 := unhide H0
                have c0 := hV1 0 (by decide)
                have r0 := hV2 0 (by decide)
                have c1 := hV1 1 (by decide)
                have r1 := hV2 1 (by decide)
                have c2 := hV1 2 (by decide)
                have r2 := hV2 2 (by decide)
                have c3 := hV1 3 (by decide)
                have r3 := hV2 3 (by decide)
                have c4 := hV1 4 (by decide)
                have r4 := hV2 4 (by decide)
                have c5 := hV1 5 (by decide)
                have r5 := hV2 5 (by decide)
                have c6 := hV1 6 (by decide)
                have r6 := hV2 6 (by decide)
                have c7 := hV1 7 (by decide)
                have r7 := hV2 7 (by decide)
                have c8 := hV1 8 (by decide)
                have r8 := hV2 8 (by decide)
                have c9 := hV1 9 (by decide)
                have r9 := hV2 9 (by decide)
                have c10 := hV1 10 (by decide)
                have r10 := hV2 10 (by decide)
                have c11 := hV1 11 (by decide)
                have r11 := hV2 11 (by decide)
                simp only [zeroF] at r0 r1 r2 r3 r4 r5 r6 r7 r8 r9 r10 r11
                have HV1 := hide hV1
                have HV2 := hide hV2
                have HV4 := hide hV4
                clear hV1 hV2 hV4
                go_wp2_with fail
                have hfx := set12_fix (zeroF) (unhide HV2)
                have hbz := set12_below (b := w.heap.size) (F := zeroF) (unhide HV4) (Nat.le_refl _)
                clear HV1 HV2 HV4 hV3 c0 r0 c1 r1 c2 r2 c3 r3 c4 r4 c5 r5 c6 r6 c7 r7 c8 r8 c9 r9 c10 r10 c11 r11
                have g0 := hfx 0 (by decide)
                have g1 := hfx 1 (by decide)
                have g2 := hfx 2 (by decide)
                have g3 := hfx 3 (by decide)
                have g4 := hfx 4 (by decide)
                have g5 := hfx 5 (by decide)
                have g6 := hfx 6 (by decide)
                have g7 := hfx 7 (by decide)
                have g8 := hfx 8 (by decide)
                have g9 := hfx 9 (by decide)
                have g10 := hfx 10 (by decide)
                have g11 := hfx 11 (by decide)
                clear hfx
                simp only [set12, zeroF] at hbz g0 g1 g2 g3 g4 g5 g6 g7 g8 g9 g10 g11
                rw [HR.out, HZ.out]
                refine bodyPost_ret (v := .tuple #[zeroFix, .int .i64 18]) ?_ rfl ⟨rfl, hbz⟩
                simp [results, Try.results32, go_sem, g0, g1, g2, g3, g4, g5, g6, g7, g8, g9, g10, g11]
              case neg =>
                have HR : Hid (measE s = 0) := by show _ = _; unfold measE; rw [if_neg h20, if_neg (not_not_intro h0), if_neg (by omega), if_neg (by omega), if_neg he]
                have HZ : Hid (measF s = fget s) := by show _ = _; unfold measF; rw [HR.out, if_pos rfl]
                have d5 : decide (1500 < fget s 3) = false := by simpa using he
                have H0 := hide h0
                clear h0
                go_enter Try.func32, Try.ntmps32
                go_wp2_with fail
                refine (read_any s _ h20' hs).mono ?_
                rintro e w1 ⟨rfl, hb1⟩
                obtain ⟨HZ, HZf⟩ : FixAt w1 w.heap.size zeroF ∧ ∀ j, w1.frozen? ⟨w.heap.size, j, none⟩ = false := ⟨(fixAt_new w zeroF 55).on hb1 (by simp), fun j => (hb1.frozen (p := ⟨w.heap.size, j, none⟩) (by simp)).trans (by simp [go_sem])⟩
                have hbw : Below w.heap.size w w1 := ((Below.refl w.heap.size w).alloc (Nat.le_refl _) _).trans (hb1.mono (by simp))
                have hsw : w.heap.size + 1 ≤ w1.heap.size := by have := hb1.size; simp at this; omega
                have hV1 := fixAt_new w1 (fget s) 55
                have hV2 := HZ.on ((Below.refl w1.heap.size w1).alloc (Nat.le_refl _) (.cells #[.int .i64 (fget s 0), .int .i64 (fget s 1), .int .i64 (fget s 2), .int .i64 (fget s 3), .int .i64 (fget s 4), .int .i64 (fget s 5), .int .i64 (fget s 6), .int .i64 (fget s 7), .int .i64 (fget s 8), .int .i64 (fget s 9), .int .i64 (fget s 10), .int .i64 (fget s 11)] 55)) (by omega)
                have hV3 : ∀ j, (w1.alloc (.cells #[.int .i64 (fget s 0), .int .i64 (fget s 1), .int .i64 (fget s 2), .int .i64 (fget s 3), .int .i64 (fget s 4), .int .i64 (fget s 5), .int .i64 (fget s 6), .int .i64 (fget s 7), .int .i64 (fget s 8), .int .i64 (fget s 9), .int .i64 (fget s 10), .int .i64 (fget s 11)] 55)).frozen? ⟨w.heap.size, j, none⟩ = false := fun j => (((Below.refl w1.heap.size w1).alloc (Nat.le_refl _) _).frozen (p := ⟨w.heap.size, j, none⟩) (by simp; omega)).trans (HZf j)
                have hV4 := hbw.alloc (by omega) (.cells #[.int .i64 (fget s 0), .int .i64 (fget s 1), .int .i64 (fget s 2), .int .i64 (fget s 3), .int .i64 (fget s 4), .int .i64 (fget s 5), .int .i64 (fget s 6), .int .i64 (fget s 7), .int .i64 (fget s 8), .int .i64 (fget s 9), .int .i64 (fget s 10), .int .i64 (fget s 11)] 55)
                clear hb1 HZ HZf hbw
                go_wp2_with fail
                generalize w1.alloc (.cells #[.int .i64 (fget s 0), .int .i64 (fget s 1), .int .i64 (fget s 2), .int .i64 (fget s 3), .int .i64 (fget s 4), .int .i64 (fget s 5), .int .i64 (fget s 6), .int .i64 (fget s 7), .int .i64 (fget s 8), .int .i64 (fget s 9), .int .i64 (fget s 10), .int .i64 (fget s 11)] 55) = V at *
                refine (size_any w1.heap.size (fget s) V hV1 (by omega) (by omega)).mono ?_
                rintro e w2 ⟨rfl, rfl⟩
                have h0 := unhide H0
                have c0 := hV1 0 (by decide)
                have r0 := hV2 0 (by decide)
                have c1 := hV1 1 (by decide)
                have r1 := hV2 1 (by decide)
                have c2 := hV1 2 (by decide)
                have r2 := hV2 2 (by decide)
                have c3 := hV1 3 (by decide)
                have r3 := hV2 3 (by decide)
                have c4 := hV1 4 (by decide)
                have r4 := hV2 4 (by decide)
                have c5 := hV1 5 (by decide)
                have r5 := hV2 5 (by decide)
                have c6 := hV1 6 (by decide)
                have r6 := hV2 6 (by decide)
                have c7 := hV1 7 (by decide)
                have r7 := hV2 7 (by decide)
                have c8 := hV1 8 (by decide)
                have r8 := hV2 8 (by decide)
                have c9 := hV1 9 (by decide)
                have r9 := hV2 9 (by decide)
                have c10 := hV1 10 (by decide)
                have r10 := hV2 10 (by decide)
                have c11 := hV1 11 (by decide)
                have r11 := hV2 11 (by decide)
                simp only [zeroF] at r0 r1 r2 r3 r4 r5 r6 r7 r8 r9 r10 r11
                have HV1 := hide hV1
                have HV2 := hide hV2
                have HV4 := hide hV4
                clear hV1 hV2 hV4
                go_wp2_with fail
                have hfx := set12_fix (fget s) (unhide HV2)
                have hbz := set12_below (b := w.heap.size) (F := fget s) (unhide HV4) (Nat.le_refl _)
                clear HV1 HV2 HV4 hV3 c0 r0 c1 r1 c2 r2 c3 r3 c4 r4 c5 r5 c6 r6 c7 r7 c8 r8 c9 r9 c10 r10 c11 r11
                have g0 := hfx 0 (by decide)
                have g1 := hfx 1 (by decide)
                have g2 := hfx 2 (by decide)
                have g3 := hfx 3 (by decide)
                have g4 := hfx 4 (by decide)
                have g5 := hfx 5 (by decide)
                have g6 := hfx 6 (by decide)
                have g7 := hfx 7 (by decide)
                have g8 := hfx 8 (by decide)
                have g9 := hfx 9 (by decide)
                have g10 := hfx 10 (by decide)
                have g11 := hfx 11 (by decide)
                clear hfx
                simp only [set12, h0] at hbz g0 g1 g2 g3 g4 g5 g6 g7 g8 g9 g10 g11
                rw [HR.out, HZ.out]
                refine bodyPost_ret (v := .tuple #[fixVal (fget s), .int .i64 0]) ?_ rfl ⟨rfl, hbz⟩
                simp [results, Try.results32, go_sem, g0, g1, g2, g3, g4, g5, g6, g7, g8, g9, g10, g11, h0]
end Go.Proofs.Ytfppjpcolohmfaa
