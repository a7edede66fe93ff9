/- The law Ip4Limits returns true for every field and every size of a body. -/
import Derived.Test.YtfppjpcolohmfaaRows
import Derived.OpenShut
import Derived.ShutString
import Derived.ChangeOld
import Derived.Below
import Derived.SizedLaws
import Derived.Test.YtfppjpcolohmfaaIpLim
namespace Go.Proofs.Ytfppjpcolohmfaa.ip4Limits
open Go.ChangeShapes Go.WideShapes Go.ChangeAt Go.RowKit
open Go.ChangeMaps (open_string shut_string)
set_option linter.unusedVariables false
set_option maxHeartbeats 1000000 in
set_option maxRecDepth 100000 in
theorem walk (w : World) (a0 : Int) (a1 : Int) (w0 : (Lit.int .u8 a0).wf = true) (w1 : (Lit.int .u16 a1).wf = true) :
    Calls Try.prog 8 #[.int .u8 a0, .int .u16 a1] w fun e w' => e = .returned (.bool true) ∧ Below w.heap.size w w' := by
  obtain ⟨x0, x1⟩ := bounds_u8 w0
  obtain ⟨y0, y1⟩ := bounds_u16 w1
  obtain ⟨p1, p2, p3⟩ := parse_built0 maxB
  have hbe := buildE_of maxB
  have hbS := buildS_of maxB
  have hbz : (built maxH ⟨#[]⟩).size ≤ 281474976710656 := by rw [built_size]; decide
  go_enter Try.func8, Try.ntmps8
  go_wp2_with fail
  refine (examples_ok _).mono ?_
  rintro e w1 ⟨rfl, hb1⟩
  have HB1 := hide hb1
  clear hb1
  have hk0 := kept_new w1 maxH 24
  have hf0 := (newHd w1 maxH 24).free
  go_wp2_with fail
  refine (build_any maxH ⟨#[]⟩ _ maxW (by decide)).mono ?_
  rintro e w2 ⟨rfl, hb2⟩
  rw [hbe, hbS]
  have hk2 := hk0.on hb2
  have hf2 : ∀ j, w2.frozen? ⟨w1.heap.size, j, none⟩ = false := fun j => (hb2.frozen (p := ⟨w1.heap.size, j, none⟩) (by simp)).trans (hf0 j)
  clear hk0 hb2 hbe hbS hf0
  have HK := hide hk2
  have HF := hide hf2
  clear hk2 hf2
  go_wp2_with fail
  refine (parse_any _ _ hbz).mono ?_
  rintro e w3 ⟨rfl, hb3⟩
  rw [p1, p2, p3]
  unfold maxH
  have hk3 := (unhide HK).on hb3
  have hf3 : ∀ j, w3.frozen? ⟨w1.heap.size, j, none⟩ = false := fun j => (hb3.frozen (p := ⟨w1.heap.size, j, none⟩) (by have := (unhide HK).size; simp; omega)).trans ((unhide HF) j)
  have hsz3 := hk3.size
  have HB3 := hide hk3.below
  clear HK HF hb3 p1 p2 p3 hbz
  have hk4 := hk3.on (alloc_on w3 (.cells #[.int .i64 maxH.tos, .int .i64 maxH.id, .int .i64 maxH.flags, .int .i64 maxH.frag, .int .i64 maxH.ttl, .int .i64 maxH.proto, .int .u32 maxH.src, .int .u32 maxH.dst, .string maxH.opts] 24))
  have q0 := (hk4.at_) 0 (by decide)
  have q1 := (hk4.at_) 1 (by decide)
  have q2 := (hk4.at_) 2 (by decide)
  have q3 := (hk4.at_) 3 (by decide)
  have q4 := (hk4.at_) 4 (by decide)
  have q5 := (hk4.at_) 5 (by decide)
  have q6 := (hk4.at_) 6 (by decide)
  have q7 := (hk4.at_) 7 (by decide)
  have q8 := (hk4.at_) 8 (by decide)
  simp only [hcell, maxH] at q0 q1 q2 q3 q4 q5 q6 q7 q8
  have fr := fun j => (((alloc_on w3 (.cells #[.int .i64 maxH.tos, .int .i64 maxH.id, .int .i64 maxH.flags, .int .i64 maxH.frag, .int .i64 maxH.ttl, .int .i64 maxH.proto, .int .u32 maxH.src, .int .u32 maxH.dst, .string maxH.opts] 24)).frozen (p := ⟨w1.heap.size, j, none⟩) (by simp; omega)).trans (hf3 j))
  simp only [maxH] at fr
  have hk5 := hk4.on (alloc_on (w3.alloc (.cells #[.int .i64 maxH.tos, .int .i64 maxH.id, .int .i64 maxH.flags, .int .i64 maxH.frag, .int .i64 maxH.ttl, .int .i64 maxH.proto, .int .u32 maxH.src, .int .u32 maxH.dst, .string maxH.opts] 24)) (.cells #[.int .i64 maxH.tos, .int .i64 maxH.id, .int .i64 maxH.flags, .int .i64 maxH.frag, .int .i64 maxH.ttl, .int .i64 maxH.proto, .int .u32 maxH.src, .int .u32 maxH.dst, .string maxH.opts] 24))
  have r0 := (hk5.at_) 0 (by decide)
  have r1 := (hk5.at_) 1 (by decide)
  have r2 := (hk5.at_) 2 (by decide)
  have r3 := (hk5.at_) 3 (by decide)
  have r4 := (hk5.at_) 4 (by decide)
  have r5 := (hk5.at_) 5 (by decide)
  have r6 := (hk5.at_) 6 (by decide)
  have r7 := (hk5.at_) 7 (by decide)
  have r8 := (hk5.at_) 8 (by decide)
  simp only [hcell, maxH] at r0 r1 r2 r3 r4 r5 r6 r7 r8
  have fs := fun j => (((alloc_on (w3.alloc (.cells #[.int .i64 maxH.tos, .int .i64 maxH.id, .int .i64 maxH.flags, .int .i64 maxH.frag, .int .i64 maxH.ttl, .int .i64 maxH.proto, .int .u32 maxH.src, .int .u32 maxH.dst, .string maxH.opts] 24)) (.cells #[.int .i64 maxH.tos, .int .i64 maxH.id, .int .i64 maxH.flags, .int .i64 maxH.frag, .int .i64 maxH.ttl, .int .i64 maxH.proto, .int .u32 maxH.src, .int .u32 maxH.dst, .string maxH.opts] 24)).frozen (p := ⟨w1.heap.size, j, none⟩) (by simp; omega)).trans (((alloc_on w3 (.cells #[.int .i64 maxH.tos, .int .i64 maxH.id, .int .i64 maxH.flags, .int .i64 maxH.frag, .int .i64 maxH.ttl, .int .i64 maxH.proto, .int .u32 maxH.src, .int .u32 maxH.dst, .string maxH.opts] 24)).frozen (p := ⟨w1.heap.size, j, none⟩) (by simp; omega)).trans (hf3 j)))
  simp only [maxH] at fs
  have hc : a0 % 6 = 0 ∨ a0 % 6 = 1 ∨ a0 % 6 = 2 ∨ a0 % 6 = 3 ∨ a0 % 6 = 4 ∨ a0 % 6 = 5 := by omega
  rcases hc with hj | hj | hj | hj | hj | hj
  · have hlow : HdAt ((((w3.alloc (.cells #[.int .i64 255, .int .i64 65535, .int .i64 7, .int .i64 8191, .int .i64 255, .int .i64 255, .int .u32 4294967295, .int .u32 4294967295, .string ⟨#[]⟩] 24)).alloc (.cells #[.int .i64 255, .int .i64 65535, .int .i64 7, .int .i64 8191, .int .i64 255, .int .i64 255, .int .u32 4294967295, .int .u32 4294967295, .string ⟨#[]⟩] 24)).setCell ⟨w1.heap.size, 0, none⟩ (.int .i64 256)).setCell ⟨w3.heap.size + 1, 0, none⟩ (.int .i64 (-1))) (w3.heap.size + 1) (setF maxH (-1) 0) := setF_at (-1) 0 (by decide) (HdAt.set (by have := (newHd (w3.alloc (.cells #[.int .i64 maxH.tos, .int .i64 maxH.id, .int .i64 maxH.flags, .int .i64 maxH.frag, .int .i64 maxH.ttl, .int .i64 maxH.proto, .int .u32 maxH.src, .int .u32 maxH.dst, .string maxH.opts] 24)) maxH 24).at_; simpa [maxH] using this) (p := ⟨w1.heap.size, 0, none⟩) (by simp; omega) _)
    have hxx : HdAt ((((w3.alloc (.cells #[.int .i64 255, .int .i64 65535, .int .i64 7, .int .i64 8191, .int .i64 255, .int .i64 255, .int .u32 4294967295, .int .u32 4294967295, .string ⟨#[]⟩] 24)).alloc (.cells #[.int .i64 255, .int .i64 65535, .int .i64 7, .int .i64 8191, .int .i64 255, .int .i64 255, .int .u32 4294967295, .int .u32 4294967295, .string ⟨#[]⟩] 24)).setCell ⟨w1.heap.size, 0, none⟩ (.int .i64 256)).setCell ⟨w3.heap.size + 1, 0, none⟩ (.int .i64 (-1))) w3.heap.size maxH := HdAt.set (HdAt.set (((newHd w3 maxH 24).at_.on (B := w3.heap.size + 1) ((Below.refl _ _).alloc (by simp) (.cells #[.int .i64 255, .int .i64 65535, .int .i64 7, .int .i64 8191, .int .i64 255, .int .i64 255, .int .u32 4294967295, .int .u32 4294967295, .string ⟨#[]⟩] 24)) (by omega))) (p := ⟨w1.heap.size, 0, none⟩) (by simp; omega) _) (p := ⟨w3.heap.size + 1, 0, none⟩) (by simp) _
    have hbV : Below w1.heap.size w1 ((((w3.alloc (.cells #[.int .i64 255, .int .i64 65535, .int .i64 7, .int .i64 8191, .int .i64 255, .int .i64 255, .int .u32 4294967295, .int .u32 4294967295, .string ⟨#[]⟩] 24)).alloc (.cells #[.int .i64 255, .int .i64 65535, .int .i64 7, .int .i64 8191, .int .i64 255, .int .i64 255, .int .u32 4294967295, .int .u32 4294967295, .string ⟨#[]⟩] 24)).setCell ⟨w1.heap.size, 0, none⟩ (.int .i64 256)).setCell ⟨w3.heap.size + 1, 0, none⟩ (.int .i64 (-1))) := (((((unhide HB3).alloc (by omega) _).alloc (by simp; omega) _).setCell (p := ⟨w1.heap.size, 0, none⟩) (by simp) _).setCell (p := ⟨w3.heap.size + 1, 0, none⟩) (by simp; omega) _)
    have hVs : ((((w3.alloc (.cells #[.int .i64 255, .int .i64 65535, .int .i64 7, .int .i64 8191, .int .i64 255, .int .i64 255, .int .u32 4294967295, .int .u32 4294967295, .string ⟨#[]⟩] 24)).alloc (.cells #[.int .i64 255, .int .i64 65535, .int .i64 7, .int .i64 8191, .int .i64 255, .int .i64 255, .int .u32 4294967295, .int .u32 4294967295, .string ⟨#[]⟩] 24)).setCell ⟨w1.heap.size, 0, none⟩ (.int .i64 256)).setCell ⟨w3.heap.size + 1, 0, none⟩ (.int .i64 (-1))).heap.size = w3.heap.size + 2 := by simp [World.setCell]
    have HL := hide hlow
    have HX := hide hxx
    have HBV := hide hbV
    have HVS := hide hVs
    clear hlow hxx hbV hVs
    go_wp2_with fail
    refine (build_any ⟨256, 65535, 7, 8191, 255, 255, 4294967295, 4294967295, ⟨#[]⟩⟩ ⟨#[]⟩ _ ⟨by decide, by decide, by decide, by decide, by decide, by decide, by decide, by decide, by decide⟩ (by decide)).mono ?_
    rintro e w4 ⟨rfl, hb4⟩
    have e1 : buildE ⟨256, 65535, 7, 8191, 255, 255, 4294967295, 4294967295, ⟨#[]⟩⟩ ⟨#[]⟩ = 1 := by unfold buildE; rw [if_pos (by simp [rightB, inB])]
    rw [e1]
    have hl4 := (unhide HL).on hb4 (by have := unhide HVS; omega)
    have hx4 := (unhide HX).on hb4 (by have := unhide HVS; omega)
    have hb5 := (unhide HBV).trans (hb4.mono (by have := unhide HVS; omega))
    have hs4 : w3.heap.size + 2 ≤ w4.heap.size := by have := hb4.size; have := unhide HVS; omega
    clear HL HX HBV HVS hb4
    clear q0 q1 q2 q3 q4 q5 q6 q7 q8
    clear r0 r1 r2 r3 r4 r5 r6 r7 r8
    clear fr fs hj
    have q0 := (hl4) 0 (by decide)
    have q1 := (hl4) 1 (by decide)
    have q2 := (hl4) 2 (by decide)
    have q3 := (hl4) 3 (by decide)
    have q4 := (hl4) 4 (by decide)
    have q5 := (hl4) 5 (by decide)
    have q6 := (hl4) 6 (by decide)
    have q7 := (hl4) 7 (by decide)
    have q8 := (hl4) 8 (by decide)
    simp only [hcell, setF, maxH] at q0 q1 q2 q3 q4 q5 q6 q7 q8
    have HX := hide hx4
    have HBV := hide hb5
    clear hl4 hx4 hb5
    go_wp2_with fail
    refine (build_any ⟨(-1), 65535, 7, 8191, 255, 255, 4294967295, 4294967295, ⟨#[]⟩⟩ ⟨#[]⟩ _ ⟨by decide, by decide, by decide, by decide, by decide, by decide, by decide, by decide, by decide⟩ (by decide)).mono ?_
    rintro e w5 ⟨rfl, hb5⟩
    have e2 : buildE ⟨(-1), 65535, 7, 8191, 255, 255, 4294967295, 4294967295, ⟨#[]⟩⟩ ⟨#[]⟩ = 1 := by unfold buildE; rw [if_pos (by simp [rightB, inB])]
    rw [e2]
    have hx5 := (unhide HX).on hb5 (by omega)
    have hb6 := (unhide HBV).trans (hb5.mono (by omega))
    have hs5 : w3.heap.size + 2 ≤ w5.heap.size := by have := hb5.size; omega
    clear HX HBV hb5
    clear q0 q1 q2 q3 q4 q5 q6 q7 q8
    have HX := hide hx5
    have HBV := hide hb6
    clear hx5 hb6
    have hmk := make_run (a1 % 1600) (by omega) (by omega)
    have hcv := fun W => conv_zeros W (a1 % 1600).toNat
    go_wp2_with fail
    refine (build_any zeroHd (zeroS (a1 % 1600).toNat) _ zeroW (by rw [zeroS_size]; omega)).mono ?_
    rintro e w6 ⟨rfl, hb6⟩
    have hx6 := ((unhide HX).on (alloc_on w5 (.cells (madeCells #[.int .u8 0] (a1 % 1600).toNat) 5)) (by omega)).on hb6 (by simp; omega)
    have hb7 := ((unhide HBV).trans ((alloc_on w5 (.cells (madeCells #[.int .u8 0] (a1 % 1600).toNat) 5)).mono (by omega))).trans (hb6.mono (by simp; omega))
    have q1 := hx6 1 (by decide)
    have q3 := hx6 3 (by decide)
    simp only [hcell, maxH] at q1 q3
    have HBZ := hide ((unhide HB1).trans (hb7.mono (unhide HB1).size))
    have hz := buildE_zero (a1 % 1600).toNat
    clear hx6 hb7 hb6 HX HBV HB1 HB3 hmk hcv
    by_cases hn : a1 % 1600 ≤ 1480
    · have h1 : buildE zeroHd (zeroS (a1 % 1600).toNat) = 0 := of_decide_eq_true (hz.trans (decide_eq_true (by omega)))
      rw [h1]
      have hd : decide (a1 % 1600 ≤ 1480) = true := by simpa using hn
      clear hz h1
      go_wp2_with fail
      go_ret
      exact ⟨rfl, unhide HBZ⟩
    · have h1 : ¬ buildE zeroHd (zeroS (a1 % 1600).toNat) = 0 := of_decide_eq_false (hz.trans (decide_eq_false (by omega)))
      have hd : decide (a1 % 1600 ≤ 1480) = false := by simpa using hn
      generalize buildE zeroHd (zeroS (a1 % 1600).toNat) = E at *
      have hd2 : (E == 0) = false := by simpa using h1
      clear hz
      go_wp2_with fail
      go_ret
      exact ⟨rfl, unhide HBZ⟩
  · have hlow : HdAt ((((w3.alloc (.cells #[.int .i64 255, .int .i64 65535, .int .i64 7, .int .i64 8191, .int .i64 255, .int .i64 255, .int .u32 4294967295, .int .u32 4294967295, .string ⟨#[]⟩] 24)).alloc (.cells #[.int .i64 255, .int .i64 65535, .int .i64 7, .int .i64 8191, .int .i64 255, .int .i64 255, .int .u32 4294967295, .int .u32 4294967295, .string ⟨#[]⟩] 24)).setCell ⟨w1.heap.size, 1, none⟩ (.int .i64 65536)).setCell ⟨w3.heap.size + 1, 1, none⟩ (.int .i64 (-1))) (w3.heap.size + 1) (setF maxH (-1) 1) := setF_at (-1) 1 (by decide) (HdAt.set (by have := (newHd (w3.alloc (.cells #[.int .i64 maxH.tos, .int .i64 maxH.id, .int .i64 maxH.flags, .int .i64 maxH.frag, .int .i64 maxH.ttl, .int .i64 maxH.proto, .int .u32 maxH.src, .int .u32 maxH.dst, .string maxH.opts] 24)) maxH 24).at_; simpa [maxH] using this) (p := ⟨w1.heap.size, 1, none⟩) (by simp; omega) _)
    have hxx : HdAt ((((w3.alloc (.cells #[.int .i64 255, .int .i64 65535, .int .i64 7, .int .i64 8191, .int .i64 255, .int .i64 255, .int .u32 4294967295, .int .u32 4294967295, .string ⟨#[]⟩] 24)).alloc (.cells #[.int .i64 255, .int .i64 65535, .int .i64 7, .int .i64 8191, .int .i64 255, .int .i64 255, .int .u32 4294967295, .int .u32 4294967295, .string ⟨#[]⟩] 24)).setCell ⟨w1.heap.size, 1, none⟩ (.int .i64 65536)).setCell ⟨w3.heap.size + 1, 1, none⟩ (.int .i64 (-1))) w3.heap.size maxH := HdAt.set (HdAt.set (((newHd w3 maxH 24).at_.on (B := w3.heap.size + 1) ((Below.refl _ _).alloc (by simp) (.cells #[.int .i64 255, .int .i64 65535, .int .i64 7, .int .i64 8191, .int .i64 255, .int .i64 255, .int .u32 4294967295, .int .u32 4294967295, .string ⟨#[]⟩] 24)) (by omega))) (p := ⟨w1.heap.size, 1, none⟩) (by simp; omega) _) (p := ⟨w3.heap.size + 1, 1, none⟩) (by simp) _
    have hbV : Below w1.heap.size w1 ((((w3.alloc (.cells #[.int .i64 255, .int .i64 65535, .int .i64 7, .int .i64 8191, .int .i64 255, .int .i64 255, .int .u32 4294967295, .int .u32 4294967295, .string ⟨#[]⟩] 24)).alloc (.cells #[.int .i64 255, .int .i64 65535, .int .i64 7, .int .i64 8191, .int .i64 255, .int .i64 255, .int .u32 4294967295, .int .u32 4294967295, .string ⟨#[]⟩] 24)).setCell ⟨w1.heap.size, 1, none⟩ (.int .i64 65536)).setCell ⟨w3.heap.size + 1, 1, none⟩ (.int .i64 (-1))) := (((((unhide HB3).alloc (by omega) _).alloc (by simp; omega) _).setCell (p := ⟨w1.heap.size, 1, none⟩) (by simp) _).setCell (p := ⟨w3.heap.size + 1, 1, none⟩) (by simp; omega) _)
    have hVs : ((((w3.alloc (.cells #[.int .i64 255, .int .i64 65535, .int .i64 7, .int .i64 8191, .int .i64 255, .int .i64 255, .int .u32 4294967295, .int .u32 4294967295, .string ⟨#[]⟩] 24)).alloc (.cells #[.int .i64 255, .int .i64 65535, .int .i64 7, .int .i64 8191, .int .i64 255, .int .i64 255, .int .u32 4294967295, .int .u32 4294967295, .string ⟨#[]⟩] 24)).setCell ⟨w1.heap.size, 1, none⟩ (.int .i64 65536)).setCell ⟨w3.heap.size + 1, 1, none⟩ (.int .i64 (-1))).heap.size = w3.heap.size + 2 := by simp [World.setCell]
    have HL := hide hlow
    have HX := hide hxx
    have HBV := hide hbV
    have HVS := hide hVs
    clear hlow hxx hbV hVs
    go_wp2_with fail
    refine (build_any ⟨255, 65536, 7, 8191, 255, 255, 4294967295, 4294967295, ⟨#[]⟩⟩ ⟨#[]⟩ _ ⟨by decide, by decide, by decide, by decide, by decide, by decide, by decide, by decide, by decide⟩ (by decide)).mono ?_
    rintro e w4 ⟨rfl, hb4⟩
    have e1 : buildE ⟨255, 65536, 7, 8191, 255, 255, 4294967295, 4294967295, ⟨#[]⟩⟩ ⟨#[]⟩ = 1 := by unfold buildE; rw [if_pos (by simp [rightB, inB])]
    rw [e1]
    have hl4 := (unhide HL).on hb4 (by have := unhide HVS; omega)
    have hx4 := (unhide HX).on hb4 (by have := unhide HVS; omega)
    have hb5 := (unhide HBV).trans (hb4.mono (by have := unhide HVS; omega))
    have hs4 : w3.heap.size + 2 ≤ w4.heap.size := by have := hb4.size; have := unhide HVS; omega
    clear HL HX HBV HVS hb4
    clear q0 q1 q2 q3 q4 q5 q6 q7 q8
    clear r0 r1 r2 r3 r4 r5 r6 r7 r8
    clear fr fs hj
    have q0 := (hl4) 0 (by decide)
    have q1 := (hl4) 1 (by decide)
    have q2 := (hl4) 2 (by decide)
    have q3 := (hl4) 3 (by decide)
    have q4 := (hl4) 4 (by decide)
    have q5 := (hl4) 5 (by decide)
    have q6 := (hl4) 6 (by decide)
    have q7 := (hl4) 7 (by decide)
    have q8 := (hl4) 8 (by decide)
    simp only [hcell, setF, maxH] at q0 q1 q2 q3 q4 q5 q6 q7 q8
    have HX := hide hx4
    have HBV := hide hb5
    clear hl4 hx4 hb5
    go_wp2_with fail
    refine (build_any ⟨255, (-1), 7, 8191, 255, 255, 4294967295, 4294967295, ⟨#[]⟩⟩ ⟨#[]⟩ _ ⟨by decide, by decide, by decide, by decide, by decide, by decide, by decide, by decide, by decide⟩ (by decide)).mono ?_
    rintro e w5 ⟨rfl, hb5⟩
    have e2 : buildE ⟨255, (-1), 7, 8191, 255, 255, 4294967295, 4294967295, ⟨#[]⟩⟩ ⟨#[]⟩ = 1 := by unfold buildE; rw [if_pos (by simp [rightB, inB])]
    rw [e2]
    have hx5 := (unhide HX).on hb5 (by omega)
    have hb6 := (unhide HBV).trans (hb5.mono (by omega))
    have hs5 : w3.heap.size + 2 ≤ w5.heap.size := by have := hb5.size; omega
    clear HX HBV hb5
    clear q0 q1 q2 q3 q4 q5 q6 q7 q8
    have HX := hide hx5
    have HBV := hide hb6
    clear hx5 hb6
    have hmk := make_run (a1 % 1600) (by omega) (by omega)
    have hcv := fun W => conv_zeros W (a1 % 1600).toNat
    go_wp2_with fail
    refine (build_any zeroHd (zeroS (a1 % 1600).toNat) _ zeroW (by rw [zeroS_size]; omega)).mono ?_
    rintro e w6 ⟨rfl, hb6⟩
    have hx6 := ((unhide HX).on (alloc_on w5 (.cells (madeCells #[.int .u8 0] (a1 % 1600).toNat) 5)) (by omega)).on hb6 (by simp; omega)
    have hb7 := ((unhide HBV).trans ((alloc_on w5 (.cells (madeCells #[.int .u8 0] (a1 % 1600).toNat) 5)).mono (by omega))).trans (hb6.mono (by simp; omega))
    have q1 := hx6 1 (by decide)
    have q3 := hx6 3 (by decide)
    simp only [hcell, maxH] at q1 q3
    have HBZ := hide ((unhide HB1).trans (hb7.mono (unhide HB1).size))
    have hz := buildE_zero (a1 % 1600).toNat
    clear hx6 hb7 hb6 HX HBV HB1 HB3 hmk hcv
    by_cases hn : a1 % 1600 ≤ 1480
    · have h1 : buildE zeroHd (zeroS (a1 % 1600).toNat) = 0 := of_decide_eq_true (hz.trans (decide_eq_true (by omega)))
      rw [h1]
      have hd : decide (a1 % 1600 ≤ 1480) = true := by simpa using hn
      clear hz h1
      go_wp2_with fail
      go_ret
      exact ⟨rfl, unhide HBZ⟩
    · have h1 : ¬ buildE zeroHd (zeroS (a1 % 1600).toNat) = 0 := of_decide_eq_false (hz.trans (decide_eq_false (by omega)))
      have hd : decide (a1 % 1600 ≤ 1480) = false := by simpa using hn
      generalize buildE zeroHd (zeroS (a1 % 1600).toNat) = E at *
      have hd2 : (E == 0) = false := by simpa using h1
      clear hz
      go_wp2_with fail
      go_ret
      exact ⟨rfl, unhide HBZ⟩
  · have hlow : HdAt ((((w3.alloc (.cells #[.int .i64 255, .int .i64 65535, .int .i64 7, .int .i64 8191, .int .i64 255, .int .i64 255, .int .u32 4294967295, .int .u32 4294967295, .string ⟨#[]⟩] 24)).alloc (.cells #[.int .i64 255, .int .i64 65535, .int .i64 7, .int .i64 8191, .int .i64 255, .int .i64 255, .int .u32 4294967295, .int .u32 4294967295, .string ⟨#[]⟩] 24)).setCell ⟨w1.heap.size, 2, none⟩ (.int .i64 8)).setCell ⟨w3.heap.size + 1, 2, none⟩ (.int .i64 (-1))) (w3.heap.size + 1) (setF maxH (-1) 2) := setF_at (-1) 2 (by decide) (HdAt.set (by have := (newHd (w3.alloc (.cells #[.int .i64 maxH.tos, .int .i64 maxH.id, .int .i64 maxH.flags, .int .i64 maxH.frag, .int .i64 maxH.ttl, .int .i64 maxH.proto, .int .u32 maxH.src, .int .u32 maxH.dst, .string maxH.opts] 24)) maxH 24).at_; simpa [maxH] using this) (p := ⟨w1.heap.size, 2, none⟩) (by simp; omega) _)
    have hxx : HdAt ((((w3.alloc (.cells #[.int .i64 255, .int .i64 65535, .int .i64 7, .int .i64 8191, .int .i64 255, .int .i64 255, .int .u32 4294967295, .int .u32 4294967295, .string ⟨#[]⟩] 24)).alloc (.cells #[.int .i64 255, .int .i64 65535, .int .i64 7, .int .i64 8191, .int .i64 255, .int .i64 255, .int .u32 4294967295, .int .u32 4294967295, .string ⟨#[]⟩] 24)).setCell ⟨w1.heap.size, 2, none⟩ (.int .i64 8)).setCell ⟨w3.heap.size + 1, 2, none⟩ (.int .i64 (-1))) w3.heap.size maxH := HdAt.set (HdAt.set (((newHd w3 maxH 24).at_.on (B := w3.heap.size + 1) ((Below.refl _ _).alloc (by simp) (.cells #[.int .i64 255, .int .i64 65535, .int .i64 7, .int .i64 8191, .int .i64 255, .int .i64 255, .int .u32 4294967295, .int .u32 4294967295, .string ⟨#[]⟩] 24)) (by omega))) (p := ⟨w1.heap.size, 2, none⟩) (by simp; omega) _) (p := ⟨w3.heap.size + 1, 2, none⟩) (by simp) _
    have hbV : Below w1.heap.size w1 ((((w3.alloc (.cells #[.int .i64 255, .int .i64 65535, .int .i64 7, .int .i64 8191, .int .i64 255, .int .i64 255, .int .u32 4294967295, .int .u32 4294967295, .string ⟨#[]⟩] 24)).alloc (.cells #[.int .i64 255, .int .i64 65535, .int .i64 7, .int .i64 8191, .int .i64 255, .int .i64 255, .int .u32 4294967295, .int .u32 4294967295, .string ⟨#[]⟩] 24)).setCell ⟨w1.heap.size, 2, none⟩ (.int .i64 8)).setCell ⟨w3.heap.size + 1, 2, none⟩ (.int .i64 (-1))) := (((((unhide HB3).alloc (by omega) _).alloc (by simp; omega) _).setCell (p := ⟨w1.heap.size, 2, none⟩) (by simp) _).setCell (p := ⟨w3.heap.size + 1, 2, none⟩) (by simp; omega) _)
    have hVs : ((((w3.alloc (.cells #[.int .i64 255, .int .i64 65535, .int .i64 7, .int .i64 8191, .int .i64 255, .int .i64 255, .int .u32 4294967295, .int .u32 4294967295, .string ⟨#[]⟩] 24)).alloc (.cells #[.int .i64 255, .int .i64 65535, .int .i64 7, .int .i64 8191, .int .i64 255, .int .i64 255, .int .u32 4294967295, .int .u32 4294967295, .string ⟨#[]⟩] 24)).setCell ⟨w1.heap.size, 2, none⟩ (.int .i64 8)).setCell ⟨w3.heap.size + 1, 2, none⟩ (.int .i64 (-1))).heap.size = w3.heap.size + 2 := by simp [World.setCell]
    have HL := hide hlow
    have HX := hide hxx
    have HBV := hide hbV
    have HVS := hide hVs
    clear hlow hxx hbV hVs
    go_wp2_with fail
    refine (build_any ⟨255, 65535, 8, 8191, 255, 255, 4294967295, 4294967295, ⟨#[]⟩⟩ ⟨#[]⟩ _ ⟨by decide, by decide, by decide, by decide, by decide, by decide, by decide, by decide, by decide⟩ (by decide)).mono ?_
    rintro e w4 ⟨rfl, hb4⟩
    have e1 : buildE ⟨255, 65535, 8, 8191, 255, 255, 4294967295, 4294967295, ⟨#[]⟩⟩ ⟨#[]⟩ = 1 := by unfold buildE; rw [if_pos (by simp [rightB, inB])]
    rw [e1]
    have hl4 := (unhide HL).on hb4 (by have := unhide HVS; omega)
    have hx4 := (unhide HX).on hb4 (by have := unhide HVS; omega)
    have hb5 := (unhide HBV).trans (hb4.mono (by have := unhide HVS; omega))
    have hs4 : w3.heap.size + 2 ≤ w4.heap.size := by have := hb4.size; have := unhide HVS; omega
    clear HL HX HBV HVS hb4
    clear q0 q1 q2 q3 q4 q5 q6 q7 q8
    clear r0 r1 r2 r3 r4 r5 r6 r7 r8
    clear fr fs hj
    have q0 := (hl4) 0 (by decide)
    have q1 := (hl4) 1 (by decide)
    have q2 := (hl4) 2 (by decide)
    have q3 := (hl4) 3 (by decide)
    have q4 := (hl4) 4 (by decide)
    have q5 := (hl4) 5 (by decide)
    have q6 := (hl4) 6 (by decide)
    have q7 := (hl4) 7 (by decide)
    have q8 := (hl4) 8 (by decide)
    simp only [hcell, setF, maxH] at q0 q1 q2 q3 q4 q5 q6 q7 q8
    have HX := hide hx4
    have HBV := hide hb5
    clear hl4 hx4 hb5
    go_wp2_with fail
    refine (build_any ⟨255, 65535, (-1), 8191, 255, 255, 4294967295, 4294967295, ⟨#[]⟩⟩ ⟨#[]⟩ _ ⟨by decide, by decide, by decide, by decide, by decide, by decide, by decide, by decide, by decide⟩ (by decide)).mono ?_
    rintro e w5 ⟨rfl, hb5⟩
    have e2 : buildE ⟨255, 65535, (-1), 8191, 255, 255, 4294967295, 4294967295, ⟨#[]⟩⟩ ⟨#[]⟩ = 1 := by unfold buildE; rw [if_pos (by simp [rightB, inB])]
    rw [e2]
    have hx5 := (unhide HX).on hb5 (by omega)
    have hb6 := (unhide HBV).trans (hb5.mono (by omega))
    have hs5 : w3.heap.size + 2 ≤ w5.heap.size := by have := hb5.size; omega
    clear HX HBV hb5
    clear q0 q1 q2 q3 q4 q5 q6 q7 q8
    have HX := hide hx5
    have HBV := hide hb6
    clear hx5 hb6
    have hmk := make_run (a1 % 1600) (by omega) (by omega)
    have hcv := fun W => conv_zeros W (a1 % 1600).toNat
    go_wp2_with fail
    refine (build_any zeroHd (zeroS (a1 % 1600).toNat) _ zeroW (by rw [zeroS_size]; omega)).mono ?_
    rintro e w6 ⟨rfl, hb6⟩
    have hx6 := ((unhide HX).on (alloc_on w5 (.cells (madeCells #[.int .u8 0] (a1 % 1600).toNat) 5)) (by omega)).on hb6 (by simp; omega)
    have hb7 := ((unhide HBV).trans ((alloc_on w5 (.cells (madeCells #[.int .u8 0] (a1 % 1600).toNat) 5)).mono (by omega))).trans (hb6.mono (by simp; omega))
    have q1 := hx6 1 (by decide)
    have q3 := hx6 3 (by decide)
    simp only [hcell, maxH] at q1 q3
    have HBZ := hide ((unhide HB1).trans (hb7.mono (unhide HB1).size))
    have hz := buildE_zero (a1 % 1600).toNat
    clear hx6 hb7 hb6 HX HBV HB1 HB3 hmk hcv
    by_cases hn : a1 % 1600 ≤ 1480
    · have h1 : buildE zeroHd (zeroS (a1 % 1600).toNat) = 0 := of_decide_eq_true (hz.trans (decide_eq_true (by omega)))
      rw [h1]
      have hd : decide (a1 % 1600 ≤ 1480) = true := by simpa using hn
      clear hz h1
      go_wp2_with fail
      go_ret
      exact ⟨rfl, unhide HBZ⟩
    · have h1 : ¬ buildE zeroHd (zeroS (a1 % 1600).toNat) = 0 := of_decide_eq_false (hz.trans (decide_eq_false (by omega)))
      have hd : decide (a1 % 1600 ≤ 1480) = false := by simpa using hn
      generalize buildE zeroHd (zeroS (a1 % 1600).toNat) = E at *
      have hd2 : (E == 0) = false := by simpa using h1
      clear hz
      go_wp2_with fail
      go_ret
      exact ⟨rfl, unhide HBZ⟩
  · have hlow : HdAt ((((w3.alloc (.cells #[.int .i64 255, .int .i64 65535, .int .i64 7, .int .i64 8191, .int .i64 255, .int .i64 255, .int .u32 4294967295, .int .u32 4294967295, .string ⟨#[]⟩] 24)).alloc (.cells #[.int .i64 255, .int .i64 65535, .int .i64 7, .int .i64 8191, .int .i64 255, .int .i64 255, .int .u32 4294967295, .int .u32 4294967295, .string ⟨#[]⟩] 24)).setCell ⟨w1.heap.size, 3, none⟩ (.int .i64 8192)).setCell ⟨w3.heap.size + 1, 3, none⟩ (.int .i64 (-1))) (w3.heap.size + 1) (setF maxH (-1) 3) := setF_at (-1) 3 (by decide) (HdAt.set (by have := (newHd (w3.alloc (.cells #[.int .i64 maxH.tos, .int .i64 maxH.id, .int .i64 maxH.flags, .int .i64 maxH.frag, .int .i64 maxH.ttl, .int .i64 maxH.proto, .int .u32 maxH.src, .int .u32 maxH.dst, .string maxH.opts] 24)) maxH 24).at_; simpa [maxH] using this) (p := ⟨w1.heap.size, 3, none⟩) (by simp; omega) _)
    have hxx : HdAt ((((w3.alloc (.cells #[.int .i64 255, .int .i64 65535, .int .i64 7, .int .i64 8191, .int .i64 255, .int .i64 255, .int .u32 4294967295, .int .u32 4294967295, .string ⟨#[]⟩] 24)).alloc (.cells #[.int .i64 255, .int .i64 65535, .int .i64 7, .int .i64 8191, .int .i64 255, .int .i64 255, .int .u32 4294967295, .int .u32 4294967295, .string ⟨#[]⟩] 24)).setCell ⟨w1.heap.size, 3, none⟩ (.int .i64 8192)).setCell ⟨w3.heap.size + 1, 3, none⟩ (.int .i64 (-1))) w3.heap.size maxH := HdAt.set (HdAt.set (((newHd w3 maxH 24).at_.on (B := w3.heap.size + 1) ((Below.refl _ _).alloc (by simp) (.cells #[.int .i64 255, .int .i64 65535, .int .i64 7, .int .i64 8191, .int .i64 255, .int .i64 255, .int .u32 4294967295, .int .u32 4294967295, .string ⟨#[]⟩] 24)) (by omega))) (p := ⟨w1.heap.size, 3, none⟩) (by simp; omega) _) (p := ⟨w3.heap.size + 1, 3, none⟩) (by simp) _
    have hbV : Below w1.heap.size w1 ((((w3.alloc (.cells #[.int .i64 255, .int .i64 65535, .int .i64 7, .int .i64 8191, .int .i64 255, .int .i64 255, .int .u32 4294967295, .int .u32 4294967295, .string ⟨#[]⟩] 24)).alloc (.cells #[.int .i64 255, .int .i64 65535, .int .i64 7, .int .i64 8191, .int .i64 255, .int .i64 255, .int .u32 4294967295, .int .u32 4294967295, .string ⟨#[]⟩] 24)).setCell ⟨w1.heap.size, 3, none⟩ (.int .i64 8192)).setCell ⟨w3.heap.size + 1, 3, none⟩ (.int .i64 (-1))) := (((((unhide HB3).alloc (by omega) _).alloc (by simp; omega) _).setCell (p := ⟨w1.heap.size, 3, none⟩) (by simp) _).setCell (p := ⟨w3.heap.size + 1, 3, none⟩) (by simp; omega) _)
    have hVs : ((((w3.alloc (.cells #[.int .i64 255, .int .i64 65535, .int .i64 7, .int .i64 8191, .int .i64 255, .int .i64 255, .int .u32 4294967295, .int .u32 4294967295, .string ⟨#[]⟩] 24)).alloc (.cells #[.int .i64 255, .int .i64 65535, .int .i64 7, .int .i64 8191, .int .i64 255, .int .i64 255, .int .u32 4294967295, .int .u32 4294967295, .string ⟨#[]⟩] 24)).setCell ⟨w1.heap.size, 3, none⟩ (.int .i64 8192)).setCell ⟨w3.heap.size + 1, 3, none⟩ (.int .i64 (-1))).heap.size = w3.heap.size + 2 := by simp [World.setCell]
    have HL := hide hlow
    have HX := hide hxx
    have HBV := hide hbV
    have HVS := hide hVs
    clear hlow hxx hbV hVs
    go_wp2_with fail
    refine (build_any ⟨255, 65535, 7, 8192, 255, 255, 4294967295, 4294967295, ⟨#[]⟩⟩ ⟨#[]⟩ _ ⟨by decide, by decide, by decide, by decide, by decide, by decide, by decide, by decide, by decide⟩ (by decide)).mono ?_
    rintro e w4 ⟨rfl, hb4⟩
    have e1 : buildE ⟨255, 65535, 7, 8192, 255, 255, 4294967295, 4294967295, ⟨#[]⟩⟩ ⟨#[]⟩ = 1 := by unfold buildE; rw [if_pos (by simp [rightB, inB])]
    rw [e1]
    have hl4 := (unhide HL).on hb4 (by have := unhide HVS; omega)
    have hx4 := (unhide HX).on hb4 (by have := unhide HVS; omega)
    have hb5 := (unhide HBV).trans (hb4.mono (by have := unhide HVS; omega))
    have hs4 : w3.heap.size + 2 ≤ w4.heap.size := by have := hb4.size; have := unhide HVS; omega
    clear HL HX HBV HVS hb4
    clear q0 q1 q2 q3 q4 q5 q6 q7 q8
    clear r0 r1 r2 r3 r4 r5 r6 r7 r8
    clear fr fs hj
    have q0 := (hl4) 0 (by decide)
    have q1 := (hl4) 1 (by decide)
    have q2 := (hl4) 2 (by decide)
    have q3 := (hl4) 3 (by decide)
    have q4 := (hl4) 4 (by decide)
    have q5 := (hl4) 5 (by decide)
    have q6 := (hl4) 6 (by decide)
    have q7 := (hl4) 7 (by decide)
    have q8 := (hl4) 8 (by decide)
    simp only [hcell, setF, maxH] at q0 q1 q2 q3 q4 q5 q6 q7 q8
    have HX := hide hx4
    have HBV := hide hb5
    clear hl4 hx4 hb5
    go_wp2_with fail
    refine (build_any ⟨255, 65535, 7, (-1), 255, 255, 4294967295, 4294967295, ⟨#[]⟩⟩ ⟨#[]⟩ _ ⟨by decide, by decide, by decide, by decide, by decide, by decide, by decide, by decide, by decide⟩ (by decide)).mono ?_
    rintro e w5 ⟨rfl, hb5⟩
    have e2 : buildE ⟨255, 65535, 7, (-1), 255, 255, 4294967295, 4294967295, ⟨#[]⟩⟩ ⟨#[]⟩ = 1 := by unfold buildE; rw [if_pos (by simp [rightB, inB])]
    rw [e2]
    have hx5 := (unhide HX).on hb5 (by omega)
    have hb6 := (unhide HBV).trans (hb5.mono (by omega))
    have hs5 : w3.heap.size + 2 ≤ w5.heap.size := by have := hb5.size; omega
    clear HX HBV hb5
    clear q0 q1 q2 q3 q4 q5 q6 q7 q8
    have HX := hide hx5
    have HBV := hide hb6
    clear hx5 hb6
    have hmk := make_run (a1 % 1600) (by omega) (by omega)
    have hcv := fun W => conv_zeros W (a1 % 1600).toNat
    go_wp2_with fail
    refine (build_any zeroHd (zeroS (a1 % 1600).toNat) _ zeroW (by rw [zeroS_size]; omega)).mono ?_
    rintro e w6 ⟨rfl, hb6⟩
    have hx6 := ((unhide HX).on (alloc_on w5 (.cells (madeCells #[.int .u8 0] (a1 % 1600).toNat) 5)) (by omega)).on hb6 (by simp; omega)
    have hb7 := ((unhide HBV).trans ((alloc_on w5 (.cells (madeCells #[.int .u8 0] (a1 % 1600).toNat) 5)).mono (by omega))).trans (hb6.mono (by simp; omega))
    have q1 := hx6 1 (by decide)
    have q3 := hx6 3 (by decide)
    simp only [hcell, maxH] at q1 q3
    have HBZ := hide ((unhide HB1).trans (hb7.mono (unhide HB1).size))
    have hz := buildE_zero (a1 % 1600).toNat
    clear hx6 hb7 hb6 HX HBV HB1 HB3 hmk hcv
    by_cases hn : a1 % 1600 ≤ 1480
    · have h1 : buildE zeroHd (zeroS (a1 % 1600).toNat) = 0 := of_decide_eq_true (hz.trans (decide_eq_true (by omega)))
      rw [h1]
      have hd : decide (a1 % 1600 ≤ 1480) = true := by simpa using hn
      clear hz h1
      go_wp2_with fail
      go_ret
      exact ⟨rfl, unhide HBZ⟩
    · have h1 : ¬ buildE zeroHd (zeroS (a1 % 1600).toNat) = 0 := of_decide_eq_false (hz.trans (decide_eq_false (by omega)))
      have hd : decide (a1 % 1600 ≤ 1480) = false := by simpa using hn
      generalize buildE zeroHd (zeroS (a1 % 1600).toNat) = E at *
      have hd2 : (E == 0) = false := by simpa using h1
      clear hz
      go_wp2_with fail
      go_ret
      exact ⟨rfl, unhide HBZ⟩
  · have hlow : HdAt ((((w3.alloc (.cells #[.int .i64 255, .int .i64 65535, .int .i64 7, .int .i64 8191, .int .i64 255, .int .i64 255, .int .u32 4294967295, .int .u32 4294967295, .string ⟨#[]⟩] 24)).alloc (.cells #[.int .i64 255, .int .i64 65535, .int .i64 7, .int .i64 8191, .int .i64 255, .int .i64 255, .int .u32 4294967295, .int .u32 4294967295, .string ⟨#[]⟩] 24)).setCell ⟨w1.heap.size, 4, none⟩ (.int .i64 256)).setCell ⟨w3.heap.size + 1, 4, none⟩ (.int .i64 (-1))) (w3.heap.size + 1) (setF maxH (-1) 4) := setF_at (-1) 4 (by decide) (HdAt.set (by have := (newHd (w3.alloc (.cells #[.int .i64 maxH.tos, .int .i64 maxH.id, .int .i64 maxH.flags, .int .i64 maxH.frag, .int .i64 maxH.ttl, .int .i64 maxH.proto, .int .u32 maxH.src, .int .u32 maxH.dst, .string maxH.opts] 24)) maxH 24).at_; simpa [maxH] using this) (p := ⟨w1.heap.size, 4, none⟩) (by simp; omega) _)
    have hxx : HdAt ((((w3.alloc (.cells #[.int .i64 255, .int .i64 65535, .int .i64 7, .int .i64 8191, .int .i64 255, .int .i64 255, .int .u32 4294967295, .int .u32 4294967295, .string ⟨#[]⟩] 24)).alloc (.cells #[.int .i64 255, .int .i64 65535, .int .i64 7, .int .i64 8191, .int .i64 255, .int .i64 255, .int .u32 4294967295, .int .u32 4294967295, .string ⟨#[]⟩] 24)).setCell ⟨w1.heap.size, 4, none⟩ (.int .i64 256)).setCell ⟨w3.heap.size + 1, 4, none⟩ (.int .i64 (-1))) w3.heap.size maxH := HdAt.set (HdAt.set (((newHd w3 maxH 24).at_.on (B := w3.heap.size + 1) ((Below.refl _ _).alloc (by simp) (.cells #[.int .i64 255, .int .i64 65535, .int .i64 7, .int .i64 8191, .int .i64 255, .int .i64 255, .int .u32 4294967295, .int .u32 4294967295, .string ⟨#[]⟩] 24)) (by omega))) (p := ⟨w1.heap.size, 4, none⟩) (by simp; omega) _) (p := ⟨w3.heap.size + 1, 4, none⟩) (by simp) _
    have hbV : Below w1.heap.size w1 ((((w3.alloc (.cells #[.int .i64 255, .int .i64 65535, .int .i64 7, .int .i64 8191, .int .i64 255, .int .i64 255, .int .u32 4294967295, .int .u32 4294967295, .string ⟨#[]⟩] 24)).alloc (.cells #[.int .i64 255, .int .i64 65535, .int .i64 7, .int .i64 8191, .int .i64 255, .int .i64 255, .int .u32 4294967295, .int .u32 4294967295, .string ⟨#[]⟩] 24)).setCell ⟨w1.heap.size, 4, none⟩ (.int .i64 256)).setCell ⟨w3.heap.size + 1, 4, none⟩ (.int .i64 (-1))) := (((((unhide HB3).alloc (by omega) _).alloc (by simp; omega) _).setCell (p := ⟨w1.heap.size, 4, none⟩) (by simp) _).setCell (p := ⟨w3.heap.size + 1, 4, none⟩) (by simp; omega) _)
    have hVs : ((((w3.alloc (.cells #[.int .i64 255, .int .i64 65535, .int .i64 7, .int .i64 8191, .int .i64 255, .int .i64 255, .int .u32 4294967295, .int .u32 4294967295, .string ⟨#[]⟩] 24)).alloc (.cells #[.int .i64 255, .int .i64 65535, .int .i64 7, .int .i64 8191, .int .i64 255, .int .i64 255, .int .u32 4294967295, .int .u32 4294967295, .string ⟨#[]⟩] 24)).setCell ⟨w1.heap.size, 4, none⟩ (.int .i64 256)).setCell ⟨w3.heap.size + 1, 4, none⟩ (.int .i64 (-1))).heap.size = w3.heap.size + 2 := by simp [World.setCell]
    have HL := hide hlow
    have HX := hide hxx
    have HBV := hide hbV
    have HVS := hide hVs
    clear hlow hxx hbV hVs
    go_wp2_with fail
    refine (build_any ⟨255, 65535, 7, 8191, 256, 255, 4294967295, 4294967295, ⟨#[]⟩⟩ ⟨#[]⟩ _ ⟨by decide, by decide, by decide, by decide, by decide, by decide, by decide, by decide, by decide⟩ (by decide)).mono ?_
    rintro e w4 ⟨rfl, hb4⟩
    have e1 : buildE ⟨255, 65535, 7, 8191, 256, 255, 4294967295, 4294967295, ⟨#[]⟩⟩ ⟨#[]⟩ = 1 := by unfold buildE; rw [if_pos (by simp [rightB, inB])]
    rw [e1]
    have hl4 := (unhide HL).on hb4 (by have := unhide HVS; omega)
    have hx4 := (unhide HX).on hb4 (by have := unhide HVS; omega)
    have hb5 := (unhide HBV).trans (hb4.mono (by have := unhide HVS; omega))
    have hs4 : w3.heap.size + 2 ≤ w4.heap.size := by have := hb4.size; have := unhide HVS; omega
    clear HL HX HBV HVS hb4
    clear q0 q1 q2 q3 q4 q5 q6 q7 q8
    clear r0 r1 r2 r3 r4 r5 r6 r7 r8
    clear fr fs hj
    have q0 := (hl4) 0 (by decide)
    have q1 := (hl4) 1 (by decide)
    have q2 := (hl4) 2 (by decide)
    have q3 := (hl4) 3 (by decide)
    have q4 := (hl4) 4 (by decide)
    have q5 := (hl4) 5 (by decide)
    have q6 := (hl4) 6 (by decide)
    have q7 := (hl4) 7 (by decide)
    have q8 := (hl4) 8 (by decide)
    simp only [hcell, setF, maxH] at q0 q1 q2 q3 q4 q5 q6 q7 q8
    have HX := hide hx4
    have HBV := hide hb5
    clear hl4 hx4 hb5
    go_wp2_with fail
    refine (build_any ⟨255, 65535, 7, 8191, (-1), 255, 4294967295, 4294967295, ⟨#[]⟩⟩ ⟨#[]⟩ _ ⟨by decide, by decide, by decide, by decide, by decide, by decide, by decide, by decide, by decide⟩ (by decide)).mono ?_
    rintro e w5 ⟨rfl, hb5⟩
    have e2 : buildE ⟨255, 65535, 7, 8191, (-1), 255, 4294967295, 4294967295, ⟨#[]⟩⟩ ⟨#[]⟩ = 1 := by unfold buildE; rw [if_pos (by simp [rightB, inB])]
    rw [e2]
    have hx5 := (unhide HX).on hb5 (by omega)
    have hb6 := (unhide HBV).trans (hb5.mono (by omega))
    have hs5 : w3.heap.size + 2 ≤ w5.heap.size := by have := hb5.size; omega
    clear HX HBV hb5
    clear q0 q1 q2 q3 q4 q5 q6 q7 q8
    have HX := hide hx5
    have HBV := hide hb6
    clear hx5 hb6
    have hmk := make_run (a1 % 1600) (by omega) (by omega)
    have hcv := fun W => conv_zeros W (a1 % 1600).toNat
    go_wp2_with fail
    refine (build_any zeroHd (zeroS (a1 % 1600).toNat) _ zeroW (by rw [zeroS_size]; omega)).mono ?_
    rintro e w6 ⟨rfl, hb6⟩
    have hx6 := ((unhide HX).on (alloc_on w5 (.cells (madeCells #[.int .u8 0] (a1 % 1600).toNat) 5)) (by omega)).on hb6 (by simp; omega)
    have hb7 := ((unhide HBV).trans ((alloc_on w5 (.cells (madeCells #[.int .u8 0] (a1 % 1600).toNat) 5)).mono (by omega))).trans (hb6.mono (by simp; omega))
    have q1 := hx6 1 (by decide)
    have q3 := hx6 3 (by decide)
    simp only [hcell, maxH] at q1 q3
    have HBZ := hide ((unhide HB1).trans (hb7.mono (unhide HB1).size))
    have hz := buildE_zero (a1 % 1600).toNat
    clear hx6 hb7 hb6 HX HBV HB1 HB3 hmk hcv
    by_cases hn : a1 % 1600 ≤ 1480
    · have h1 : buildE zeroHd (zeroS (a1 % 1600).toNat) = 0 := of_decide_eq_true (hz.trans (decide_eq_true (by omega)))
      rw [h1]
      have hd : decide (a1 % 1600 ≤ 1480) = true := by simpa using hn
      clear hz h1
      go_wp2_with fail
      go_ret
      exact ⟨rfl, unhide HBZ⟩
    · have h1 : ¬ buildE zeroHd (zeroS (a1 % 1600).toNat) = 0 := of_decide_eq_false (hz.trans (decide_eq_false (by omega)))
      have hd : decide (a1 % 1600 ≤ 1480) = false := by simpa using hn
      generalize buildE zeroHd (zeroS (a1 % 1600).toNat) = E at *
      have hd2 : (E == 0) = false := by simpa using h1
      clear hz
      go_wp2_with fail
      go_ret
      exact ⟨rfl, unhide HBZ⟩
  · have hlow : HdAt ((((w3.alloc (.cells #[.int .i64 255, .int .i64 65535, .int .i64 7, .int .i64 8191, .int .i64 255, .int .i64 255, .int .u32 4294967295, .int .u32 4294967295, .string ⟨#[]⟩] 24)).alloc (.cells #[.int .i64 255, .int .i64 65535, .int .i64 7, .int .i64 8191, .int .i64 255, .int .i64 255, .int .u32 4294967295, .int .u32 4294967295, .string ⟨#[]⟩] 24)).setCell ⟨w1.heap.size, 5, none⟩ (.int .i64 256)).setCell ⟨w3.heap.size + 1, 5, none⟩ (.int .i64 (-1))) (w3.heap.size + 1) (setF maxH (-1) 5) := setF_at (-1) 5 (by decide) (HdAt.set (by have := (newHd (w3.alloc (.cells #[.int .i64 maxH.tos, .int .i64 maxH.id, .int .i64 maxH.flags, .int .i64 maxH.frag, .int .i64 maxH.ttl, .int .i64 maxH.proto, .int .u32 maxH.src, .int .u32 maxH.dst, .string maxH.opts] 24)) maxH 24).at_; simpa [maxH] using this) (p := ⟨w1.heap.size, 5, none⟩) (by simp; omega) _)
    have hxx : HdAt ((((w3.alloc (.cells #[.int .i64 255, .int .i64 65535, .int .i64 7, .int .i64 8191, .int .i64 255, .int .i64 255, .int .u32 4294967295, .int .u32 4294967295, .string ⟨#[]⟩] 24)).alloc (.cells #[.int .i64 255, .int .i64 65535, .int .i64 7, .int .i64 8191, .int .i64 255, .int .i64 255, .int .u32 4294967295, .int .u32 4294967295, .string ⟨#[]⟩] 24)).setCell ⟨w1.heap.size, 5, none⟩ (.int .i64 256)).setCell ⟨w3.heap.size + 1, 5, none⟩ (.int .i64 (-1))) w3.heap.size maxH := HdAt.set (HdAt.set (((newHd w3 maxH 24).at_.on (B := w3.heap.size + 1) ((Below.refl _ _).alloc (by simp) (.cells #[.int .i64 255, .int .i64 65535, .int .i64 7, .int .i64 8191, .int .i64 255, .int .i64 255, .int .u32 4294967295, .int .u32 4294967295, .string ⟨#[]⟩] 24)) (by omega))) (p := ⟨w1.heap.size, 5, none⟩) (by simp; omega) _) (p := ⟨w3.heap.size + 1, 5, none⟩) (by simp) _
    have hbV : Below w1.heap.size w1 ((((w3.alloc (.cells #[.int .i64 255, .int .i64 65535, .int .i64 7, .int .i64 8191, .int .i64 255, .int .i64 255, .int .u32 4294967295, .int .u32 4294967295, .string ⟨#[]⟩] 24)).alloc (.cells #[.int .i64 255, .int .i64 65535, .int .i64 7, .int .i64 8191, .int .i64 255, .int .i64 255, .int .u32 4294967295, .int .u32 4294967295, .string ⟨#[]⟩] 24)).setCell ⟨w1.heap.size, 5, none⟩ (.int .i64 256)).setCell ⟨w3.heap.size + 1, 5, none⟩ (.int .i64 (-1))) := (((((unhide HB3).alloc (by omega) _).alloc (by simp; omega) _).setCell (p := ⟨w1.heap.size, 5, none⟩) (by simp) _).setCell (p := ⟨w3.heap.size + 1, 5, none⟩) (by simp; omega) _)
    have hVs : ((((w3.alloc (.cells #[.int .i64 255, .int .i64 65535, .int .i64 7, .int .i64 8191, .int .i64 255, .int .i64 255, .int .u32 4294967295, .int .u32 4294967295, .string ⟨#[]⟩] 24)).alloc (.cells #[.int .i64 255, .int .i64 65535, .int .i64 7, .int .i64 8191, .int .i64 255, .int .i64 255, .int .u32 4294967295, .int .u32 4294967295, .string ⟨#[]⟩] 24)).setCell ⟨w1.heap.size, 5, none⟩ (.int .i64 256)).setCell ⟨w3.heap.size + 1, 5, none⟩ (.int .i64 (-1))).heap.size = w3.heap.size + 2 := by simp [World.setCell]
    have HL := hide hlow
    have HX := hide hxx
    have HBV := hide hbV
    have HVS := hide hVs
    clear hlow hxx hbV hVs
    go_wp2_with fail
    refine (build_any ⟨255, 65535, 7, 8191, 255, 256, 4294967295, 4294967295, ⟨#[]⟩⟩ ⟨#[]⟩ _ ⟨by decide, by decide, by decide, by decide, by decide, by decide, by decide, by decide, by decide⟩ (by decide)).mono ?_
    rintro e w4 ⟨rfl, hb4⟩
    have e1 : buildE ⟨255, 65535, 7, 8191, 255, 256, 4294967295, 4294967295, ⟨#[]⟩⟩ ⟨#[]⟩ = 1 := by unfold buildE; rw [if_pos (by simp [rightB, inB])]
    rw [e1]
    have hl4 := (unhide HL).on hb4 (by have := unhide HVS; omega)
    have hx4 := (unhide HX).on hb4 (by have := unhide HVS; omega)
    have hb5 := (unhide HBV).trans (hb4.mono (by have := unhide HVS; omega))
    have hs4 : w3.heap.size + 2 ≤ w4.heap.size := by have := hb4.size; have := unhide HVS; omega
    clear HL HX HBV HVS hb4
    clear q0 q1 q2 q3 q4 q5 q6 q7 q8
    clear r0 r1 r2 r3 r4 r5 r6 r7 r8
    clear fr fs hj
    have q0 := (hl4) 0 (by decide)
    have q1 := (hl4) 1 (by decide)
    have q2 := (hl4) 2 (by decide)
    have q3 := (hl4) 3 (by decide)
    have q4 := (hl4) 4 (by decide)
    have q5 := (hl4) 5 (by decide)
    have q6 := (hl4) 6 (by decide)
    have q7 := (hl4) 7 (by decide)
    have q8 := (hl4) 8 (by decide)
    simp only [hcell, setF, maxH] at q0 q1 q2 q3 q4 q5 q6 q7 q8
    have HX := hide hx4
    have HBV := hide hb5
    clear hl4 hx4 hb5
    go_wp2_with fail
    refine (build_any ⟨255, 65535, 7, 8191, 255, (-1), 4294967295, 4294967295, ⟨#[]⟩⟩ ⟨#[]⟩ _ ⟨by decide, by decide, by decide, by decide, by decide, by decide, by decide, by decide, by decide⟩ (by decide)).mono ?_
    rintro e w5 ⟨rfl, hb5⟩
    have e2 : buildE ⟨255, 65535, 7, 8191, 255, (-1), 4294967295, 4294967295, ⟨#[]⟩⟩ ⟨#[]⟩ = 1 := by unfold buildE; rw [if_pos (by simp [rightB, inB])]
    rw [e2]
    have hx5 := (unhide HX).on hb5 (by omega)
    have hb6 := (unhide HBV).trans (hb5.mono (by omega))
    have hs5 : w3.heap.size + 2 ≤ w5.heap.size := by have := hb5.size; omega
    clear HX HBV hb5
    clear q0 q1 q2 q3 q4 q5 q6 q7 q8
    have HX := hide hx5
    have HBV := hide hb6
    clear hx5 hb6
    have hmk := make_run (a1 % 1600) (by omega) (by omega)
    have hcv := fun W => conv_zeros W (a1 % 1600).toNat
    go_wp2_with fail
    refine (build_any zeroHd (zeroS (a1 % 1600).toNat) _ zeroW (by rw [zeroS_size]; omega)).mono ?_
    rintro e w6 ⟨rfl, hb6⟩
    have hx6 := ((unhide HX).on (alloc_on w5 (.cells (madeCells #[.int .u8 0] (a1 % 1600).toNat) 5)) (by omega)).on hb6 (by simp; omega)
    have hb7 := ((unhide HBV).trans ((alloc_on w5 (.cells (madeCells #[.int .u8 0] (a1 % 1600).toNat) 5)).mono (by omega))).trans (hb6.mono (by simp; omega))
    have q1 := hx6 1 (by decide)
    have q3 := hx6 3 (by decide)
    simp only [hcell, maxH] at q1 q3
    have HBZ := hide ((unhide HB1).trans (hb7.mono (unhide HB1).size))
    have hz := buildE_zero (a1 % 1600).toNat
    clear hx6 hb7 hb6 HX HBV HB1 HB3 hmk hcv
    by_cases hn : a1 % 1600 ≤ 1480
    · have h1 : buildE zeroHd (zeroS (a1 % 1600).toNat) = 0 := of_decide_eq_true (hz.trans (decide_eq_true (by omega)))
      rw [h1]
      have hd : decide (a1 % 1600 ≤ 1480) = true := by simpa using hn
      clear hz h1
      go_wp2_with fail
      go_ret
      exact ⟨rfl, unhide HBZ⟩
    · have h1 : ¬ buildE zeroHd (zeroS (a1 % 1600).toNat) = 0 := of_decide_eq_false (hz.trans (decide_eq_false (by omega)))
      have hd : decide (a1 % 1600 ≤ 1480) = false := by simpa using hn
      generalize buildE zeroHd (zeroS (a1 % 1600).toNat) = E at *
      have hd2 : (E == 0) = false := by simpa using h1
      clear hz
      go_wp2_with fail
      go_ret
      exact ⟨rfl, unhide HBZ⟩

theorem own : ownKnob Try.prog.godebug = none := by kernel_rfl
set_option maxRecDepth 100000 in
theorem lifted (os : Os) (started : os.Started) (H : Type) (enc : TypeId × Value → H) :
    ReturnsInHanded {} Try.checked os 8 .any (Rows.ip4LimitsSpec.pre6 enc Try.prog Try.f8 Rows.ip4LimitsRow.domain false) (Rows.ip4LimitsSpec.post enc Try.prog Try.f8 false true false false) := by
  refine returnsInHanded_of_change_sized (C := Try.checked) own started (by kernel_rfl) Try.func8
    (ChangeSpec.witness6 (enc := enc) (C := Try.checked) false ⟨#[], #[.int .u8 0, .int .u16 0], []⟩ 8 (by kernel_rfl) (by kernel_rfl) (by kernel_rfl) (by kernel_rfl)) ?_
  intro W base args ds gs before hval0 hW hcnd hsz _
  have hval : ∀ (j : Nat) t v, Try.f8.params[j]? = some t → args[j]? = some v → Value.okWide Try.prog W .any base t v := hval0
  have hW' := hW
  obtain ⟨p, q, hA0, hV, rfl, hfz, hnd⟩ := hW
  have hA : DataW.TrodAll enc Try.prog W 0 (fun _ => true) true Try.f8.params.toList args.toList ds p := hA0
  rw [Try.params8] at hA hval
  obtain ⟨v0, vs0, d0, ds0, p0, q0, hargs, rfl, rfl, h0, r0⟩ := trodAll_cons hA
  obtain ⟨v1, vs1, d1, ds1, p1, q1, rfl, rfl, rfl, h1, r1⟩ := trodAll_cons r0
  obtain ⟨rfl, rfl, rfl⟩ := trodAll_nil r1
  obtain rfl : args = #[v0, v1] := by cases args; simp_all
  obtain ⟨rfl, rfl⟩ := trodVars_none hV
  obtain ⟨a0, rfl, rfl, rfl, w0⟩ := open_int Try.underlying5 (hval 0 5 v0 rfl rfl) h0
  obtain ⟨a1, rfl, rfl, rfl, w1⟩ := open_int Try.underlying47 (hval 1 47 v1 rfl rfl) h1
  clear hA0 hval0
  simp only [List.append_nil] at hW'
  refine (walk W a0 a1 w0 w1).mono fun e W' ⟨he, bel⟩ => ?_
  subst he
  exact ⟨_, rfl, _, _, _, [], _, [], hW', (trodAll_cons_mk (shut_bool Try.underlying4 _) trodAll_mk0), (trodAll_cons_mk (shut_int Try.underlying5 w0) (trodAll_cons_mk (shut_int Try.underlying47 w1) trodAll_mk0)), rfl, bel.frame _, fun h => by cases h⟩

theorem over : Rows.ip4LimitsRow.holds Try.pinned (OpenSpec.ofChange Rows.ip4LimitsSpec) :=
  OpenClaim.holds_of_wide 8 Try.f8 rfl rfl rfl rfl rfl rfl rfl ⟨rfl, rfl, rfl, rfl, rfl⟩ rfl rfl rfl rfl rfl (by kernel_rfl) Try.func8 (by kernel_rfl)
    (of_decide_eq_true (by kernel_rfl)) (by unfold Func.isWrapper; first | (rw [if_pos (by decide +kernel)]; kernel_rfl) | (rw [if_neg (by decide +kernel)]; exact ⟨rfl, rfl⟩))
    (fun os started H enc _ => lifted os started H enc)

theorem proved : Rows.Ip4LimitsSaid := over
#print axioms proved
end Go.Proofs.Ytfppjpcolohmfaa.ip4Limits
