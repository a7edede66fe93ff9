/- What Parse computes: the header and the body of the packet that a text begins with, or the first error. -/
import Derived.Test.YtfppjpcolohmfaaIpMeas
import Derived.Test.YtfppjpcolohmfaaIpHead
import Derived.Test.YtfppjpcolohmfaaIpClone
import Derived.Test.YtfppjpcolohmfaaCkSum
import Derived.Test.YtfppjpcolohmfaaIpOpts
import Derived.Test.YtfppjpcolohmfaaIpRight
namespace Go.Proofs.Ytfppjpcolohmfaa
open Go.ChangeShapes Go.WideShapes Go.ChangeAt Go.RowKit

/-- The bytes of the header, its options, the body. -/
def pX (s : ByteArray) : ByteArray := s.extract 0 (fget s 1 * 4).toNat
def pO (s : ByteArray) : ByteArray := (pX s).extract 20 (pX s).size
def pB (s : ByteArray) : ByteArray := s.extract (fget s 1 * 4).toNat (fget s 3).toNat
def parseE (s : ByteArray) : Int := if measE s = 0 then (if Ck.sum (pX s).data.toList = 65535 then (if optsOk (pO s).data.toList = true then 0 else 6) else 7) else measE s
def parseH (s : ByteArray) : Hd := if parseE s = 0 then fhead (fget s) (pO s) else zeroHd
def parseS (s : ByteArray) : ByteArray := if parseE s = 0 then pB s else ⟨#[]⟩
theorem parseH_no {s : ByteArray} (h : ¬ parseE s = 0) : parseH s = zeroHd := if_neg h
theorem parseS_no {s : ByteArray} (h : ¬ parseE s = 0) : parseS s = ⟨#[]⟩ := if_neg h
theorem pX_size {s : ByteArray} (m : Meas s) : ((pX s).size : Int) = fget s 1 * 4 := by
  unfold pX
  have h := m.hi
  have l := m.lo
  rw [Oct.ext_size _ _ _ (by omega)]; omega
theorem size_quiet (b : Nat) (F : Nat → Int) (w : World) (h : FixAt w b F) (h0 : 0 ≤ F 1) (h1 : F 1 ≤ 1000) :
    Calls Try.prog 24 #[.pointer (some ⟨b, 0, none⟩)] w fun e w' => e = .returned (.int .i64 (F 1 * 4)) ∧ Below w.heap.size w w' :=
  (size_any b F w h h0 h1).mono fun _ _ ⟨h1, h2⟩ => ⟨h1, by rw [h2]; exact Below.refl _ _⟩
theorem ret_p {a b : ByteArray} {h g : Hd} {x y : Int} (e1 : h = g) (e2 : a = b) (e3 : x = y) : Ending.returned (.tuple #[h.val, .string a, .int .i64 x]) = .returned (.tuple #[g.val, .string b, .int .i64 y]) := by rw [e1, e2, e3]

set_option maxRecDepth 100000 in
set_option maxHeartbeats 4000000 in
theorem parse_any (s : ByteArray) (w : World) (hs : s.size ≤ 281474976710656) :
    Calls Try.prog 18 #[.string s] w fun e w' => e = .returned (.tuple #[(parseH s).val, .string (parseS s), .int .i64 (parseE s)]) ∧ Below w.heap.size w w' := by
  have hs9 : (s.size : Int) ≤ 281474976710656 := by omega
  have hnew := newHd w zeroHd 24
  simp only [zeroHd] at hnew
  go_enter Try.func18, Try.ntmps18
  go_wp2_with fail
  refine (measured_any s _ hs).mono ?_
  rintro e w1 ⟨rfl, hb1⟩
  have hn1 := hnew.on hb1 (by simp)
  have hbw : Below w.heap.size w w1 := ((Below.refl w.heap.size w).alloc (Nat.le_refl _) _).trans (hb1.mono (by simp))
  have hsw : w.heap.size + 1 ≤ w1.heap.size := by have := hb1.size; simp at this; omega
  clear hb1 hnew
  generalize hFe : measF s = F at *
  have hV1 := fixAt_new w1 F 55
  have hVa : Below w1.heap.size w1 (w1.alloc (.cells #[.int .i64 (F 0), .int .i64 (F 1), .int .i64 (F 2), .int .i64 (F 3), .int .i64 (F 4), .int .i64 (F 5), .int .i64 (F 6), .int .i64 (F 7), .int .i64 (F 8), .int .i64 (F 9), .int .i64 (F 10), .int .i64 (F 11)] 55)) := (Below.refl _ _).alloc (Nat.le_refl _) _
  have hVs : (w1.alloc (.cells #[.int .i64 (F 0), .int .i64 (F 1), .int .i64 (F 2), .int .i64 (F 3), .int .i64 (F 4), .int .i64 (F 5), .int .i64 (F 6), .int .i64 (F 7), .int .i64 (F 8), .int .i64 (F 9), .int .i64 (F 10), .int .i64 (F 11)] 55)).heap.size = w1.heap.size + 1 := by simp
  have HV : Hid (∀ V, w1.alloc (.cells #[.int .i64 (F 0), .int .i64 (F 1), .int .i64 (F 2), .int .i64 (F 3), .int .i64 (F 4), .int .i64 (F 5), .int .i64 (F 6), .int .i64 (F 7), .int .i64 (F 8), .int .i64 (F 9), .int .i64 (F 10), .int .i64 (F 11)] 55) = V → FixAt V w1.heap.size F ∧ NewHd V w.heap.size zeroHd ∧ Below w.heap.size w V ∧ V.heap.size = w1.heap.size + 1) := by
    rintro V rfl
    exact ⟨hV1, hn1.on hVa (by omega), hbw.trans (hVa.mono (by omega)), hVs⟩
  clear hV1 hVa hVs hn1 hbw
  by_cases hm : measE s = 0
  case neg =>
    have HE : Hid (parseE s = measE s) := by show _ = _; unfold parseE; rw [if_neg hm]
    have HH : Hid (parseH s = zeroHd) := parseH_no (by rw [HE.out]; exact hm)
    have HS : Hid (parseS s = ⟨#[]⟩) := parseS_no (by rw [HE.out]; exact hm)
    have hd : (measE s != 0) = true := by simpa using hm
    have hV := HV.out _ rfl
    have r0 := (hV.2.1).at_ 0 (by decide)
    have r1 := (hV.2.1).at_ 1 (by decide)
    have r2 := (hV.2.1).at_ 2 (by decide)
    have r3 := (hV.2.1).at_ 3 (by decide)
    have r4 := (hV.2.1).at_ 4 (by decide)
    have r5 := (hV.2.1).at_ 5 (by decide)
    have r6 := (hV.2.1).at_ 6 (by decide)
    have r7 := (hV.2.1).at_ 7 (by decide)
    have r8 := (hV.2.1).at_ 8 (by decide)
    simp only [hcell, zeroHd] at r0 r1 r2 r3 r4 r5 r6 r7 r8
    have rf := (hV.2.1).free
    have HVV := hide hV
    clear hV HV
    go_wp2_with fail
    clear r0 r1 r2 r3 r4 r5 r6 r7 r8 rf
    have hz := setHd_at zeroHd ((unhide HVV).2.1).at_
    have hbz := setHd_below ((unhide HVV).2.2.1) w.heap.size zeroHd (Nat.le_refl _)
    have g0 := hz 0 (by decide)
    have g1 := hz 1 (by decide)
    have g2 := hz 2 (by decide)
    have g3 := hz 3 (by decide)
    have g4 := hz 4 (by decide)
    have g5 := hz 5 (by decide)
    have g6 := hz 6 (by decide)
    have g7 := hz 7 (by decide)
    have g8 := hz 8 (by decide)
    clear hz
    simp only [setHd, hcell, zeroHd] at hbz g0 g1 g2 g3 g4 g5 g6 g7 g8
    rw [HH.out, HS.out, HE.out]
    refine bodyPost_ret (v := .tuple #[.agg #[.int .i64 0, .int .i64 0, .int .i64 0, .int .i64 0, .int .i64 0, .int .i64 0, .int .u32 0, .int .u32 0, .string ⟨#[]⟩], .string ⟨#[]⟩, .int .i64 (measE s)]) ?_ rfl ⟨rfl, hbz⟩
    simp [results, Try.results18, go_sem, g0, g1, g2, g3, g4, g5, g6, g7, g8]
  case pos =>
    have m := meas_of hm
    have hF : measF s = fget s := by unfold measF; rw [if_pos hm]
    rw [hF] at hFe
    subst hFe
    clear hF
    obtain ⟨m1, m2, m3, m4, m5, m6, m7⟩ := m
    clear m2
    have hx := pX_size (meas_of hm)
    have f3 := fit3 (fget_fits s)
    have f1 := fit1 (fget_fits s)
    have f10 := fit10 (fget_fits s)
    have f11 := fit11 (fget_fits s)
    have HM := hide hm
    have hm0 : measE s = 0 := hm
    clear hm
    go_wp2_with fail
    have hV := HV.out _ rfl
    generalize w1.alloc (.cells #[.int .i64 (fget s 0), .int .i64 (fget s 1), .int .i64 (fget s 2), .int .i64 (fget s 3), .int .i64 (fget s 4), .int .i64 (fget s 5), .int .i64 (fget s 6), .int .i64 (fget s 7), .int .i64 (fget s 8), .int .i64 (fget s 9), .int .i64 (fget s 10), .int .i64 (fget s 11)] 55) = V at *
    obtain ⟨v1, v2, v3, v4⟩ := hV
    clear HV
    refine (size_any w1.heap.size (fget s) V v1 (by omega) (by omega)).mono ?_
    rintro e w3 ⟨rfl, he3⟩
    have he3 := he3.symm
    subst he3
    have hxe : s.extract 0 (fget s 1 * 4).toNat = pX s := rfl
    have HV1 := hide v1
    have HV2 := hide v2
    have HV3 := hide v3
    clear v1 v2 v3
    go_wp2_with fail
    refine (sum_any (pX s) _ (by omega)).mono ?_
    rintro e w2 ⟨rfl, hb2⟩
    have n1 := (unhide HV1).on hb2 (by omega)
    have n2 := (unhide HV2).on hb2 (by omega)
    have n3 := (unhide HV3).trans (hb2.mono (by omega))
    have n4 : w1.heap.size + 1 ≤ w2.heap.size := by have := hb2.size; omega
    clear HV1 HV2 HV3 hb2
    have HV1 := hide n1
    have HV2 := hide n2
    have HV3 := hide n3
    clear n1
    by_cases hsum : Ck.sum (pX s).data.toList = 65535
    case neg =>
      have HE : Hid (parseE s = 7) := by show _ = _; unfold parseE; rw [if_pos (unhide HM), if_neg hsum]
      have HH : Hid (parseH s = zeroHd) := parseH_no (by rw [HE.out]; decide)
      have HS : Hid (parseS s = ⟨#[]⟩) := parseS_no (by rw [HE.out]; decide)
      have hd : (Ck.sum (pX s).data.toList != 65535) = true := by simpa using hsum
      have r0 := (unhide HV2).at_ 0 (by decide)
      have r1 := (unhide HV2).at_ 1 (by decide)
      have r2 := (unhide HV2).at_ 2 (by decide)
      have r3 := (unhide HV2).at_ 3 (by decide)
      have r4 := (unhide HV2).at_ 4 (by decide)
      have r5 := (unhide HV2).at_ 5 (by decide)
      have r6 := (unhide HV2).at_ 6 (by decide)
      have r7 := (unhide HV2).at_ 7 (by decide)
      have r8 := (unhide HV2).at_ 8 (by decide)
      simp only [hcell, zeroHd] at r0 r1 r2 r3 r4 r5 r6 r7 r8
      have rf := (unhide HV2).free
      clear n2 n3
      go_wp2_with fail
      clear r0 r1 r2 r3 r4 r5 r6 r7 r8 rf
      have hz := setHd_at zeroHd (unhide HV2).at_
      have hbz := setHd_below (unhide HV3) w.heap.size zeroHd (Nat.le_refl _)
      have g0 := hz 0 (by decide)
      have g1 := hz 1 (by decide)
      have g2 := hz 2 (by decide)
      have g3 := hz 3 (by decide)
      have g4 := hz 4 (by decide)
      have g5 := hz 5 (by decide)
      have g6 := hz 6 (by decide)
      have g7 := hz 7 (by decide)
      have g8 := hz 8 (by decide)
      clear hz
      simp only [setHd, hcell, zeroHd] at hbz g0 g1 g2 g3 g4 g5 g6 g7 g8
      rw [HH.out, HS.out, HE.out]
      refine bodyPost_ret (v := .tuple #[.agg #[.int .i64 0, .int .i64 0, .int .i64 0, .int .i64 0, .int .i64 0, .int .i64 0, .int .u32 0, .int .u32 0, .string ⟨#[]⟩], .string ⟨#[]⟩, .int .i64 (7)]) ?_ rfl ⟨rfl, hbz⟩
      simp [results, Try.results18, go_sem, g0, g1, g2, g3, g4, g5, g6, g7, g8]
    case pos =>
      have hd : (Ck.sum (pX s).data.toList != 65535) = false := by simpa using hsum
      have hq : (20 : Int) ≤ (pX s).size := by omega
      have hoe : (pX s).extract 20 (pX s).size = pO s := rfl
      have hosz : (pO s).size ≤ 140737488355328 := by unfold pO; rw [Oct.ext_size _ _ _ (Nat.le_refl _)]; omega
      clear n2 n3
      go_wp2_with fail
      refine (optsRight_any (pO s) _ hosz).mono ?_
      rintro e w4 ⟨rfl, he4⟩
      have he4 := he4.symm
      subst he4
      cases hop : optsOk (pO s).data.toList with
      | false =>
        have HE : Hid (parseE s = 6) := by show _ = _; unfold parseE; rw [if_pos (unhide HM), if_pos hsum, if_neg (by rw [hop]; decide)]
        have HH : Hid (parseH s = zeroHd) := parseH_no (by rw [HE.out]; decide)
        have HS : Hid (parseS s = ⟨#[]⟩) := parseS_no (by rw [HE.out]; decide)
        have r0 := (unhide HV2).at_ 0 (by decide)
        have r1 := (unhide HV2).at_ 1 (by decide)
        have r2 := (unhide HV2).at_ 2 (by decide)
        have r3 := (unhide HV2).at_ 3 (by decide)
        have r4 := (unhide HV2).at_ 4 (by decide)
        have r5 := (unhide HV2).at_ 5 (by decide)
        have r6 := (unhide HV2).at_ 6 (by decide)
        have r7 := (unhide HV2).at_ 7 (by decide)
        have r8 := (unhide HV2).at_ 8 (by decide)
        simp only [hcell, zeroHd] at r0 r1 r2 r3 r4 r5 r6 r7 r8
        have rf := (unhide HV2).free
        go_wp2_with fail
        clear r0 r1 r2 r3 r4 r5 r6 r7 r8 rf
        have hz := setHd_at zeroHd (unhide HV2).at_
        have hbz := setHd_below (unhide HV3) w.heap.size zeroHd (Nat.le_refl _)
        have g0 := hz 0 (by decide)
        have g1 := hz 1 (by decide)
        have g2 := hz 2 (by decide)
        have g3 := hz 3 (by decide)
        have g4 := hz 4 (by decide)
        have g5 := hz 5 (by decide)
        have g6 := hz 6 (by decide)
        have g7 := hz 7 (by decide)
        have g8 := hz 8 (by decide)
        clear hz
        simp only [setHd, hcell, zeroHd] at hbz g0 g1 g2 g3 g4 g5 g6 g7 g8
        rw [HH.out, HS.out, HE.out]
        refine bodyPost_ret (v := .tuple #[.agg #[.int .i64 0, .int .i64 0, .int .i64 0, .int .i64 0, .int .i64 0, .int .i64 0, .int .u32 0, .int .u32 0, .string ⟨#[]⟩], .string ⟨#[]⟩, .int .i64 (6)]) ?_ rfl ⟨rfl, hbz⟩
        simp [results, Try.results18, go_sem, g0, g1, g2, g3, g4, g5, g6, g7, g8]
      | true =>
        have HE : Hid (parseE s = 0) := by show _ = _; unfold parseE; rw [if_pos (unhide HM), if_pos hsum, if_pos hop]
        have HH : Hid (parseH s = fhead (fget s) (pO s)) := by show _ = _; unfold parseH; rw [HE.out, if_pos rfl]
        have HS : Hid (parseS s = pB s) := by show _ = _; unfold parseS; rw [HE.out, if_pos rfl]
        clear hd hop
        have p1 : 0 ≤ fget s 1 * 4 := by omega
        have p3 : 0 ≤ fget s 3 := by omega
        go_wp2_with fail
        have n1 := unhide HV1
        have n2 := unhide HV2
        have n3 := unhide HV3
        have hbe : s.extract (fget s 1 * 4).toNat (fget s 3).toNat = pB s := rfl
        have hbsz : (pB s).size ≤ 281474976710656 := by unfold pB; rw [Oct.ext_size _ _ _ (by omega)]; omega
        have hon : ∀ {u : World}, Below w2.heap.size w2.drew u → FixAt u w1.heap.size (fget s) ∧ NewHd u w.heap.size zeroHd ∧ w1.heap.size + 1 ≤ u.heap.size := fun {u} hb =>
          ⟨n1.drew.on hb (by omega), n2.drew.on hb (by omega), by have := hb.size; exact Nat.le_trans n4 this⟩
        clear HV1 HV2 HV3 hxe hoe hsum
        generalize hO : pO s = O at *
        generalize hBB : pB s = B at *
        refine wp_region_grow_store (by kernel_rfl) [.string O, .string O, .agg #[.int .i64 (fget s 2), .int .i64 (fget s 4), .int .i64 (fget s 5), .int .i64 (fget s 6), .int .i64 (fget s 7), .int .i64 (fget s 8), .int .u32 (fget s 10), .int .u32 (fget s 11), .string O], .string s, .int .i64 (fget s 1 * 4), .pointer (some ⟨w1.heap.size, 3, none⟩), .int .i64 (fget s 3), .string B, .string B, undef, .string B, .int .i64 (0)] 9 (fun v => setHd v w.heap.size (fhead (fget s) O)) (by kernel_rfl) (by decide) rfl ?op ?store ?fin
        case op =>
          intro i o bx u ho hne hbel hS
          match i, ho with
          | 0, ho =>
            obtain rfl := Option.some.inj ho
            have d7 : bx.tmps.getD 7 undef = .string O := hS.base 7 (by kernel_rfl)
            refine .inl ⟨rfl, ends_value (c := .string O) ?_⟩
            simp [execOp, Act.eval, d7]
          | 1, ho =>
            obtain rfl := Option.some.inj ho
            have d30 : bx.tmps.getD 30 undef = .string O := hS.dep 0 30 (by kernel_rfl) (by kernel_rfl)
            refine .inl ⟨rfl, ends_call (c := .string O) (by kernel_rfl) (f := 34) (args := #[.string O]) ?_ (clone_any O u (by omega))⟩
            simp [Act.eval, d30, go_sem]
          | 2, ho =>
            obtain rfl := Option.some.inj ho
            have d5 : bx.tmps.getD 5 undef = .pointer (some ⟨w1.heap.size, 0, none⟩) := hS.base 5 (by kernel_rfl)
            have d31 : bx.tmps.getD 31 undef = .string O := hS.dep 1 31 (by kernel_rfl) (by kernel_rfl)
            refine .inl ⟨rfl, ends_call (c := .agg #[.int .i64 (fget s 2), .int .i64 (fget s 4), .int .i64 (fget s 5), .int .i64 (fget s 6), .int .i64 (fget s 7), .int .i64 (fget s 8), .int .u32 (fget s 10), .int .u32 (fget s 11), .string O]) (by kernel_rfl) (f := 33) (args := #[.pointer (some ⟨w1.heap.size, 0, none⟩), .string O]) ?_ (header_any w1.heap.size (fget s) O u (hon (hbel (by kernel_rfl))).1 (by have := (hon (hbel (by kernel_rfl))).2.2; omega) (by omega) (by omega))⟩
            simp [Act.eval, d5, d31, go_sem]
          | 3, ho =>
            obtain rfl := Option.some.inj ho
            have d0 : bx.tmps.getD 0 undef = .string s := hS.base 0 (by kernel_rfl)
            refine .inl ⟨rfl, ends_value (c := .string s) ?_⟩
            simp [execOp, Act.eval, d0]
          | 4, ho =>
            obtain rfl := Option.some.inj ho
            have d5 : bx.tmps.getD 5 undef = .pointer (some ⟨w1.heap.size, 0, none⟩) := hS.base 5 (by kernel_rfl)
            refine .inl ⟨rfl, ends_call (c := .int .i64 (fget s 1 * 4)) (by kernel_rfl) (f := 24) (args := #[.pointer (some ⟨w1.heap.size, 0, none⟩)]) ?_ (size_quiet w1.heap.size (fget s) u (hon (hbel (by kernel_rfl))).1 (by omega) (by omega))⟩
            simp [Act.eval, d5, go_sem]
          | 5, ho =>
            obtain rfl := Option.some.inj ho
            have d5 : bx.tmps.getD 5 undef = .pointer (some ⟨w1.heap.size, 0, none⟩) := hS.base 5 (by kernel_rfl)
            refine .inl ⟨rfl, ends_value (c := .pointer (some ⟨w1.heap.size, 3, none⟩)) ?_⟩
            simp [Act.eval, d5, go_sem]
          | 6, ho =>
            obtain rfl := Option.some.inj ho
            have d35 : bx.tmps.getD 35 undef = .pointer (some ⟨w1.heap.size, 3, none⟩) := hS.dep 5 35 (by kernel_rfl) (by kernel_rfl)
            have hl := (hon (hbel (by kernel_rfl))).1 3 (by decide)
            refine .inl ⟨rfl, ends_value (c := .int .i64 (fget s 3)) ?_⟩
            simp [Act.eval, d35, go_sem, hl]
          | 7, ho =>
            obtain rfl := Option.some.inj ho
            have d33 : bx.tmps.getD 33 undef = .string s := hS.dep 3 33 (by kernel_rfl) (by kernel_rfl)
            have d34 : bx.tmps.getD 34 undef = .int .i64 (fget s 1 * 4) := hS.dep 4 34 (by kernel_rfl) (by kernel_rfl)
            have d36 : bx.tmps.getD 36 undef = .int .i64 (fget s 3) := hS.dep 6 36 (by kernel_rfl) (by kernel_rfl)
            refine .inl ⟨rfl, ends_value (c := .string B) ?_⟩
            simp [Act.eval, d33, d34, d36, go_sem, m5, m6, hbe, p1]
          | 8, ho =>
            obtain rfl := Option.some.inj ho
            have d37 : bx.tmps.getD 37 undef = .string B := hS.dep 7 37 (by kernel_rfl) (by kernel_rfl)
            refine .inl ⟨rfl, ends_call (c := .string B) (by kernel_rfl) (f := 34) (args := #[.string B]) ?_ (clone_any B u hbsz)⟩
            simp [Act.eval, d37, go_sem]
          | 9, _ => exact absurd rfl hne
          | 10, ho =>
            obtain rfl := Option.some.inj ho
            have d38 : bx.tmps.getD 38 undef = .string B := hS.dep 8 38 (by kernel_rfl) (by kernel_rfl)
            refine .inl ⟨rfl, ends_value (c := .string B) ?_⟩
            simp [execOp, Act.eval, d38]
          | 11, ho =>
            obtain rfl := Option.some.inj ho
            refine .inl ⟨rfl, ends_value (c := .int .i64 (0)) ?_⟩
            simp [execOp, Act.eval]
          | n + 12, ho => exact absurd ho (by simp)
        case store =>
          intro o bx u ho hbel hS
          obtain rfl := Option.some.inj ho
          have d2 : bx.tmps.getD 2 undef = .pointer (some ⟨w.heap.size, 0, none⟩) := hS.base 2 (by kernel_rfl)
          have d32 : bx.tmps.getD 32 undef = .agg #[.int .i64 (fget s 2), .int .i64 (fget s 4), .int .i64 (fget s 5), .int .i64 (fget s 6), .int .i64 (fget s 7), .int .i64 (fget s 8), .int .u32 (fget s 10), .int .u32 (fget s 11), .string O] := hS.dep 2 32 (by kernel_rfl) (by kernel_rfl)
          have hn := (hon hbel).2.1
          have r0 := hn.at_ 0 (by decide)
          have r1 := hn.at_ 1 (by decide)
          have r2 := hn.at_ 2 (by decide)
          have r3 := hn.at_ 3 (by decide)
          have r4 := hn.at_ 4 (by decide)
          have r5 := hn.at_ 5 (by decide)
          have r6 := hn.at_ 6 (by decide)
          have r7 := hn.at_ 7 (by decide)
          have r8 := hn.at_ 8 (by decide)
          simp only [hcell, zeroHd] at r0 r1 r2 r3 r4 r5 r6 r7 r8
          have rf := hn.free
          unfold setHd fhead
          refine ⟨rfl, ?_⟩
          simp [Act.eval, d2, d32, go_sem, r0, r1, r2, r3, r4, r5, r6, r7, r8, rf]
        case fin =>
          intro u hbel
          simp [putAll, dstAt, Act.put]
          have hz := setHd_at (fhead (fget s) O) (hon hbel).2.1.at_
          have hbz := setHd_below (n3.drew.trans (hbel.mono (by omega))) w.heap.size (fhead (fget s) O) (Nat.le_refl _)
          generalize setHd u w.heap.size (fhead (fget s) O) = z at *
          go_wp2_with fail
          have g0 := hz 0 (by decide)
          have g1 := hz 1 (by decide)
          have g2 := hz 2 (by decide)
          have g3 := hz 3 (by decide)
          have g4 := hz 4 (by decide)
          have g5 := hz 5 (by decide)
          have g6 := hz 6 (by decide)
          have g7 := hz 7 (by decide)
          have g8 := hz 8 (by decide)
          simp only [hcell, fhead] at g0 g1 g2 g3 g4 g5 g6 g7 g8
          rw [HH.out, HS.out, HE.out]
          refine bodyPost_ret (v := .tuple #[.agg #[.int .i64 (fget s 2), .int .i64 (fget s 4), .int .i64 (fget s 5), .int .i64 (fget s 6), .int .i64 (fget s 7), .int .i64 (fget s 8), .int .u32 (fget s 10), .int .u32 (fget s 11), .string O], .string B, .int .i64 0]) ?_ rfl ⟨rfl, hbz⟩
          simp [results, Try.results18, go_sem, g0, g1, g2, g3, g4, g5, g6, g7, g8]
end Go.Proofs.Ytfppjpcolohmfaa
