/- What outer, segment and message of package patch do. -/
import Derived.Test.YtpjaajeojiaeiaaGreatDoorPpQuote
import Derived.Test.YtpjaajeojiaeiaaGreatDoorIcC
namespace Go.Proofs.YtpjaajeojiaeiaaGreatDoor
open Go.ChangeShapes Go.WideShapes Go.ChangeAt Go.RowKit

set_option maxRecDepth 100000 in
set_option maxHeartbeats 2000000 in
theorem pouter_any (s : ByteArray) (ttl src dst : Int) (w : World) (hs : s.size ≤ 281474976710656) (hS : Ps.U32 src) (hD : Ps.U32 dst) :
    Calls Tryz.prog 23 #[.string s, .int .i64 ttl, .int .u32 src, .int .u32 dst] w fun e w' => e = .returned (.string (outerS s ttl src dst)) ∧ Below w.heap.size w w' := by
  have z1 := addrS_le s src dst
  have z2 := out0S_le s ttl src dst
  have HA := hide (fun u => withAddresses_any s src dst u hs hS hD)
  have HW := hide (fun (W : World) (t : TypeId) => with_any (addrS s src dst) W.heap.size 2 _ (W.alloc (.cells #[.int .i64 8, .int .i64 1, .int .i64 ttl, .int .i64 10, .int .i64 2, .int .i64 0] t)) (by omega) (by decide) (nums2 (row_new W [.int .i64 8, .int .i64 1, .int .i64 ttl, .int .i64 10, .int .i64 2, .int .i64 0] t)))
  have E1 : Hid (wth (addrS s src dst) (fun k => if k = 0 then ((8 : Int), (1 : Int), ttl) else (10, 2, 0)) 2 = out0S s ttl src dst) := rfl
  rw [E1.out] at HW
  have HC := hide (fun u => check_any (out0S s ttl src dst) u (by omega))
  obtain ⟨K, hK⟩ : ∃ K : Int, 65535 - Ck.sum (out0S s ttl src dst).data.toList = K := ⟨_, rfl⟩
  have k0 : 0 ≤ K := by have := Ck.sum_hi (out0S s ttl src dst).data.toList; omega
  have k1 : K ≤ 65535 := by have := Ck.sum_lo (out0S s ttl src dst).data.toList; omega
  have HO : Hid (set (out0S s ttl src dst) 10 2 K = outerS s ttl src dst) := by rw [← hK]; rfl
  rw [hK] at HC
  have HX := hide (fun (W : World) (t : TypeId) => with_any (out0S s ttl src dst) W.heap.size 1 _ (W.alloc (.cells #[.int .i64 10, .int .i64 2, .int .i64 K] t)) (by omega) (by decide) (nums1 (row_new W [.int .i64 10, .int .i64 2, .int .i64 K] t)))
  have E2 : Hid (wth (out0S s ttl src dst) (fun _ => ((10 : Int), (2 : Int), K)) 1 = set (out0S s ttl src dst) 10 2 K) := rfl
  rw [E2.out, HO.out] at HX
  have kw : IntKind.i64.wrap K = K := Oct.wraps_i64 _ k0 (by omega)
  clear hK z1 z2 E1 E2 HO
  generalize outerS s ttl src dst = O at *
  generalize out0S s ttl src dst = X at *
  generalize addrS s src dst = A at *
  go_enter Tryz.func23, Tryz.ntmps23
  go_wp2_with fail
  refine (unhide HA _).mono ?_
  rintro e w1 ⟨rfl, b1⟩
  have HB1 := hide b1
  clear b1
  go_wp2_with fail
  refine (unhide HW _ _).mono ?_
  rintro e w2 ⟨rfl, b2⟩
  have HB2 := hide (Below.then (Below.then (unhide HB1) (alloc_on' _ _)) b2)
  clear b2
  go_wp2_with fail
  refine (unhide HC _).mono ?_
  rintro e w3 ⟨rfl, b3⟩
  have HB3 := hide (Below.then (unhide HB2) b3)
  clear b3
  go_wp2_with fail
  refine (unhide HX _ _).mono ?_
  rintro e w4 ⟨rfl, b4⟩
  have HB4 := hide (Below.then (Below.then (unhide HB3) (alloc_on' _ _)) b4)
  clear b4
  go_wp2_with fail
  go_ret
  exact ⟨rfl, unhide HB4⟩

/-- A whole segment between these ends. -/
def bare (p : Int) (s : ByteArray) : Bool := (p == 17) && (got s 6 2 == 0)
def segT (s : ByteArray) (p : Int) (t : En) : ByteArray := if bare p (portS s t.sport t.dport) = true then portS s t.sport t.dport else Ps.fillS p t.src t.dst (portS s t.sport t.dport)
theorem segT_le (s : ByteArray) (p : Int) (t : En) : (segT s p t).size ≤ s.size := by
  unfold segT
  split
  · exact portS_le _ _ _
  · exact Nat.le_trans (Ps.fillS_size _ _ _ _) (portS_le _ _ _)
set_option maxRecDepth 100000 in
set_option maxHeartbeats 2000000 in
theorem psegment_any (s : ByteArray) (p : Int) (t : En) (w : World) (hs : s.size ≤ 140737488360000) (hp : Ps.I64 p) (hT : Ps.U32 t.src ∧ Ps.U32 t.dst) :
    Calls Tryz.prog 24 #[.string s, .int .i64 p, t.val] w fun e w' => e = .returned (.string (segT s p t)) ∧ Below w.heap.size w w' := by
  have z1 := portS_le s t.sport t.dport
  have HP := hide (fun u => withPorts_any s t u (by omega))
  have HC := hide (fun u => checkless_any (portS s t.sport t.dport) u (by omega))
  have HF := hide (fun u => Ps.pfill_any p t.src t.dst (portS s t.sport t.dport) u hp hT.1 hT.2 (by omega))
  have HS : Hid (segT s p t = if ((p == 17) && (got (portS s t.sport t.dport) 6 2 == 0)) = true then portS s t.sport t.dport else Ps.fillS p t.src t.dst (portS s t.sport t.dport)) := rfl
  have r0 := row_new w t.cells 27
  have b0 := alloc_on' w (.cells t.cells.toArray 27)
  clear z1
  generalize segT s p t = SS at *
  generalize Ps.fillS p t.src t.dst (portS s t.sport t.dport) = FS at *
  generalize Ps.fillB p t.src t.dst (portS s t.sport t.dport) = FB at *
  generalize got (portS s t.sport t.dport) 6 2 = G at *
  generalize portS s t.sport t.dport = A at *
  have HR := hide (And.intro r0 b0)
  clear r0 b0
  by_cases h17 : p = 17
  · subst h17
    by_cases h0 : G = 0
    · have HX : Hid (SS = A) := by rw [HS.out, h0]; rfl
      have t0 : (G == 0) = true := by simpa using h0
      rw [t0] at HC
      have H0 := hide h0
      clear h0
      have c0 := ((unhide HR).1).cell 0 _ rfl
      go_enter Tryz.func24, Tryz.ntmps24
      go_wp2_with fail
      refine (unhide HP _).mono ?_
      rintro e w1 ⟨rfl, hb⟩
      have HB1 := hide (Below.then (unhide HR).2 hb)
      clear hb
      go_wp2_with fail
      refine (unhide HC _).mono ?_
      rintro e w2 ⟨rfl, hb⟩
      have HB2 := hide (Below.then (unhide HB1) hb)
      clear hb
      go_wp2_with fail
      go_ret
      exact ⟨ret_str' HX.out.symm, unhide HB2⟩
    · have t0 : (G == 0) = false := by simpa using h0
      have HX : Hid (SS = FS) := by rw [HS.out, t0]; rfl
      rw [t0] at HC
      have H0 := hide h0
      clear h0
      go_enter Tryz.func24, Tryz.ntmps24
      go_wp2_with fail
      refine (unhide HP _).mono ?_
      rintro e w1 ⟨rfl, hb⟩
      obtain ⟨r0, b0⟩ := unhide HR
      replace r0 := r0.on' hb
      have HR := hide (And.intro r0 (Below.then b0 hb))
      clear hb r0 b0
      go_wp2_with fail
      refine (unhide HC _).mono ?_
      rintro e w2 ⟨rfl, hb⟩
      obtain ⟨r0, b0⟩ := unhide HR
      replace r0 := r0.on' hb
      have c0 := r0.cell 0 _ rfl
      have c1 := r0.cell 1 _ rfl
      have HB2 := hide (Below.then b0 hb)
      clear hb r0 b0
      go_wp2_with fail
      refine (unhide HF _).mono ?_
      rintro e w3 ⟨rfl, hb⟩
      have HB3 := hide (Below.then (unhide HB2) hb)
      clear hb
      go_wp2_with fail
      go_ret
      exact ⟨ret_str' HX.out.symm, unhide HB3⟩
  · have t17 : (p == 17) = false := by simpa using h17
    have HX : Hid (SS = FS) := by rw [HS.out, t17]; rfl
    have H17 := hide h17
    clear h17
    go_enter Tryz.func24, Tryz.ntmps24
    go_wp2_with fail
    refine (unhide HP _).mono ?_
    rintro e w1 ⟨rfl, hb⟩
    obtain ⟨r0, b0⟩ := unhide HR
    replace r0 := r0.on' hb
    have c0 := r0.cell 0 _ rfl
    have c1 := r0.cell 1 _ rfl
    have HB1 := hide (Below.then b0 hb)
    clear hb r0 b0
    go_wp2_with fail
    refine (unhide HF _).mono ?_
    rintro e w3 ⟨rfl, hb⟩
    have HB3 := hide (Below.then (unhide HB1) hb)
    clear hb
    go_wp2_with fail
    go_ret
    exact ⟨ret_str' HX.out.symm, unhide HB3⟩

end Go.Proofs.YtpjaajeojiaeiaaGreatDoor
