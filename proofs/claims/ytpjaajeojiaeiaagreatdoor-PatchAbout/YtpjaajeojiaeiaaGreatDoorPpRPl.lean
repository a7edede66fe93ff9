/- What with, num, outer and Plain of the reference of chapter 10 answer: what the program's answer. -/
import Derived.Test.YtpjaajeojiaeiaaGreatDoorPpReady
import Derived.Test.YtpjaajeojiaeiaaGreatDoorPpB
namespace Go.Proofs.YtpjaajeojiaeiaaGreatDoor
open Go.ChangeShapes Go.WideShapes Go.ChangeAt Go.RowKit

set_option maxHeartbeats 1000000 in
theorem rwith_any (s : ByteArray) (p k n : Int) (w : World) (hs : s.size ≤ 281474976710656) :
  Calls Tryz.prog 27 #[.string s, .int .i64 p, .int .i64 k, .int .i64 n] w fun e w' => e = .returned (.string (set s p k n)) ∧ Below w.heap.size w w' := by
 have HS := hide (fun u => rset_any s p k n u (by unfold maxLen; omega))
 generalize set s p k n = X at *
 generalize setB s p k n = B at *
 go_enter Tryz.func27, Tryz.ntmps27
 go_wp2_with fail
 refine (unhide HS _).mono ?_
 rintro e w1 ⟨rfl, hb⟩
 have HB := hide hb
 clear hb
 go_wp2_with fail
 go_ret
 exact ⟨rfl, unhide HB⟩
set_option maxHeartbeats 1000000 in
theorem rnum_any (s : ByteArray) (p k : Int) (w : World) (hs : s.size ≤ 281474976710656) :
  Calls Tryz.prog 28 #[.string s, .int .i64 p, .int .i64 k] w fun e w' => e = .returned (.int .i64 (got s p k)) ∧ Below w.heap.size w w' := by
 have HS := hide (fun u => rget_any s p k u (by unfold maxLen; omega))
 generalize got s p k = X at *
 generalize gotB s p k = B at *
 go_enter Tryz.func28, Tryz.ntmps28
 go_wp2_with fail
 refine (unhide HS _).mono ?_
 rintro e w1 ⟨rfl, rfl⟩
 go_wp2_with fail
 go_ret
 exact ⟨rfl, Below.refl _ _⟩

/-- A whole packet with another outer header, as the reference makes it. -/
def rout1 (s : ByteArray) : ByteArray := set s 8 1 (got s 8 1 - 1)
def rout3 (s : ByteArray) (src dst : Int) : ByteArray := set (addrS (rout1 s) src dst) 10 2 0
def routS (s : ByteArray) (p : Int) (src dst : Int) : ByteArray := set (rout3 s src dst) 10 2 (65535 - Ck.sum ((rout3 s src dst).extract 0 p.toNat).data.toList)
theorem rout_size {s : ByteArray} (h : 20 ≤ s.size) {src dst : Int} (hs : Ps.U32 src) (hd : Ps.U32 dst) (hl : 1 ≤ got s 8 1) : (rout1 s).size = s.size ∧ (rout3 s src dst).size = s.size := by
 have g := got1_rng s 8
 have z1 : (rout1 s).size = s.size := set_size' 8 1 (by decide) (by omega) (by omega) (lt1 (by omega) (by omega))
 have z2 := addrS_size (s := rout1 s) (by omega) hs hd
 have z3 : (rout3 s src dst).size = (addrS (rout1 s) src dst).size := set_size' 10 2 (by decide) (by omega) (Int.le_refl 0) (by decide)
 omega
theorem routS_size {s : ByteArray} (h : 20 ≤ s.size) {p src dst : Int} (hs : Ps.U32 src) (hd : Ps.U32 dst) (hl : 1 ≤ got s 8 1) : (routS s p src dst).size = s.size := by
 have z := (rout_size h hs hd hl).2
 have c0 := Ck.sum_lo ((rout3 s src dst).extract 0 p.toNat).data.toList
 have c1 := Ck.sum_hi ((rout3 s src dst).extract 0 p.toNat).data.toList
 unfold routS
 generalize Ck.sum ((rout3 s src dst).extract 0 p.toNat).data.toList = K at *
 have z3 : (set (rout3 s src dst) 10 2 (65535 - K)).size = (rout3 s src dst).size := set_size' 10 2 (by decide) (by omega) (by omega) (lt2 (by omega) (by omega))
 omega
theorem routS_list {s : ByteArray} (h : 20 ≤ s.size) {src dst : Int} (hs : Ps.U32 src) (hd : Ps.U32 dst) (hl : 1 ≤ got s 8 1) (p : Int) : (routS s p src dst).data.toList = routL s.data.toList p.toNat (got s 8 1 - 1).toNat src.toNat dst.toNat := by
 have g := got1_rng s 8
 obtain ⟨z1, -⟩ := rout_size h hs hd hl
 have l1 : (rout1 s).data.toList = Oct.put s.data.toList 8 1 (got s 8 1 - 1).toNat := set_list 8 1 (by decide) (by omega) (by omega) (lt1 (by omega) (by omega))
 have l2 := addrS_list (s := rout1 s) (by omega) hs hd
 have z2 := addrS_size (s := rout1 s) (by omega) hs hd
 rw [l1] at l2
 unfold routS routL rout3 routL0
 rw [← l2]
 generalize addrS (rout1 s) src dst = Y at *
 have h2 : (set Y 10 2 0).data.toList = Oct.put Y.data.toList 10 2 0 := set_list 10 2 (by decide) (by omega) (Int.le_refl 0) (by decide)
 have z3 : (set Y 10 2 0).size = Y.size := set_size' 10 2 (by decide) (by omega) (Int.le_refl 0) (by decide)
 rw [← h2]
 generalize set Y 10 2 0 = Z at *
 have ex : (Z.extract 0 p.toNat).data.toList = Z.data.toList.take p.toNat := by rw [Oct.ext_list, List.drop_zero]
 rw [ex]
 have c0 := Ck.sum_lo (Z.data.toList.take p.toNat)
 have c1 := Ck.sum_hi (Z.data.toList.take p.toNat)
 generalize Ck.sum (Z.data.toList.take p.toNat) = K at *
 exact set_list 10 2 (by decide) (by omega) (by omega) (lt2 (by omega) (by omega))
set_option maxRecDepth 100000 in
set_option maxHeartbeats 2000000 in
theorem router_any (s : ByteArray) (p src dst : Int) (w : World) (h : 20 ≤ s.size) (hs : s.size ≤ 100000) (hp0 : 20 ≤ p) (hp1 : p ≤ s.size) (hS : Ps.U32 src) (hD : Ps.U32 dst) (hl : 1 ≤ got s 8 1) :
  Calls Tryz.prog 26 #[.string s, .int .i64 p, .int .u32 src, .int .u32 dst] w fun e w' => e = .returned (.string (routS s p src dst)) ∧ Below w.heap.size w w' := by
 obtain ⟨z1, z3⟩ := rout_size h hS hD hl
 have g := got1_rng s 8
 have k1 : IntKind.i64.wrap src = src := Oct.wraps_i64 _ hS.1 (by have := hS.2; omega)
 have k2 : IntKind.i64.wrap dst = dst := Oct.wraps_i64 _ hD.1 (by have := hD.2; omega)
 have HN := hide (fun u => rnum_any s 8 1 u (by omega))
 have H1 := hide (fun u => rwith_any s 8 1 (got s 8 1 - 1) u (by omega))
 have H2 := hide (fun u => rwith_any (rout1 s) 12 4 src u (by omega))
 have z2 : (set (rout1 s) 12 4 src).size ≤ s.size := Nat.le_trans (set_le _ _ _ _) (by omega)
 have H3 := hide (fun u => rwith_any (set (rout1 s) 12 4 src) 16 4 dst u (by omega))
 have z4 := addrS_le (rout1 s) src dst
 have H4 := hide (fun u => rwith_any (addrS (rout1 s) src dst) 10 2 0 u (by omega))
 have HC := hide (fun u => rcheck_any ((rout3 s src dst).extract 0 p.toNat) u (by rw [ByteArray.size_extract]; omega))
 obtain ⟨K, hK⟩ : ∃ K : Int, 65535 - Ck.sum ((rout3 s src dst).extract 0 p.toNat).data.toList = K := ⟨_, rfl⟩
 have q0 : 0 ≤ K := by have := Ck.sum_hi ((rout3 s src dst).extract 0 p.toNat).data.toList; omega
 have q1 : K ≤ 65535 := by have := Ck.sum_lo ((rout3 s src dst).extract 0 p.toNat).data.toList; omega
 have HO : Hid (set (rout3 s src dst) 10 2 K = routS s p src dst) := by rw [← hK]; rfl
 rw [hK] at HC
 have H5 := hide (fun u => rwith_any (rout3 s src dst) 10 2 K u (by omega))
 rw [HO.out] at H5
 rw [show set s 8 1 (got s 8 1 - 1) = rout1 s from rfl] at H1
 rw [show set (set (rout1 s) 12 4 src) 16 4 dst = addrS (rout1 s) src dst from rfl] at H3
 rw [show set (addrS (rout1 s) src dst) 10 2 0 = rout3 s src dst from rfl] at H4
 have kw : IntKind.i64.wrap K = K := Oct.wraps_i64 _ q0 (by omega)
 have zz : ((rout3 s src dst).size : Int) = s.size := by omega
 clear hK HO z4 z2
 obtain ⟨X, hX⟩ : ∃ X, (rout3 s src dst).extract 0 p.toNat = X := ⟨_, rfl⟩
 rw [hX] at HC
 generalize routS s p src dst = O at *
 generalize rout3 s src dst = R3 at *
 generalize addrS (rout1 s) src dst = R2 at *
 generalize set (rout1 s) 12 4 src = RA at *
 generalize rout1 s = R1 at *
 generalize got s 8 1 = G at *
 have p0 : 0 ≤ p := by omega
 go_enter Tryz.func26, Tryz.ntmps26
 have bel := Below.refl w.heap.size w
 go_wp2_with fail
 refine (unhide HN _).mono ?_
 rintro e v1 ⟨rfl, hb⟩
 replace bel := Below.then bel hb
 clear hb
 go_wp2_with fail
 refine (unhide H1 _).mono ?_
 rintro e v2 ⟨rfl, hb⟩
 replace bel := Below.then bel hb
 clear hb
 go_wp2_with fail
 refine (unhide H2 _).mono ?_
 rintro e v3 ⟨rfl, hb⟩
 replace bel := Below.then bel hb
 clear hb
 go_wp2_with fail
 refine (unhide H3 _).mono ?_
 rintro e v4 ⟨rfl, hb⟩
 replace bel := Below.then bel hb
 clear hb
 go_wp2_with fail
 refine (unhide H4 _).mono ?_
 rintro e v5 ⟨rfl, hb⟩
 replace bel := Below.then bel hb
 clear hb
 go_wp2_with fail
 refine (unhide HC _).mono ?_
 rintro e v6 ⟨rfl, hb⟩
 replace bel := Below.then bel hb
 clear hb
 go_wp2_with fail
 refine (unhide H5 _).mono ?_
 rintro e v7 ⟨rfl, hb⟩
 replace bel := Below.then bel hb
 clear hb
 go_wp2_with fail
 go_ret
 exact ⟨rfl, bel⟩

/-- The outer header as both make it. -/
theorem rhead_eq {s : ByteArray} (t : Told s) (hl : 2 ≤ (clsP s).ttl) {src dst : Int} (hs : Ps.U32 src) (hd : Ps.U32 dst) :
  (routS (s.extract 0 (clsP s).total.toNat) (clsP s).pos src dst).data.toList = (outerS (s.extract 0 (clsP s).pos.toNat) ((clsP s).ttl - 1) src dst).data.toList ++ (s.extract (clsP s).pos.toNat (clsP s).total.toNat).data.toList ∧
   (outerS (s.extract 0 (clsP s).pos.toNat) ((clsP s).ttl - 1) src dst).data.toList.length = (clsP s).pos.toNat := by
 obtain ⟨p0, p1, p2, p3, p4, p5⟩ := t.at_
 have hgt : got (s.extract 0 (clsP s).total.toNat) 8 1 = (clsP s).ttl := by
  rw [t.ttl]
  have h1 : (s.extract 0 (clsP s).total.toNat).size = (clsP s).total.toNat := by rw [ByteArray.size_extract]; omega
  have e1 : got (s.extract 0 (clsP s).total.toNat) 8 1 = Oct.num (((s.extract 0 (clsP s).total.toNat).data.toList.drop 8).take 1) := Ic.got_of (p := 8) (k := 1) (by decide) (by omega)
  have e2 : got s 8 1 = Oct.num ((s.data.toList.drop 8).take 1) := Ic.got_of (p := 8) (k := 1) (by decide) (by omega)
  rw [e1, e2, Oct.ext_list, List.drop_zero, List.drop_take, List.take_take, Nat.min_eq_left (by omega)]
 have z : (s.extract 0 (clsP s).total.toNat).size = (clsP s).total.toNat := by rw [ByteArray.size_extract]; omega
 have zp : (s.extract 0 (clsP s).pos.toNat).size = (clsP s).pos.toNat := by rw [ByteArray.size_extract]; omega
 have hl1 := routS_list (s := s.extract 0 (clsP s).total.toNat) (by omega) hs hd (by rw [hgt]; omega) (clsP s).pos
 have hl2 := outerS_list (s := s.extract 0 (clsP s).pos.toNat) (by omega) (ttl := (clsP s).ttl - 1) (by omega) hs hd
 have hlen : (s.extract 0 (clsP s).pos.toNat).data.toList.length = (clsP s).pos.toNat := by rw [Oct.len_eq]; exact zp
 have v := h20_of (s.extract 0 (clsP s).pos.toNat).data.toList (by omega)
 have v' := (v.out ((clsP s).ttl - 1).toNat src.toNat dst.toNat).size
 have v0 := v.size
 constructor
 ·rw [hl1, hgt, routL_eq _ _ _ _ _ (by omega) (by rw [Oct.len_eq]; omega), hl2]
  have e1 : (s.extract 0 (clsP s).total.toNat).data.toList.take (clsP s).pos.toNat = (s.extract 0 (clsP s).pos.toNat).data.toList := by
   rw [Oct.ext_list, Oct.ext_list, List.drop_zero, List.drop_zero, List.take_take, Nat.min_eq_left (by omega)]
  have e2 : (s.extract 0 (clsP s).total.toNat).data.toList.drop (clsP s).pos.toNat = (s.extract (clsP s).pos.toNat (clsP s).total.toNat).data.toList := by
   rw [Oct.ext_list, Oct.ext_list, List.drop_zero]
  rw [e1, e2]
 ·rw [hl2, v', ← v0]; exact hlen
end Go.Proofs.YtpjaajeojiaeiaaGreatDoor
