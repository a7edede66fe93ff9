/- What ref of the law's package answers. -/
import Derived.Test.YtpjaajeojiaeiaaGreatDoorPpB
import Derived.Test.YtpjaajeojiaeiaaGreatDoorPpReady
namespace Go.Proofs.YtpjaajeojiaeiaaGreatDoor
open Go.ChangeShapes Go.WideShapes Go.ChangeAt Go.RowKit

set_option maxRecDepth 100000 in
set_option maxHeartbeats 1000000 in
theorem lref_any (t : En) (w : World) :
    Calls Tryz.prog 15 #[t.val] w fun e w' => e = .returned t.val ∧ Below w.heap.size w w' := by
  have bel := Below.then (alloc_on' w (.cells t.cells.toArray 27)) (alloc_on' _ (.cells t.cells.toArray 36))
  go_enter Tryz.func15, Tryz.ntmps15
  go_wp2
  exact bodyPost_ret (v := t.val) (by simp [results, Tryz.results15, go_sem]) rfl ⟨rfl, bel⟩
end Go.Proofs.YtpjaajeojiaeiaaGreatDoor

/- What with, num, outer and Plain of the reference of chapter 10 answer: what the program's answer. -/
namespace Go.Proofs.YtpjaajeojiaeiaaGreatDoor
open Go.ChangeShapes Go.WideShapes Go.ChangeAt Go.RowKit

set_option maxHeartbeats 1000000 in
theorem rwith_any (s : ByteArray) (p k n : Int) (w : World) (hs : s.size ≤ 281474976710656) :
    Calls Tryz.prog 27 #[.string s, .int .i64 p, .int .i64 k, .int .i64 n] w fun e w' => e = .returned (.string (set s p k n)) ∧ Below w.heap.size w w' := by
  have HS := hide (fun u => rset_any s p k n u (by unfold maxLen; omega))
  generalize set s p k n = X at *
  generalize setB s p k n = B at *
  go_enter Tryz.func27, Tryz.ntmps27
  go_wp2_with fail
  refine (unhide HS _).mono ?_
  rintro e w1 ⟨rfl, hb⟩
  have HB := hide hb
  clear hb
  go_wp2_with fail
  go_ret
  exact ⟨rfl, unhide HB⟩
set_option maxHeartbeats 1000000 in
theorem rnum_any (s : ByteArray) (p k : Int) (w : World) (hs : s.size ≤ 281474976710656) :
    Calls Tryz.prog 28 #[.string s, .int .i64 p, .int .i64 k] w fun e w' => e = .returned (.int .i64 (got s p k)) ∧ Below w.heap.size w w' := by
  have HS := hide (fun u => rget_any s p k u (by unfold maxLen; omega))
  generalize got s p k = X at *
  generalize gotB s p k = B at *
  go_enter Tryz.func28, Tryz.ntmps28
  go_wp2_with fail
  refine (unhide HS _).mono ?_
  rintro e w1 ⟨rfl, rfl⟩
  go_wp2_with fail
  go_ret
  exact ⟨rfl, Below.refl _ _⟩

/-- A whole packet with another outer header, as the reference makes it. -/
def rout1 (s : ByteArray) : ByteArray := set s 8 1 (got s 8 1 - 1)
def rout3 (s : ByteArray) (src dst : Int) : ByteArray := set (addrS (rout1 s) src dst) 10 2 0
def routS (s : ByteArray) (p : Int) (src dst : Int) : ByteArray := set (rout3 s src dst) 10 2 (65535 - Ck.sum ((rout3 s src dst).extract 0 p.toNat).data.toList)
theorem rout_size {s : ByteArray} (h : 20 ≤ s.size) {src dst : Int} (hs : Ps.U32 src) (hd : Ps.U32 dst) (hl : 1 ≤ got s 8 1) : (rout1 s).size = s.size ∧ (rout3 s src dst).size = s.size := by
  have g := got1_rng s 8
  have z1 : (rout1 s).size = s.size := set_size' 8 1 (by decide) (by omega) (by omega) (lt1 (by omega) (by omega))
  have z2 := addrS_size (s := rout1 s) (by omega) hs hd
  have z3 : (rout3 s src dst).size = (addrS (rout1 s) src dst).size := set_size' 10 2 (by decide) (by omega) (Int.le_refl 0) (by decide)
  omega
theorem routS_size {s : ByteArray} (h : 20 ≤ s.size) {p src dst : Int} (hs : Ps.U32 src) (hd : Ps.U32 dst) (hl : 1 ≤ got s 8 1) : (routS s p src dst).size = s.size := by
  have z := (rout_size h hs hd hl).2
  have c0 := Ck.sum_lo ((rout3 s src dst).extract 0 p.toNat).data.toList
  have c1 := Ck.sum_hi ((rout3 s src dst).extract 0 p.toNat).data.toList
  unfold routS
  generalize Ck.sum ((rout3 s src dst).extract 0 p.toNat).data.toList = K at *
  have z3 : (set (rout3 s src dst) 10 2 (65535 - K)).size = (rout3 s src dst).size := set_size' 10 2 (by decide) (by omega) (by omega) (lt2 (by omega) (by omega))
  omega
theorem routS_list {s : ByteArray} (h : 20 ≤ s.size) {src dst : Int} (hs : Ps.U32 src) (hd : Ps.U32 dst) (hl : 1 ≤ got s 8 1) (p : Int) : (routS s p src dst).data.toList = routL s.data.toList p.toNat (got s 8 1 - 1).toNat src.toNat dst.toNat := by
  have g := got1_rng s 8
  obtain ⟨z1, -⟩ := rout_size h hs hd hl
  have l1 : (rout1 s).data.toList = Oct.put s.data.toList 8 1 (got s 8 1 - 1).toNat := set_list 8 1 (by decide) (by omega) (by omega) (lt1 (by omega) (by omega))
  have l2 := addrS_list (s := rout1 s) (by omega) hs hd
  have z2 := addrS_size (s := rout1 s) (by omega) hs hd
  rw [l1] at l2
  unfold routS routL rout3 routL0
  rw [← l2]
  generalize addrS (rout1 s) src dst = Y at *
  have h2 : (set Y 10 2 0).data.toList = Oct.put Y.data.toList 10 2 0 := set_list 10 2 (by decide) (by omega) (Int.le_refl 0) (by decide)
  have z3 : (set Y 10 2 0).size = Y.size := set_size' 10 2 (by decide) (by omega) (Int.le_refl 0) (by decide)
  rw [← h2]
  generalize set Y 10 2 0 = Z at *
  have ex : (Z.extract 0 p.toNat).data.toList = Z.data.toList.take p.toNat := by rw [Oct.ext_list, List.drop_zero]
  rw [ex]
  have c0 := Ck.sum_lo (Z.data.toList.take p.toNat)
  have c1 := Ck.sum_hi (Z.data.toList.take p.toNat)
  generalize Ck.sum (Z.data.toList.take p.toNat) = K at *
  exact set_list 10 2 (by decide) (by omega) (by omega) (lt2 (by omega) (by omega))
set_option maxRecDepth 100000 in
set_option maxHeartbeats 2000000 in
theorem router_any (s : ByteArray) (p src dst : Int) (w : World) (h : 20 ≤ s.size) (hs : s.size ≤ 100000) (hp0 : 20 ≤ p) (hp1 : p ≤ s.size) (hS : Ps.U32 src) (hD : Ps.U32 dst) (hl : 1 ≤ got s 8 1) :
    Calls Tryz.prog 26 #[.string s, .int .i64 p, .int .u32 src, .int .u32 dst] w fun e w' => e = .returned (.string (routS s p src dst)) ∧ Below w.heap.size w w' := by
  obtain ⟨z1, z3⟩ := rout_size h hS hD hl
  have g := got1_rng s 8
  have k1 : IntKind.i64.wrap src = src := Oct.wraps_i64 _ hS.1 (by have := hS.2; omega)
  have k2 : IntKind.i64.wrap dst = dst := Oct.wraps_i64 _ hD.1 (by have := hD.2; omega)
  have HN := hide (fun u => rnum_any s 8 1 u (by omega))
  have H1 := hide (fun u => rwith_any s 8 1 (got s 8 1 - 1) u (by omega))
  have H2 := hide (fun u => rwith_any (rout1 s) 12 4 src u (by omega))
  have z2 : (set (rout1 s) 12 4 src).size ≤ s.size := Nat.le_trans (set_le _ _ _ _) (by omega)
  have H3 := hide (fun u => rwith_any (set (rout1 s) 12 4 src) 16 4 dst u (by omega))
  have z4 := addrS_le (rout1 s) src dst
  have H4 := hide (fun u => rwith_any (addrS (rout1 s) src dst) 10 2 0 u (by omega))
  have HC := hide (fun u => rcheck_any ((rout3 s src dst).extract 0 p.toNat) u (by rw [ByteArray.size_extract]; omega))
  obtain ⟨K, hK⟩ : ∃ K : Int, 65535 - Ck.sum ((rout3 s src dst).extract 0 p.toNat).data.toList = K := ⟨_, rfl⟩
  have q0 : 0 ≤ K := by have := Ck.sum_hi ((rout3 s src dst).extract 0 p.toNat).data.toList; omega
  have q1 : K ≤ 65535 := by have := Ck.sum_lo ((rout3 s src dst).extract 0 p.toNat).data.toList; omega
  have HO : Hid (set (rout3 s src dst) 10 2 K = routS s p src dst) := by rw [← hK]; rfl
  rw [hK] at HC
  have H5 := hide (fun u => rwith_any (rout3 s src dst) 10 2 K u (by omega))
  rw [HO.out] at H5
  rw [show set s 8 1 (got s 8 1 - 1) = rout1 s from rfl] at H1
  rw [show set (set (rout1 s) 12 4 src) 16 4 dst = addrS (rout1 s) src dst from rfl] at H3
  rw [show set (addrS (rout1 s) src dst) 10 2 0 = rout3 s src dst from rfl] at H4
  have kw : IntKind.i64.wrap K = K := Oct.wraps_i64 _ q0 (by omega)
  have zz : ((rout3 s src dst).size : Int) = s.size := by omega
  clear hK HO z4 z2
  obtain ⟨X, hX⟩ : ∃ X, (rout3 s src dst).extract 0 p.toNat = X := ⟨_, rfl⟩
  rw [hX] at HC
  generalize routS s p src dst = O at *
  generalize rout3 s src dst = R3 at *
  generalize addrS (rout1 s) src dst = R2 at *
  generalize set (rout1 s) 12 4 src = RA at *
  generalize rout1 s = R1 at *
  generalize got s 8 1 = G at *
  have p0 : 0 ≤ p := by omega
  go_enter Tryz.func26, Tryz.ntmps26
  have bel := Below.refl w.heap.size w
  go_wp2_with fail
  refine (unhide HN _).mono ?_
  rintro e v1 ⟨rfl, hb⟩
  replace bel := Below.then bel hb
  clear hb
  go_wp2_with fail
  refine (unhide H1 _).mono ?_
  rintro e v2 ⟨rfl, hb⟩
  replace bel := Below.then bel hb
  clear hb
  go_wp2_with fail
  refine (unhide H2 _).mono ?_
  rintro e v3 ⟨rfl, hb⟩
  replace bel := Below.then bel hb
  clear hb
  go_wp2_with fail
  refine (unhide H3 _).mono ?_
  rintro e v4 ⟨rfl, hb⟩
  replace bel := Below.then bel hb
  clear hb
  go_wp2_with fail
  refine (unhide H4 _).mono ?_
  rintro e v5 ⟨rfl, hb⟩
  replace bel := Below.then bel hb
  clear hb
  go_wp2_with fail
  refine (unhide HC _).mono ?_
  rintro e v6 ⟨rfl, hb⟩
  replace bel := Below.then bel hb
  clear hb
  go_wp2_with fail
  refine (unhide H5 _).mono ?_
  rintro e v7 ⟨rfl, hb⟩
  replace bel := Below.then bel hb
  clear hb
  go_wp2_with fail
  go_ret
  exact ⟨rfl, bel⟩

/-- The outer header as both make it. -/
theorem rhead_eq {s : ByteArray} (t : Told s) (hl : 2 ≤ (clsP s).ttl) {src dst : Int} (hs : Ps.U32 src) (hd : Ps.U32 dst) :
    (routS (s.extract 0 (clsP s).total.toNat) (clsP s).pos src dst).data.toList = (outerS (s.extract 0 (clsP s).pos.toNat) ((clsP s).ttl - 1) src dst).data.toList ++ (s.extract (clsP s).pos.toNat (clsP s).total.toNat).data.toList ∧
      (outerS (s.extract 0 (clsP s).pos.toNat) ((clsP s).ttl - 1) src dst).data.toList.length = (clsP s).pos.toNat := by
  obtain ⟨p0, p1, p2, p3, p4, p5⟩ := t.at_
  have hgt : got (s.extract 0 (clsP s).total.toNat) 8 1 = (clsP s).ttl := by
    rw [t.ttl]
    have h1 : (s.extract 0 (clsP s).total.toNat).size = (clsP s).total.toNat := by rw [ByteArray.size_extract]; omega
    have e1 : got (s.extract 0 (clsP s).total.toNat) 8 1 = Oct.num (((s.extract 0 (clsP s).total.toNat).data.toList.drop 8).take 1) := Ic.got_of (p := 8) (k := 1) (by decide) (by omega)
    have e2 : got s 8 1 = Oct.num ((s.data.toList.drop 8).take 1) := Ic.got_of (p := 8) (k := 1) (by decide) (by omega)
    rw [e1, e2, Oct.ext_list, List.drop_zero, List.drop_take, List.take_take, Nat.min_eq_left (by omega)]
  have z : (s.extract 0 (clsP s).total.toNat).size = (clsP s).total.toNat := by rw [ByteArray.size_extract]; omega
  have zp : (s.extract 0 (clsP s).pos.toNat).size = (clsP s).pos.toNat := by rw [ByteArray.size_extract]; omega
  have hl1 := routS_list (s := s.extract 0 (clsP s).total.toNat) (by omega) hs hd (by rw [hgt]; omega) (clsP s).pos
  have hl2 := outerS_list (s := s.extract 0 (clsP s).pos.toNat) (by omega) (ttl := (clsP s).ttl - 1) (by omega) hs hd
  have hlen : (s.extract 0 (clsP s).pos.toNat).data.toList.length = (clsP s).pos.toNat := by rw [Oct.len_eq]; exact zp
  have v := h20_of (s.extract 0 (clsP s).pos.toNat).data.toList (by omega)
  have v' := (v.out ((clsP s).ttl - 1).toNat src.toNat dst.toNat).size
  have v0 := v.size
  constructor
  · rw [hl1, hgt, routL_eq _ _ _ _ _ (by omega) (by rw [Oct.len_eq]; omega), hl2]
    have e1 : (s.extract 0 (clsP s).total.toNat).data.toList.take (clsP s).pos.toNat = (s.extract 0 (clsP s).pos.toNat).data.toList := by
      rw [Oct.ext_list, Oct.ext_list, List.drop_zero, List.drop_zero, List.take_take, Nat.min_eq_left (by omega)]
    have e2 : (s.extract 0 (clsP s).total.toNat).data.toList.drop (clsP s).pos.toNat = (s.extract (clsP s).pos.toNat (clsP s).total.toNat).data.toList := by
      rw [Oct.ext_list, Oct.ext_list, List.drop_zero]
    rw [e1, e2]
  · rw [hl2, v', ← v0]; exact hlen
theorem rplnA {s : ByteArray} (t : Told s) (hl : 2 ≤ (clsP s).ttl) (e : En) (h : Ps.U32 e.src ∧ Ps.U32 e.dst) : (routS (s.extract 0 (clsP s).total.toNat) (clsP s).pos e.src e.dst).extract 0 (clsP s).pos.toNat = plnA s e := by
  obtain ⟨h1, h2⟩ := rhead_eq t hl h.1 h.2
  apply Oct.ba_ext
  unfold plnA
  rw [Oct.ext_list, List.drop_zero, h1]
  exact Ip.take_len h2


set_option maxRecDepth 100000 in
set_option maxHeartbeats 8000000 in
theorem rplain_any (s : ByteArray) (t : En) (w : World) (hs : s.size ≤ 140737488360000) (hT : Ps.U32 t.src ∧ Ps.U32 t.dst) :
    Calls Tryz.prog 14 #[.string s, t.val] w fun e w' => e = .returned (.tuple #[.string (plainS s t), .int .i64 (alwE s 1 t)]) ∧ Below w.heap.size w w' := by
  have HAL := hide (fun u => ready_any s 1 t u hs)
  have re := row_new w t.cells 36
  have bel := alloc_on' w (.cells t.cells.toArray 36)
  by_cases hx : alwE s 1 t = 0
  case neg =>
    have HX := hide (plainS_no hx)
    clear hs hT
    generalize plainS s t = R at *
    generalize alwE s 1 t = x at *
    generalize clsP s = p at *
    have tx : (x != 0) = true := by simpa using hx
    have t0 := re.cell 0 _ rfl
    have t1 := re.cell 1 _ rfl
    have t2 := re.cell 2 _ rfl
    have t3 := re.cell 3 _ rfl
    clear re hx
    go_enter Tryz.func14, Tryz.ntmps14
    go_wp2_with fail
    refine (unhide HAL _).mono ?_
    rintro e w1 ⟨rfl, hb⟩
    have HB := hide (Below.then (Below.then bel hb) (alloc_on' w1 (.cells p.cells.toArray 62)))
    clear hb t0 t1 t2 t3 bel
    go_wp2_with fail
    go_ret2
    exact ⟨ret_si' (unhide HX).symm rfl, unhide HB⟩
  obtain ⟨hc, hk, hQ1, hQ2, hl⟩ := alw_zero hx
  have told := told hc
  obtain ⟨p0, p1, p2, p3, p4, p5⟩ := told.at_
  have hA := rplnA told hl t hT
  have hR := plainS_yes hx
  rw [hx] at HAL
  rw [hx]
  have z1 : (s.extract 0 (clsP s).total.toNat).size = (clsP s).total.toNat := by rw [ByteArray.size_extract]; omega
  have z2 : (s.extract (clsP s).pos.toNat (clsP s).total.toNat).size ≤ 1500 := by rw [ByteArray.size_extract]; omega
  have hgt : 1 ≤ got (s.extract 0 (clsP s).total.toNat) 8 1 := by
    have e1 : got (s.extract 0 (clsP s).total.toNat) 8 1 = Oct.num (((s.extract 0 (clsP s).total.toNat).data.toList.drop 8).take 1) := Ic.got_of (p := 8) (k := 1) (by decide) (by omega)
    have e2 : got s 8 1 = Oct.num ((s.data.toList.drop 8).take 1) := Ic.got_of (p := 8) (k := 1) (by decide) (by omega)
    have e3 : got (s.extract 0 (clsP s).total.toNat) 8 1 = got s 8 1 := by rw [e1, e2, Oct.ext_list, List.drop_zero, List.drop_take, List.take_take, Nat.min_eq_left (by omega)]
    rw [e3, ← told.ttl]; omega
  have HOU := hide (fun u => router_any (s.extract 0 (clsP s).total.toNat) (clsP s).pos t.src t.dst u (by omega) (by omega) p0 (by omega) hT.1 hT.2 hgt)
  have zR := routS_size (s := s.extract 0 (clsP s).total.toNat) (p := (clsP s).pos) (by omega) hT.1 hT.2 hgt
  have zR2 : (clsP s).pos ≤ ((routS (s.extract 0 (clsP s).total.toNat) (clsP s).pos t.src t.dst).size : Int) := by omega
  have HW1 := hide (fun u => rwith_any (s.extract (clsP s).pos.toNat (clsP s).total.toNat) 0 2 t.sport u (by omega))
  have y1 := set_le (s.extract (clsP s).pos.toNat (clsP s).total.toNat) 0 2 t.sport
  have HW2 := hide (fun u => rwith_any (set (s.extract (clsP s).pos.toNat (clsP s).total.toNat) 0 2 t.sport) 2 2 t.dport u (by omega))
  have y2 := portS_le (s.extract (clsP s).pos.toNat (clsP s).total.toNat) t.sport t.dport
  have HN := hide (fun u => rnum_any (portS (s.extract (clsP s).pos.toNat (clsP s).total.toNat) t.sport t.dport) 6 2 u (by omega))
  have HF := hide (fun u => Ps.rpfill_any (clsP s).tup.proto t.src t.dst (portS (s.extract (clsP s).pos.toNat (clsP s).total.toNat) t.sport t.dport) u hT.1 hT.2 (by omega))
  rw [show set (set (s.extract (clsP s).pos.toNat (clsP s).total.toNat) 0 2 t.sport) 2 2 t.dport = portS (s.extract (clsP s).pos.toNat (clsP s).total.toNat) t.sport t.dport from rfl] at HW2
  have hB : plnB s t = if ((clsP s).tup.proto == 17 && (got (portS (s.extract (clsP s).pos.toNat (clsP s).total.toNat) t.sport t.dport) 6 2 == 0)) = true then portS (s.extract (clsP s).pos.toNat (clsP s).total.toNat) t.sport t.dport else Ps.fillS (clsP s).tup.proto t.src t.dst (portS (s.extract (clsP s).pos.toNat (clsP s).total.toNat) t.sport t.dport) := rfl
  have y3 := Ps.fillS_size (clsP s).tup.proto t.src t.dst (portS (s.extract (clsP s).pos.toNat (clsP s).total.toNat) t.sport t.dport)
  have zA : (plnA s t).size ≤ 1500 := by have h := outerS_le (s.extract 0 (clsP s).pos.toNat) ((clsP s).ttl - 1) t.src t.dst; have h2 : (s.extract 0 (clsP s).pos.toNat).size ≤ 1500 := by rw [ByteArray.size_extract]; omega
                                         unfold plnA; omega
  rw [hB] at hR
  have HX := hide hR
  obtain ⟨S, hSx⟩ : ∃ S, s.extract 0 (clsP s).total.toNat = S := ⟨_, rfl⟩
  obtain ⟨M, hM⟩ : ∃ M, s.extract (clsP s).pos.toNat (clsP s).total.toNat = M := ⟨_, rfl⟩
  rw [hSx] at HOU hA zR zR2
  rw [hM] at HW1 HW2 HN HF HX y1 y2 y3 z2
  clear hR hB hs hT hx hc hk hQ1 hQ2 told z1 hgt
  generalize routS S (clsP s).pos t.src t.dst = RO at *
  generalize plnA s t = HD at *
  generalize Ps.fillS (clsP s).tup.proto t.src t.dst (portS M t.sport t.dport) = FS at *
  generalize Ps.fillB (clsP s).tup.proto t.src t.dst (portS M t.sport t.dport) = FB at *
  generalize got (portS M t.sport t.dport) 6 2 = G at *
  generalize portS M t.sport t.dport = B2 at *
  generalize set M 0 2 t.sport = B1 at *
  generalize plainS s t = R at *
  generalize clsP s = p at *
  have q1 : 0 ≤ p.pos := by omega
  have q2 : 0 ≤ p.total := by omega
  have q3 : p.total ≤ s.size := by omega
  have ad1 := Ic.add_run HD B2 (by omega) (by omega)
  have ad2 := Ic.add_run HD FS (by omega) (by omega)
  clear y1 y2 y3 z2 zA zR
  have t0 := re.cell 0 _ rfl
  have t1 := re.cell 1 _ rfl
  have t2 := re.cell 2 _ rfl
  have t3 := re.cell 3 _ rfl
  go_enter Tryz.func14, Tryz.ntmps14
  go_wp2_with fail
  refine (unhide HAL _).mono ?_
  rintro e w1 ⟨rfl, hb⟩
  have n1 := alloc_on' w1 (.cells p.cells.toArray 62)
  have r8 := row_new w1 p.cells 62
  replace re := (re.on' hb).on' n1
  replace bel := Below.then (Below.then bel hb) n1
  clear hb n1 t0 t1 t2 t3
  go_wp2_with fail
  generalize w1.alloc (.cells p.cells.toArray 62) = W1 at *
  generalize w1.heap.size = g at *
  refine wp_region_grow (by kernel_rfl) [.string s, .pointer (some ⟨g, 2, none⟩), .int .i64 p.total, .string S, .pointer (some ⟨g, 1, none⟩), .int .i64 p.pos, .pointer (some ⟨w.heap.size, 0, none⟩), .int .u32 t.src, .pointer (some ⟨w.heap.size, 1, none⟩), .int .u32 t.dst, .string RO, .pointer (some ⟨g, 1, none⟩), .int .i64 p.pos, .string HD, .string HD] (by kernel_rfl) ?op ?fin
  case op =>
    intro i o bx u ho hbel hS
    match i, ho with
    | 0, ho =>
      obtain rfl := Option.some.inj ho
      have d0 : bx.tmps.getD 0 undef = .string s := hS.base 0 (by kernel_rfl)
      refine .inl ⟨rfl, ends_value' (c := .string s) ?_⟩
      simp [execOp, Act.eval, d0]
    | 1, ho =>
      obtain rfl := Option.some.inj ho
      have d6 : bx.tmps.getD 6 undef = .pointer (some ⟨g, 0, none⟩) := hS.base 6 (by kernel_rfl)
      refine .inl ⟨rfl, ends_value' (c := .pointer (some ⟨g, 2, none⟩)) ?_⟩
      simp [Act.eval, d6, go_sem]
    | 2, ho =>
      obtain rfl := Option.some.inj ho
      have d22 : bx.tmps.getD 22 undef = .pointer (some ⟨g, 2, none⟩) := hS.dep 1 22 (by kernel_rfl) (by kernel_rfl)
      have hl := ((r8.on' (pdrew hbel)).cell 2 _ rfl)
      refine .inl ⟨rfl, ends_value' (c := .int .i64 p.total) ?_⟩
      simp [Act.eval, d22, go_sem, hl]
    | 3, ho =>
      obtain rfl := Option.some.inj ho
      have d21 : bx.tmps.getD 21 undef = .string s := hS.dep 0 21 (by kernel_rfl) (by kernel_rfl)
      have d23 : bx.tmps.getD 23 undef = .int .i64 p.total := hS.dep 2 23 (by kernel_rfl) (by kernel_rfl)
      refine .inl ⟨rfl, ends_value' (c := .string S) ?_⟩
      simp [Act.eval, d21, d23, go_sem, hSx, q2, q3]
    | 4, ho =>
      obtain rfl := Option.some.inj ho
      have d6 : bx.tmps.getD 6 undef = .pointer (some ⟨g, 0, none⟩) := hS.base 6 (by kernel_rfl)
      refine .inl ⟨rfl, ends_value' (c := .pointer (some ⟨g, 1, none⟩)) ?_⟩
      simp [Act.eval, d6, go_sem]
    | 5, ho =>
      obtain rfl := Option.some.inj ho
      have d25 : bx.tmps.getD 25 undef = .pointer (some ⟨g, 1, none⟩) := hS.dep 4 25 (by kernel_rfl) (by kernel_rfl)
      have hl := ((r8.on' (pdrew hbel)).cell 1 _ rfl)
      refine .inl ⟨rfl, ends_value' (c := .int .i64 p.pos) ?_⟩
      simp [Act.eval, d25, go_sem, hl]
    | 6, ho =>
      obtain rfl := Option.some.inj ho
      have d3 : bx.tmps.getD 3 undef = .pointer (some ⟨w.heap.size, 0, none⟩) := hS.base 3 (by kernel_rfl)
      refine .inl ⟨rfl, ends_value' (c := .pointer (some ⟨w.heap.size, 0, none⟩)) ?_⟩
      simp [Act.eval, d3, go_sem]
    | 7, ho =>
      obtain rfl := Option.some.inj ho
      have d27 : bx.tmps.getD 27 undef = .pointer (some ⟨w.heap.size, 0, none⟩) := hS.dep 6 27 (by kernel_rfl) (by kernel_rfl)
      have hl := ((re.on' (pdrew hbel)).cell 0 _ rfl)
      refine .inl ⟨rfl, ends_value' (c := .int .u32 t.src) ?_⟩
      simp [Act.eval, d27, go_sem, hl]
    | 8, ho =>
      obtain rfl := Option.some.inj ho
      have d3 : bx.tmps.getD 3 undef = .pointer (some ⟨w.heap.size, 0, none⟩) := hS.base 3 (by kernel_rfl)
      refine .inl ⟨rfl, ends_value' (c := .pointer (some ⟨w.heap.size, 1, none⟩)) ?_⟩
      simp [Act.eval, d3, go_sem]
    | 9, ho =>
      obtain rfl := Option.some.inj ho
      have d29 : bx.tmps.getD 29 undef = .pointer (some ⟨w.heap.size, 1, none⟩) := hS.dep 8 29 (by kernel_rfl) (by kernel_rfl)
      have hl := ((re.on' (pdrew hbel)).cell 1 _ rfl)
      refine .inl ⟨rfl, ends_value' (c := .int .u32 t.dst) ?_⟩
      simp [Act.eval, d29, go_sem, hl]
    | 10, ho =>
      obtain rfl := Option.some.inj ho
      have d24 : bx.tmps.getD 24 undef = .string S := hS.dep 3 24 (by kernel_rfl) (by kernel_rfl)
      have d26 : bx.tmps.getD 26 undef = .int .i64 p.pos := hS.dep 5 26 (by kernel_rfl) (by kernel_rfl)
      have d28 : bx.tmps.getD 28 undef = .int .u32 t.src := hS.dep 7 28 (by kernel_rfl) (by kernel_rfl)
      have d30 : bx.tmps.getD 30 undef = .int .u32 t.dst := hS.dep 9 30 (by kernel_rfl) (by kernel_rfl)
      refine .inl ⟨rfl, ends_call' (c := .string RO) (f := 26) (args := #[.string S, .int .i64 p.pos, .int .u32 t.src, .int .u32 t.dst]) ?_ (unhide HOU u)⟩
      simp [Act.eval, d24, d26, d28, d30, go_sem]
    | 11, ho =>
      obtain rfl := Option.some.inj ho
      have d6 : bx.tmps.getD 6 undef = .pointer (some ⟨g, 0, none⟩) := hS.base 6 (by kernel_rfl)
      refine .inl ⟨rfl, ends_value' (c := .pointer (some ⟨g, 1, none⟩)) ?_⟩
      simp [Act.eval, d6, go_sem]
    | 12, ho =>
      obtain rfl := Option.some.inj ho
      have d32 : bx.tmps.getD 32 undef = .pointer (some ⟨g, 1, none⟩) := hS.dep 11 32 (by kernel_rfl) (by kernel_rfl)
      have hl := ((r8.on' (pdrew hbel)).cell 1 _ rfl)
      refine .inl ⟨rfl, ends_value' (c := .int .i64 p.pos) ?_⟩
      simp [Act.eval, d32, go_sem, hl]
    | 13, ho =>
      obtain rfl := Option.some.inj ho
      have d31 : bx.tmps.getD 31 undef = .string RO := hS.dep 10 31 (by kernel_rfl) (by kernel_rfl)
      have d33 : bx.tmps.getD 33 undef = .int .i64 p.pos := hS.dep 12 33 (by kernel_rfl) (by kernel_rfl)
      refine .inl ⟨rfl, ends_value' (c := .string HD) ?_⟩
      simp [Act.eval, d31, d33, go_sem, hA, q1, zR2]
    | 14, ho =>
      obtain rfl := Option.some.inj ho
      have d34 : bx.tmps.getD 34 undef = .string HD := hS.dep 13 34 (by kernel_rfl) (by kernel_rfl)
      refine .inl ⟨rfl, ends_value' (c := .string HD) ?_⟩
      simp [execOp, Act.eval, d34]
    | n + 15, ho => exact absurd ho (by simp)
  case fin =>
    intro u hbel
    simp [putAll, dstAt, Act.put]
    replace re := re.on' (pdrew hbel)
    replace r8 := r8.on' (pdrew hbel)
    replace bel := Below.then bel (pdrew hbel)
    clear hbel
    go_wp2_with fail
    refine wp_region_grow (by kernel_rfl) [.string s, .pointer (some ⟨g, 1, none⟩), .int .i64 p.pos, .pointer (some ⟨g, 2, none⟩), .int .i64 p.total, .string M, .pointer (some ⟨w.heap.size, 2, none⟩), .int .i64 t.sport, .string B1, .pointer (some ⟨w.heap.size, 3, none⟩), .int .i64 t.dport, .string B2, .string B2] (by kernel_rfl) ?op ?fin
    case op =>
      intro i o bx u ho hbel hS
      match i, ho with
      | 0, ho =>
        obtain rfl := Option.some.inj ho
        have d0 : bx.tmps.getD 0 undef = .string s := hS.base 0 (by kernel_rfl)
        refine .inl ⟨rfl, ends_value' (c := .string s) ?_⟩
        simp [execOp, Act.eval, d0]
      | 1, ho =>
        obtain rfl := Option.some.inj ho
        have d6 : bx.tmps.getD 6 undef = .pointer (some ⟨g, 0, none⟩) := hS.base 6 (by kernel_rfl)
        refine .inl ⟨rfl, ends_value' (c := .pointer (some ⟨g, 1, none⟩)) ?_⟩
        simp [Act.eval, d6, go_sem]
      | 2, ho =>
        obtain rfl := Option.some.inj ho
        have d36 : bx.tmps.getD 36 undef = .pointer (some ⟨g, 1, none⟩) := hS.dep 1 36 (by kernel_rfl) (by kernel_rfl)
        have hl := ((r8.on' (pdrew hbel)).cell 1 _ rfl)
        refine .inl ⟨rfl, ends_value' (c := .int .i64 p.pos) ?_⟩
        simp [Act.eval, d36, go_sem, hl]
      | 3, ho =>
        obtain rfl := Option.some.inj ho
        have d6 : bx.tmps.getD 6 undef = .pointer (some ⟨g, 0, none⟩) := hS.base 6 (by kernel_rfl)
        refine .inl ⟨rfl, ends_value' (c := .pointer (some ⟨g, 2, none⟩)) ?_⟩
        simp [Act.eval, d6, go_sem]
      | 4, ho =>
        obtain rfl := Option.some.inj ho
        have d38 : bx.tmps.getD 38 undef = .pointer (some ⟨g, 2, none⟩) := hS.dep 3 38 (by kernel_rfl) (by kernel_rfl)
        have hl := ((r8.on' (pdrew hbel)).cell 2 _ rfl)
        refine .inl ⟨rfl, ends_value' (c := .int .i64 p.total) ?_⟩
        simp [Act.eval, d38, go_sem, hl]
      | 5, ho =>
        obtain rfl := Option.some.inj ho
        have d35 : bx.tmps.getD 35 undef = .string s := hS.dep 0 35 (by kernel_rfl) (by kernel_rfl)
        have d37 : bx.tmps.getD 37 undef = .int .i64 p.pos := hS.dep 2 37 (by kernel_rfl) (by kernel_rfl)
        have d39 : bx.tmps.getD 39 undef = .int .i64 p.total := hS.dep 4 39 (by kernel_rfl) (by kernel_rfl)
        refine .inl ⟨rfl, ends_value' (c := .string M) ?_⟩
        simp [Act.eval, d35, d37, d39, go_sem, hM, q1, p1, q3]
      | 6, ho =>
        obtain rfl := Option.some.inj ho
        have d3 : bx.tmps.getD 3 undef = .pointer (some ⟨w.heap.size, 0, none⟩) := hS.base 3 (by kernel_rfl)
        refine .inl ⟨rfl, ends_value' (c := .pointer (some ⟨w.heap.size, 2, none⟩)) ?_⟩
        simp [Act.eval, d3, go_sem]
      | 7, ho =>
        obtain rfl := Option.some.inj ho
        have d41 : bx.tmps.getD 41 undef = .pointer (some ⟨w.heap.size, 2, none⟩) := hS.dep 6 41 (by kernel_rfl) (by kernel_rfl)
        have hl := ((re.on' (pdrew hbel)).cell 2 _ rfl)
        refine .inl ⟨rfl, ends_value' (c := .int .i64 t.sport) ?_⟩
        simp [Act.eval, d41, go_sem, hl]
      | 8, ho =>
        obtain rfl := Option.some.inj ho
        have d40 : bx.tmps.getD 40 undef = .string M := hS.dep 5 40 (by kernel_rfl) (by kernel_rfl)
        have d42 : bx.tmps.getD 42 undef = .int .i64 t.sport := hS.dep 7 42 (by kernel_rfl) (by kernel_rfl)
        refine .inl ⟨rfl, ends_call' (c := .string B1) (f := 27) (args := #[.string M, .int .i64 0, .int .i64 2, .int .i64 t.sport]) ?_ (unhide HW1 u)⟩
        simp [Act.eval, d40, d42, go_sem]
      | 9, ho =>
        obtain rfl := Option.some.inj ho
        have d3 : bx.tmps.getD 3 undef = .pointer (some ⟨w.heap.size, 0, none⟩) := hS.base 3 (by kernel_rfl)
        refine .inl ⟨rfl, ends_value' (c := .pointer (some ⟨w.heap.size, 3, none⟩)) ?_⟩
        simp [Act.eval, d3, go_sem]
      | 10, ho =>
        obtain rfl := Option.some.inj ho
        have d44 : bx.tmps.getD 44 undef = .pointer (some ⟨w.heap.size, 3, none⟩) := hS.dep 9 44 (by kernel_rfl) (by kernel_rfl)
        have hl := ((re.on' (pdrew hbel)).cell 3 _ rfl)
        refine .inl ⟨rfl, ends_value' (c := .int .i64 t.dport) ?_⟩
        simp [Act.eval, d44, go_sem, hl]
      | 11, ho =>
        obtain rfl := Option.some.inj ho
        have d43 : bx.tmps.getD 43 undef = .string B1 := hS.dep 8 43 (by kernel_rfl) (by kernel_rfl)
        have d45 : bx.tmps.getD 45 undef = .int .i64 t.dport := hS.dep 10 45 (by kernel_rfl) (by kernel_rfl)
        refine .inl ⟨rfl, ends_call' (c := .string B2) (f := 27) (args := #[.string B1, .int .i64 2, .int .i64 2, .int .i64 t.dport]) ?_ (unhide HW2 u)⟩
        simp [Act.eval, d43, d45, go_sem]
      | 12, ho =>
        obtain rfl := Option.some.inj ho
        have d46 : bx.tmps.getD 46 undef = .string B2 := hS.dep 11 46 (by kernel_rfl) (by kernel_rfl)
        refine .inl ⟨rfl, ends_value' (c := .string B2) ?_⟩
        simp [execOp, Act.eval, d46]
      | n + 13, ho => exact absurd ho (by simp)
    case fin =>
      intro u hbel
      simp [putAll, dstAt, Act.put]
      replace re := re.on' (pdrew hbel)
      replace r8 := r8.on' (pdrew hbel)
      replace bel := Below.then bel (pdrew hbel)
      clear hbel
      have c3 := r8.cell 3 _ rfl
      have c0 := re.cell 0 _ rfl
      have c1 := re.cell 1 _ rfl
      by_cases h17 : p.tup.proto = 17
      case neg =>
        have t17 : (p.tup.proto == 17) = false := by simpa using h17
        have hRR : R = HD ++ FS := by rw [unhide HX, t17]; rfl
        replace hRR := hide hRR
        clear h17
        go_wp2_with fail
        refine (unhide HF _).mono ?_
        rintro e u3 ⟨rfl, hb⟩
        replace bel := Below.then bel hb
        clear hb c3 c0 c1 r8 re
        go_wp2_with fail
        go_ret2
        exact ⟨ret_si' (unhide hRR).symm rfl, bel⟩
      have t17 : (p.tup.proto == 17) = true := by simpa using h17
      by_cases h0 : G = 0
      case neg =>
        have tg : (G == 0) = false := by simpa using h0
        have hRR : R = HD ++ FS := by rw [unhide HX, t17, tg]; rfl
        replace hRR := hide hRR
        have H17 := hide h17
        clear h17 h0
        go_wp2_with fail
        refine (unhide HN _).mono ?_
        rintro e u2 ⟨rfl, hb⟩
        replace re := re.on' hb
        replace r8 := r8.on' hb
        replace bel := Below.then bel hb
        clear hb c3 c0 c1
        have c3 := r8.cell 3 _ rfl
        have c0 := re.cell 0 _ rfl
        have c1 := re.cell 1 _ rfl
        go_wp2_with fail
        refine (unhide HF _).mono ?_
        rintro e u3 ⟨rfl, hb⟩
        replace bel := Below.then bel hb
        clear hb c3 c0 c1 r8 re
        go_wp2_with fail
        go_ret2
        exact ⟨ret_si' (unhide hRR).symm rfl, bel⟩
      have tg : (G == 0) = true := by simpa using h0
      have hRR : R = HD ++ B2 := by rw [unhide HX, t17, tg]; rfl
      replace hRR := hide hRR
      have H17 := hide h17
      have H0 := hide h0
      clear h17 h0
      go_wp2_with fail
      refine (unhide HN _).mono ?_
      rintro e u2 ⟨rfl, hb⟩
      replace bel := Below.then bel hb
      clear hb c3 c0 c1 r8 re
      go_wp2_with fail
      go_ret2
      exact ⟨ret_si' (unhide hRR).symm rfl, bel⟩
end Go.Proofs.YtpjaajeojiaeiaaGreatDoor
