/- What on and About of the reference of chapter 10 answer: what the program's About answers. -/
import Derived.Test.YtpjaajeojiaeiaaGreatDoorPpE
namespace Go.Proofs.YtpjaajeojiaeiaaGreatDoor
open Go.ChangeShapes Go.WideShapes Go.ChangeAt Go.RowKit
set_option linter.unusedVariables false

set_option maxRecDepth 100000 in
set_option maxHeartbeats 1000000 in
theorem ron_any (c : Int) (was : Tp) (t : En) (w : World) (h0 : 0 ≤ c) (h1 : c ≤ 65535) (hA : Ps.U32 was.src ∧ Ps.U32 was.dst) (hT : Ps.U32 t.src ∧ Ps.U32 t.dst) :
  Calls Tryz.prog 31 #[.int .i64 c, was.val, t.val] w fun e w' => e = .returned (.int .i64 (onA was t c)) ∧ Below w.heap.size w w' := by
 have a0 := adrF_rng was.src t.src c
 have H1 := hide (fun u => rupdate32_any c was.src t.src u h0 h1 hA.1.1 hA.1.2 hT.1.1 hT.1.2)
 have H2 := hide (fun u => rupdate32_any (adrF was.src t.src c) was.dst t.dst u a0.1 a0.2 hA.2.1 hA.2.2 hT.2.1 hT.2.2)
 have E1 : Hid (Ck.upd (Ck.upd c (was.src / 65536) (t.src / 65536)) (was.src % 65536) (t.src % 65536) = adrF was.src t.src c) := rfl
 rw [E1.out] at H1
 have E2 : Hid (Ck.upd (Ck.upd (adrF was.src t.src c) (was.dst / 65536) (t.dst / 65536)) (was.dst % 65536) (t.dst % 65536) = onA was t c) := rfl
 rw [E2.out] at H2
 have r0 := onA_rng was t c
 have k1 : IntKind.u16.wrap c = c := by rw [Ck.wrap_u16]; omega
 have k2 : IntKind.i64.wrap (onA was t c) = onA was t c := Oct.wraps_i64 _ r0.1 (by omega)
 clear E1 E2 a0 r0
 generalize onA was t c = O at *
 generalize adrF was.src t.src c = A at *
 have rt := (row_new w was.cells 43).on' (alloc_on' _ (.cells t.cells.toArray 36))
 have bel := Below.then (alloc_on' w (.cells was.cells.toArray 43)) (alloc_on' _ (.cells t.cells.toArray 36))
 go_enter Tryz.func31, Tryz.ntmps31
 go_wp2_with fail
 refine (unhide H1 _).mono ?_
 rintro e w1 ⟨rfl, rfl⟩
 go_wp2_with fail
 refine (unhide H2 _).mono ?_
 rintro e w2 ⟨rfl, rfl⟩
 go_wp2_with fail
 go_ret
 exact ⟨rfl, bel⟩
theorem rupd_any (c o n : Int) (w : World) (c0 : 0 ≤ c ∧ c ≤ 65535) (o0 : 0 ≤ o ∧ o ≤ 65535) (n0 : 0 ≤ n ∧ n ≤ 65535) :
  Calls Tryz.prog 34 #[.int .u16 c, .int .u16 o, .int .u16 n] w fun e w' => e = .returned (.int .u16 (prtF o n c)) ∧ Below w.heap.size w w' :=
 (rupdate_any c o n w c0.1 c0.2 o0.1 o0.2 n0.1 n0.2).mono fun e w' ⟨he, hw⟩ => ⟨he, by rw [hw]; exact Below.refl _ _⟩
theorem ra_size {s : ByteArray} (told : Told s) (hk : (clsP s).kind = 2) (hl : 2 ≤ (clsP s).ttl) {src dst : Int} (hs : Ps.U32 src) (hd : Ps.U32 dst) {t : En} (w : t.Wf) :
  (ra6 (ra5 (ra4 (ra3 (ra2 (routS (s.extract 0 (clsP s).total.toNat) (clsP s).pos src dst) (clsP s).quote (clsP s).tup t) (clsP s).quote t) ((clsP s).inner + Ps.plc (clsP s).tup.proto) (clsP s).tup t) (clsP s).inner t) (clsP s).pos).size = (clsP s).total.toNat := by
 obtain ⟨p0, p1, p2, p3, p4, p5⟩ := told.at_
 obtain ⟨h1, h2⟩ := rhead_eq told hl hs hd
 obtain ⟨a1, a2, a3, a4, a5⟩ := told.about hk
 have hbody : s.extract (clsP s).pos.toNat (clsP s).total.toNat = Ip.parseS s := by rw [told.body, told.pos, told.total]
 have zm : (Ip.parseS s).size = (clsP s).total.toNat - (clsP s).pos.toNat := by rw [← hbody, ByteArray.size_extract]; omega
 rw [hbody] at h1
 obtain ⟨z8, hp⟩ := parse_pos a1
 have hB : (Ic.parseH (Ip.parseS s)).body = (Ip.parseS s).extract 8 (Ip.parseS s).size := by rw [hp]; rfl
 have q6 := a2.lo
 have q7 := a2.hi
 have hproto : (clsP s).tup.proto = 6 ∨ (clsP s).tup.proto = 17 := by rw [a3]; exact a2.proto
 generalize routS (s.extract 0 (clsP s).total.toNat) (clsP s).pos src dst = X1 at *
 generalize outerS (s.extract 0 (clsP s).pos.toNat) ((clsP s).ttl - 1) src dst = HDs at *
 generalize (clsP s).tup = was at *
 generalize (Ic.parseH (Ip.parseS s)).body = B at *
 generalize Ip.parseS s = m at *
 generalize (clsP s).quote = q at *
 generalize (clsP s).inner = inn at *
 generalize (clsP s).pos = pp at *
 generalize (clsP s).total = tt at *
 obtain ⟨P, hP⟩ : ∃ P : Nat, pp = P := ⟨pp.toNat, by omega⟩
 obtain ⟨Z, hZ⟩ : ∃ Z : Nat, qSize B = Z := ⟨(qSize B).toNat, by omega⟩
 have zB : B.size = m.size - 8 := by rw [hB, ByteArray.size_extract]; omega
 have lB := Oct.len_eq B
 have lm := Oct.len_eq m
 have eB : B.data.toList = m.data.toList.drop 8 := by rw [hB, Oct.ext_list, List.take_of_length_le (by omega)]
 have f : Four X1 HDs.data.toList (m.data.toList.take 8) (B.data.toList.take Z) (B.data.toList.drop Z) P Z := by
  refine ⟨?_, by rw [h2, hP, Int.toNat_natCast], by rw [List.length_take]; omega, by rw [List.length_take]; omega⟩
  rw [h1, List.take_append_drop, eB, List.take_append_drop]
 have hR8 : 8 ≤ (B.data.toList.drop Z).length := by rw [List.length_drop]; omega
 obtain ⟨QH', f3, -⟩ := f.head (by omega) (q := q) (by omega) was w
 obtain ⟨QR', f5, l5, -⟩ := f3.rest hR8 (i := inn) (by omega) was hproto w
 have z5 := f5.size
 generalize ra5 (ra4 (ra3 (ra2 X1 q was t) q t) (inn + Ps.plc was.proto) was t) inn t = X5 at *
 have z6 : (ra6 X5 pp).size = X5.size := by unfold ra6; exact set_sz' (P + 2) 2 (by omega) (by decide) (by omega) (Int.le_refl 0) (by decide)
 rw [List.length_drop] at l5
 omega
theorem plc_rng (p : Int) : 0 ≤ Ps.plc p ∧ Ps.plc p ≤ 16 := by
 unfold Ps.plc
 by_cases h6 : p = 6
 ·rw [if_pos h6]; decide
 ·rw [if_neg h6]
  by_cases h17 : p = 17
  ·rw [if_pos h17]; decide
  ·rw [if_neg h17]; decide
theorem ra4_no {X : ByteArray} {p : Int} {was : Tp} {t : En} (h : gotB X p 2 = false) : ra4 X p was t = X := if_neg (by rw [h]; decide)
theorem ra4_none {X : ByteArray} {p : Int} {was : Tp} {t : En} (h : gotB X p 2 = true) (hp : was.proto = 17) (h0 : got X p 2 = 0) : ra4 X p was t = X := by
 have e : ra4 X p was t = set X p 2 (onE was t (got X p 2)) := if_pos h
 rw [e, h0, onE_zero t hp]
 have := set_same h
 rw [h0] at this
 exact this
theorem ra4_yes {X : ByteArray} {p : Int} {was : Tp} {t : En} (h : gotB X p 2 = true) {c : Int} (hc : onE was t (got X p 2) = c) : ra4 X p was t = set X p 2 c := by rw [← hc]; exact if_pos h
theorem onE_tcp {was : Tp} {t : En} {c : Int} (h : ¬ was.proto = 17) : onE was t c = prtF was.dport t.dport (prtF was.sport t.sport (onA was t c)) := by unfold onE; rw [if_neg h]; rfl
theorem onE_udp {was : Tp} {t : En} {c : Int} (h : was.proto = 17) (h0 : ¬ c = 0) (h1 : ¬ prtF was.dport t.dport (prtF was.sport t.sport (onA was t c)) = 0) : onE was t c = prtF was.dport t.dport (prtF was.sport t.sport (onA was t c)) := by
 unfold onE udpF
 rw [if_pos h, if_neg h0]
 exact if_neg h1
theorem onE_full {was : Tp} {t : En} {c : Int} (h : was.proto = 17) (h0 : ¬ c = 0) (h1 : prtF was.dport t.dport (prtF was.sport t.sport (onA was t c)) = 0) : onE was t c = 65535 := by
 unfold onE udpF
 rw [if_pos h, if_neg h0]
 exact if_pos h1
theorem same_ways {b : Bool} {p c : Int} (h : b = false ∨ b = true ∧ p = 17 ∧ c = 0) : b = false ∨ b = true ∧ (p == 17) = true ∧ (c == 0) = true := by
 rcases h with h | ⟨h, h1, h2⟩
 ·exact .inl h
 ·exact .inr ⟨h, by simpa using h1, by simpa using h2⟩
theorem onE_ways {was : Tp} (t : En) {c : Int} (h : ¬ (was.proto = 17 ∧ c = 0)) : ∃ C, onE was t c = C ∧ ((was.proto == 17) = false ∧ prtF was.dport t.dport (prtF was.sport t.sport (onA was t c)) = C ∨ (was.proto == 17) = true ∧ (c == 0) = false ∧ (prtF was.dport t.dport (prtF was.sport t.sport (onA was t c)) == 0) = true ∧ 65535 = C ∨
  (was.proto == 17) = true ∧ (c == 0) = false ∧ (prtF was.dport t.dport (prtF was.sport t.sport (onA was t c)) == 0) = false ∧ prtF was.dport t.dport (prtF was.sport t.sport (onA was t c)) = C) := by
 refine ⟨_, rfl, ?_⟩
 by_cases h17 : was.proto = 17
 ·have h0 : ¬ c = 0 := fun h0 => h ⟨h17, h0⟩
  by_cases h1 : prtF was.dport t.dport (prtF was.sport t.sport (onA was t c)) = 0
  ·exact .inr (.inl ⟨by simpa using h17, by simpa using h0, by simpa using h1, (onE_full h17 h0 h1).symm⟩)
  ·exact .inr (.inr ⟨by simpa using h17, by simpa using h0, by simpa using h1, (onE_udp h17 h0 h1).symm⟩)
 ·exact .inl ⟨by simpa using h17, (onE_tcp h17).symm⟩


set_option maxRecDepth 100000 in
set_option maxHeartbeats 8000000 in
theorem rabout_same (s : ByteArray) (src dst : Int) (t : En) (w : World) (P : Pk) (X1 X2 X3 X4 X5 X6 X7 : ByteArray) (hs : s.size ≤ 140737488360000) (wt : t.Wf) (hS : Ps.U32 src) (hD : Ps.U32 dst)
  (hAL : ∀ u, Calls Tryz.prog 25 #[.string s, .int .i64 2, t.val] u fun e w' => e = .returned (.tuple #[P.val, .int .i64 0]) ∧ Below u.heap.size u w')
  (p0 : 20 ≤ P.pos) (p1 : P.pos ≤ P.total) (p2 : P.total ≤ s.size) (p3 : P.total ≤ 1500) (hA : Ps.U32 P.tup.src ∧ Ps.U32 P.tup.dst) (hP : (0 ≤ P.tup.sport ∧ P.tup.sport ≤ 65535) ∧ (0 ≤ P.tup.dport ∧ P.tup.dport ≤ 65535)) (hq0 : 0 ≤ P.quote) (hq1 : P.quote ≤ 2000) (hi0 : 0 ≤ P.inner) (hi1 : P.inner ≤ 2000)
  (hgt : 1 ≤ got (s.extract 0 P.total.toNat) 8 1) (hX1 : routS (s.extract 0 P.total.toNat) P.pos src dst = X1) (hX2 : ra2 X1 P.quote P.tup t = X2) (hX3 : ra3 X2 P.quote t = X3) (hX4 : ra4 X3 (P.inner + Ps.plc P.tup.proto) P.tup t = X4) (hX5 : ra5 X4 P.inner t = X5) (hX6 : ra6 X5 P.pos = X6) (hX7 : ra7 X6 P.pos = X7) (z6 : X6.size = P.total.toNat) (hW : gotB X3 (P.inner + Ps.plc P.tup.proto) 2 = false ∨ gotB X3 (P.inner + Ps.plc P.tup.proto) 2 = true ∧ P.tup.proto = 17 ∧ got X3 (P.inner + Ps.plc P.tup.proto) 2 = 0) :
  Calls Tryz.prog 17 #[.string s, .int .u32 src, .int .u32 dst, t.val] w fun e w' => e = .returned (.tuple #[.string X7, .int .i64 0]) ∧ Below w.heap.size w w' := by
 have zS : (s.extract 0 P.total.toNat).size = P.total.toNat := by rw [ByteArray.size_extract]; omega
 have HAL := hide hAL
 have HOU := hide (fun u => router_any (s.extract 0 P.total.toNat) P.pos src dst u (by omega) (by omega) p0 (by omega) hS hD hgt)
 rw [hX1] at HOU
 have z1 : X1.size ≤ 1500 := by rw [← hX1, routS_size (by omega) hS hD hgt]; omega
 have HN2 := hide (fun u => rnum_any X1 (P.quote + 10) 2 u (by omega))
 have g2 := got2_rng X1 (P.quote + 10)
 have HO2 := hide (fun u => ron_any (got X1 (P.quote + 10) 2) P.tup t u g2.1 g2.2 hA ⟨wt.src, wt.dst⟩)
 have HW2 := hide (fun u => rwith_any X1 (P.quote + 10) 2 (onA P.tup t (got X1 (P.quote + 10) 2)) u (by omega))
 rw [show set X1 (P.quote + 10) 2 (onA P.tup t (got X1 (P.quote + 10) 2)) = X2 from hX2] at HW2
 have z2 : X2.size ≤ 1500 := by rw [← hX2]; exact Nat.le_trans (set_le _ _ _ _) z1
 have HWa := hide (fun u => rwith_any X2 (P.quote + 12) 4 t.src u (by omega))
 obtain ⟨XA, hXA⟩ : ∃ X, set X2 (P.quote + 12) 4 t.src = X := ⟨_, rfl⟩
 rw [hXA] at HWa
 have zA : XA.size ≤ 1500 := by rw [← hXA]; exact Nat.le_trans (set_le _ _ _ _) z2
 have HW3 := hide (fun u => rwith_any XA (P.quote + 16) 4 t.dst u (by omega))
 rw [show set XA (P.quote + 16) 4 t.dst = X3 by rw [← hXA]; exact hX3] at HW3
 have z3 : X3.size ≤ 1500 := by rw [← hX3]; exact Nat.le_trans (set_le _ _ _ _) (Nat.le_trans (set_le _ _ _ _) z2)
 have HPL := hide (fun u => Ps.rplace_any P.tup.proto u)
 have hpl := plc_rng P.tup.proto
 have HG := hide (fun u => rget_any X3 (P.inner + Ps.plc P.tup.proto) 2 u (by unfold maxLen; omega))
 have g4 := got2_rng X3 (P.inner + Ps.plc P.tup.proto)
 have e34 : X4 = X3 := by
  rw [← hX4]
  rcases hW with h | ⟨h, h17, h0⟩
  ·exact ra4_no h
  ·exact ra4_none h h17 h0
 have hT := same_ways hW
 clear hW
 generalize gotB X3 (P.inner + Ps.plc P.tup.proto) 2 = gb at *
 have HT := hide hT
 clear hT
 have z4 : X4.size ≤ 1500 := by rw [← hX4]; exact Nat.le_trans (goOnS_le _ _ _) z3
 have HWb := hide (fun u => rwith_any X4 P.inner 2 t.sport u (by omega))
 obtain ⟨XB, hXB⟩ : ∃ X, set X4 P.inner 2 t.sport = X := ⟨_, rfl⟩
 rw [hXB] at HWb
 have zB : XB.size ≤ 1500 := by rw [← hXB]; exact Nat.le_trans (set_le _ _ _ _) z4
 have HW5 := hide (fun u => rwith_any XB (P.inner + 2) 2 t.dport u (by omega))
 rw [show set XB (P.inner + 2) 2 t.dport = X5 by rw [← hXB]; exact hX5] at HW5
 have z5 : X5.size ≤ 1500 := by rw [← hX5]; exact Nat.le_trans (set_le _ _ _ _) (Nat.le_trans (set_le _ _ _ _) z4)
 have HW6 := hide (fun u => rwith_any X5 (P.pos + 2) 2 0 u (by omega))
 rw [show set X5 (P.pos + 2) 2 0 = X6 from hX6] at HW6
 have HC := hide (fun u => rcheck_any (X6.extract P.pos.toNat X6.size) u (by rw [ByteArray.size_extract]; omega))
 obtain ⟨K, hK⟩ : ∃ K : Int, 65535 - Ck.sum (X6.extract P.pos.toNat X6.size).data.toList = K := ⟨_, rfl⟩
 have c0 : 0 ≤ K := by have := Ck.sum_hi (X6.extract P.pos.toNat X6.size).data.toList; omega
 have c1 : K ≤ 65535 := by have := Ck.sum_lo (X6.extract P.pos.toNat X6.size).data.toList; omega
 rw [hK] at HC
 have HW7 := hide (fun u => rwith_any X6 (P.pos + 2) 2 K u (by omega))
 rw [show set X6 (P.pos + 2) 2 K = X7 by rw [← hK]; exact hX7] at HW7
 have kK : IntKind.i64.wrap K = K := Oct.wraps_i64 _ c0 (by omega)
 have ks : IntKind.i64.wrap t.src = t.src := Oct.wraps_i64 _ wt.src.1 (by have := wt.src.2; omega)
 have kd : IntKind.i64.wrap t.dst = t.dst := Oct.wraps_i64 _ wt.dst.1 (by have := wt.dst.2; omega)
 have kp : IntKind.i64.wrap (P.pos + 2) = P.pos + 2 := Oct.wraps_i64 _ (by omega) (by omega)
 have kq1 : IntKind.i64.wrap (P.quote + 10) = P.quote + 10 := Oct.wraps_i64 _ (by omega) (by omega)
 have kq2 : IntKind.i64.wrap (P.quote + 12) = P.quote + 12 := Oct.wraps_i64 _ (by omega) (by omega)
 have kq3 : IntKind.i64.wrap (P.quote + 16) = P.quote + 16 := Oct.wraps_i64 _ (by omega) (by omega)
 have ki : IntKind.i64.wrap (P.inner + 2) = P.inner + 2 := Oct.wraps_i64 _ (by omega) (by omega)
 obtain ⟨S, hSx⟩ : ∃ S, s.extract 0 P.total.toNat = S := ⟨_, rfl⟩
 obtain ⟨EX, hEX⟩ : ∃ X, X6.extract P.pos.toNat X6.size = X := ⟨_, rfl⟩
 rw [hSx] at HOU
 rw [hEX] at HC
 have q1 : 0 ≤ P.pos := by omega
 have q2 : 0 ≤ P.total := by omega
 have q4 : P.pos ≤ X6.size := by omega
 have re := row_new w t.cells 36
 have bel := alloc_on' w (.cells t.cells.toArray 36)
 clear hX1 hX2 hX3 hX4 hX5 hX6 hX7 hAL hgt zS hXA hXB hK z1 z2 z3 z4 z5 zA zB g2
 generalize onA P.tup t (got X1 (P.quote + 10) 2) = N2 at *
 generalize got X1 (P.quote + 10) 2 = G2 at *
 generalize got X3 (P.inner + Ps.plc P.tup.proto) 2 = old at *
 generalize hpe : Ps.plc P.tup.proto = pl at *
 clear hpe
 generalize Ps.plcB P.tup.proto = plB at *
 have kat : IntKind.i64.wrap (P.inner + pl) = P.inner + pl := Oct.wraps_i64 _ (by omega) (by omega)
 have t0 := re.cell 0 _ rfl
 have t1 := re.cell 1 _ rfl
 have t2 := re.cell 2 _ rfl
 have t3 := re.cell 3 _ rfl
 go_enter Tryz.func17, Tryz.ntmps17
 go_wp2_with fail
 refine (unhide HAL _).mono ?_
 rintro e w1 ⟨rfl, hb⟩
 have n1 := alloc_on' w1 (.cells P.cells.toArray 62)
 have r8 := row_new w1 P.cells 62
 replace re := (re.on' hb).on' n1
 replace bel := Below.then (Below.then bel hb) n1
 clear hb n1 t0 t1 t2 t3
 go_wp2_with fail
 generalize w1.alloc (.cells P.cells.toArray 62) = W1 at *
 generalize w1.heap.size = g at *
 refine wp_region_turn (by kernel_rfl) [.string s, .pointer (some ⟨g, 2, none⟩), .int .i64 P.total, .string S, .pointer (some ⟨g, 1, none⟩), .int .i64 P.pos, .int .u32 src, .int .u32 dst, .string X1, .string X1] 9 0 (by kernel_rfl) (by kernel_rfl) ?op ?fin
 case op =>
  intro i o bx u ho hbel hS hT0
  match i, ho with
  | 0, ho =>
   obtain rfl := Option.some.inj ho
   have d0 : bx.tmps.getD 0 undef = .string s := hT0 (by kernel_rfl)
   refine .inl ⟨rfl, ends_value' (c := .string s) ?_⟩
   simp [execOp, Act.eval, d0]
  | 1, ho =>
   obtain rfl := Option.some.inj ho
   have d10 : bx.tmps.getD 10 undef = .pointer (some ⟨g, 0, none⟩) := hS.base 10
   refine .inl ⟨rfl, ends_value' (c := .pointer (some ⟨g, 2, none⟩)) ?_⟩
   simp [Act.eval, d10, go_sem]
  | 2, ho =>
   obtain rfl := Option.some.inj ho
   have d30 : bx.tmps.getD 30 undef = .pointer (some ⟨g, 2, none⟩) := hS.dep 1 30
   have hl := ((r8.on' (pdrew hbel)).cell 2 _ rfl)
   refine .inl ⟨rfl, ends_value' (c := .int .i64 P.total) ?_⟩
   simp [Act.eval, d30, go_sem, hl]
  | 3, ho =>
   obtain rfl := Option.some.inj ho
   have d29 : bx.tmps.getD 29 undef = .string s := hS.dep 0 29
   have d31 : bx.tmps.getD 31 undef = .int .i64 P.total := hS.dep 2 31
   refine .inl ⟨rfl, ends_value' (c := .string S) ?_⟩
   simp [Act.eval, d29, d31, go_sem, hSx, q2, p2]
  | 4, ho =>
   obtain rfl := Option.some.inj ho
   have d10 : bx.tmps.getD 10 undef = .pointer (some ⟨g, 0, none⟩) := hS.base 10
   refine .inl ⟨rfl, ends_value' (c := .pointer (some ⟨g, 1, none⟩)) ?_⟩
   simp [Act.eval, d10, go_sem]
  | 5, ho =>
   obtain rfl := Option.some.inj ho
   have d33 : bx.tmps.getD 33 undef = .pointer (some ⟨g, 1, none⟩) := hS.dep 4 33
   have hl := ((r8.on' (pdrew hbel)).cell 1 _ rfl)
   refine .inl ⟨rfl, ends_value' (c := .int .i64 P.pos) ?_⟩
   simp [Act.eval, d33, go_sem, hl]
  | 6, ho =>
   obtain rfl := Option.some.inj ho
   have d1 : bx.tmps.getD 1 undef = .int .u32 src := hS.base 1
   refine .inl ⟨rfl, ends_value' (c := .int .u32 src) ?_⟩
   simp [execOp, Act.eval, d1]
  | 7, ho =>
   obtain rfl := Option.some.inj ho
   have d2 : bx.tmps.getD 2 undef = .int .u32 dst := hS.base 2
   refine .inl ⟨rfl, ends_value' (c := .int .u32 dst) ?_⟩
   simp [execOp, Act.eval, d2]
  | 8, ho =>
   obtain rfl := Option.some.inj ho
   have d32 : bx.tmps.getD 32 undef = .string S := hS.dep 3 32
   have d34 : bx.tmps.getD 34 undef = .int .i64 P.pos := hS.dep 5 34
   have d35 : bx.tmps.getD 35 undef = .int .u32 src := hS.dep 6 35
   have d36 : bx.tmps.getD 36 undef = .int .u32 dst := hS.dep 7 36
   refine .inl ⟨rfl, ends_call' (c := .string X1) (f := 26) (args := #[.string S, .int .i64 P.pos, .int .u32 src, .int .u32 dst]) ?_ (unhide HOU u)⟩
   simp [Act.eval, d32, d34, d35, d36, go_sem]
  | 9, ho =>
   obtain rfl := Option.some.inj ho
   have d37 : bx.tmps.getD 37 undef = .string X1 := hS.dep 8 37
   refine .inl ⟨rfl, ends_value' (c := .string X1) ?_⟩
   simp [execOp, Act.eval, d37]
  | n + 10, ho => exact absurd ho (by simp)
 case fin =>
  intro u hbel
  simp [putAll, dstAt, Act.put]
  replace re := re.on' (pdrew hbel)
  replace r8 := r8.on' (pdrew hbel)
  replace bel := Below.then bel (pdrew hbel)
  clear hbel
  have m12 := r8.cell 12 _ rfl
  go_wp2_with fail
  refine wp_region_turn (by kernel_rfl) [.string X1, .int .i64 P.quote, .int .i64 (P.quote + 10), .string X1, .int .i64 P.quote, .int .i64 (P.quote + 10), .int .i64 G2, .pointer (some ⟨g, 3, none⟩), P.tup.val, t.val, .int .i64 N2, .string X2, .string X2] 12 0 (by kernel_rfl) (by kernel_rfl) ?op ?fin
  case op =>
   intro i o bx u ho hbel hS hT0
   match i, ho with
   | 0, ho =>
    obtain rfl := Option.some.inj ho
    have d0 : bx.tmps.getD 0 undef = .string X1 := hT0 (by kernel_rfl)
    refine .inl ⟨rfl, ends_value' (c := .string X1) ?_⟩
    simp [execOp, Act.eval, d0]
   | 1, ho =>
    obtain rfl := Option.some.inj ho
    have d12 : bx.tmps.getD 12 undef = .int .i64 P.quote := hS.base 12
    refine .inl ⟨rfl, ends_value' (c := .int .i64 P.quote) ?_⟩
    simp [execOp, Act.eval, d12]
   | 2, ho =>
    obtain rfl := Option.some.inj ho
    have d41 : bx.tmps.getD 41 undef = .int .i64 P.quote := hS.dep 1 41
    refine .inl ⟨rfl, ends_value' (c := .int .i64 (P.quote + 10)) ?_⟩
    simp [Act.eval, d41, go_sem, kq1]
   | 3, ho =>
    obtain rfl := Option.some.inj ho
    have d0 : bx.tmps.getD 0 undef = .string X1 := hT0 (by kernel_rfl)
    refine .inl ⟨rfl, ends_value' (c := .string X1) ?_⟩
    simp [execOp, Act.eval, d0]
   | 4, ho =>
    obtain rfl := Option.some.inj ho
    have d12 : bx.tmps.getD 12 undef = .int .i64 P.quote := hS.base 12
    refine .inl ⟨rfl, ends_value' (c := .int .i64 P.quote) ?_⟩
    simp [execOp, Act.eval, d12]
   | 5, ho =>
    obtain rfl := Option.some.inj ho
    have d44 : bx.tmps.getD 44 undef = .int .i64 P.quote := hS.dep 4 44
    refine .inl ⟨rfl, ends_value' (c := .int .i64 (P.quote + 10)) ?_⟩
    simp [Act.eval, d44, go_sem, kq1]
   | 6, ho =>
    obtain rfl := Option.some.inj ho
    have d43 : bx.tmps.getD 43 undef = .string X1 := hS.dep 3 43
    have d45 : bx.tmps.getD 45 undef = .int .i64 (P.quote + 10) := hS.dep 5 45
    refine .inl ⟨rfl, ends_call' (c := .int .i64 G2) (f := 28) (args := #[.string X1, .int .i64 (P.quote + 10), .int .i64 2]) ?_ (unhide HN2 u)⟩
    simp [Act.eval, d43, d45, go_sem]
   | 7, ho =>
    obtain rfl := Option.some.inj ho
    have d10 : bx.tmps.getD 10 undef = .pointer (some ⟨g, 0, none⟩) := hS.base 10
    refine .inl ⟨rfl, ends_value' (c := .pointer (some ⟨g, 3, none⟩)) ?_⟩
    simp [Act.eval, d10, go_sem]
   | 8, ho =>
    obtain rfl := Option.some.inj ho
    have d47 : bx.tmps.getD 47 undef = .pointer (some ⟨g, 3, none⟩) := hS.dep 7 47
    refine .inl ⟨rfl, ends_value' (c := P.tup.val) ?_⟩
    simp [Act.eval, d47, go_sem, ((r8.on' (pdrew hbel)).cell 3 _ rfl), ((r8.on' (pdrew hbel)).cell 4 _ rfl), ((r8.on' (pdrew hbel)).cell 5 _ rfl), ((r8.on' (pdrew hbel)).cell 6 _ rfl), ((r8.on' (pdrew hbel)).cell 7 _ rfl)]
   | 9, ho =>
    obtain rfl := Option.some.inj ho
    have d7 : bx.tmps.getD 7 undef = .pointer (some ⟨w.heap.size, 0, none⟩) := hS.base 7
    refine .inl ⟨rfl, ends_value' (c := t.val) ?_⟩
    simp [Act.eval, d7, go_sem, ((re.on' (pdrew hbel)).cell 0 _ rfl), ((re.on' (pdrew hbel)).cell 1 _ rfl), ((re.on' (pdrew hbel)).cell 2 _ rfl), ((re.on' (pdrew hbel)).cell 3 _ rfl)]
   | 10, ho =>
    obtain rfl := Option.some.inj ho
    have d46 : bx.tmps.getD 46 undef = .int .i64 G2 := hS.dep 6 46
    have d48 : bx.tmps.getD 48 undef = P.tup.val := hS.dep 8 48
    have d49 : bx.tmps.getD 49 undef = t.val := hS.dep 9 49
    refine .inl ⟨rfl, ends_call' (c := .int .i64 N2) (f := 31) (args := #[.int .i64 G2, P.tup.val, t.val]) ?_ (unhide HO2 u)⟩
    simp [Act.eval, d46, d48, d49, go_sem]
   | 11, ho =>
    obtain rfl := Option.some.inj ho
    have d40 : bx.tmps.getD 40 undef = .string X1 := hS.dep 0 40
    have d42 : bx.tmps.getD 42 undef = .int .i64 (P.quote + 10) := hS.dep 2 42
    have d50 : bx.tmps.getD 50 undef = .int .i64 N2 := hS.dep 10 50
    refine .inl ⟨rfl, ends_call' (c := .string X2) (f := 27) (args := #[.string X1, .int .i64 (P.quote + 10), .int .i64 2, .int .i64 N2]) ?_ (unhide HW2 u)⟩
    simp [Act.eval, d40, d42, d50, go_sem]
   | 12, ho =>
    obtain rfl := Option.some.inj ho
    have d51 : bx.tmps.getD 51 undef = .string X2 := hS.dep 11 51
    refine .inl ⟨rfl, ends_value' (c := .string X2) ?_⟩
    simp [execOp, Act.eval, d51]
   | n + 13, ho => exact absurd ho (by simp)
  case fin =>
   intro u hbel
   simp [putAll, dstAt, Act.put]
   replace re := re.on' (pdrew hbel)
   replace r8 := r8.on' (pdrew hbel)
   replace bel := Below.then bel (pdrew hbel)
   clear hbel
   clear m12
   go_wp2_with fail
   refine wp_region_turn (by kernel_rfl) [.string X2, .int .i64 P.quote, .int .i64 (P.quote + 12), .pointer (some ⟨w.heap.size, 0, none⟩), .int .u32 t.src, .int .i64 t.src, .string XA, .int .i64 P.quote, .int .i64 (P.quote + 16), .pointer (some ⟨w.heap.size, 1, none⟩), .int .u32 t.dst, .int .i64 t.dst, .string X3, .string X3] 13 0 (by kernel_rfl) (by kernel_rfl) ?op ?fin
   case op =>
    intro i o bx u ho hbel hS hT0
    match i, ho with
    | 0, ho =>
     obtain rfl := Option.some.inj ho
     have d0 : bx.tmps.getD 0 undef = .string X2 := hT0 (by kernel_rfl)
     refine .inl ⟨rfl, ends_value' (c := .string X2) ?_⟩
     simp [execOp, Act.eval, d0]
    | 1, ho =>
     obtain rfl := Option.some.inj ho
     have d12 : bx.tmps.getD 12 undef = .int .i64 P.quote := hS.base 12
     refine .inl ⟨rfl, ends_value' (c := .int .i64 P.quote) ?_⟩
     simp [execOp, Act.eval, d12]
    | 2, ho =>
     obtain rfl := Option.some.inj ho
     have d53 : bx.tmps.getD 53 undef = .int .i64 P.quote := hS.dep 1 53
     refine .inl ⟨rfl, ends_value' (c := .int .i64 (P.quote + 12)) ?_⟩
     simp [Act.eval, d53, go_sem, kq2]
    | 3, ho =>
     obtain rfl := Option.some.inj ho
     have d7 : bx.tmps.getD 7 undef = .pointer (some ⟨w.heap.size, 0, none⟩) := hS.base 7
     refine .inl ⟨rfl, ends_value' (c := .pointer (some ⟨w.heap.size, 0, none⟩)) ?_⟩
     simp [Act.eval, d7, go_sem]
    | 4, ho =>
     obtain rfl := Option.some.inj ho
     have d55 : bx.tmps.getD 55 undef = .pointer (some ⟨w.heap.size, 0, none⟩) := hS.dep 3 55
     have hl := ((re.on' (pdrew hbel)).cell 0 _ rfl)
     refine .inl ⟨rfl, ends_value' (c := .int .u32 t.src) ?_⟩
     simp [Act.eval, d55, go_sem, hl]
    | 5, ho =>
     obtain rfl := Option.some.inj ho
     have d56 : bx.tmps.getD 56 undef = .int .u32 t.src := hS.dep 4 56
     refine .inl ⟨rfl, ends_value' (c := .int .i64 t.src) ?_⟩
     simp [Act.eval, d56, go_sem, ks]
    | 6, ho =>
     obtain rfl := Option.some.inj ho
     have d52 : bx.tmps.getD 52 undef = .string X2 := hS.dep 0 52
     have d54 : bx.tmps.getD 54 undef = .int .i64 (P.quote + 12) := hS.dep 2 54
     have d57 : bx.tmps.getD 57 undef = .int .i64 t.src := hS.dep 5 57
     refine .inl ⟨rfl, ends_call' (c := .string XA) (f := 27) (args := #[.string X2, .int .i64 (P.quote + 12), .int .i64 4, .int .i64 t.src]) ?_ (unhide HWa u)⟩
     simp [Act.eval, d52, d54, d57, go_sem]
    | 7, ho =>
     obtain rfl := Option.some.inj ho
     have d12 : bx.tmps.getD 12 undef = .int .i64 P.quote := hS.base 12
     refine .inl ⟨rfl, ends_value' (c := .int .i64 P.quote) ?_⟩
     simp [execOp, Act.eval, d12]
    | 8, ho =>
     obtain rfl := Option.some.inj ho
     have d59 : bx.tmps.getD 59 undef = .int .i64 P.quote := hS.dep 7 59
     refine .inl ⟨rfl, ends_value' (c := .int .i64 (P.quote + 16)) ?_⟩
     simp [Act.eval, d59, go_sem, kq3]
    | 9, ho =>
     obtain rfl := Option.some.inj ho
     have d7 : bx.tmps.getD 7 undef = .pointer (some ⟨w.heap.size, 0, none⟩) := hS.base 7
     refine .inl ⟨rfl, ends_value' (c := .pointer (some ⟨w.heap.size, 1, none⟩)) ?_⟩
     simp [Act.eval, d7, go_sem]
    | 10, ho =>
     obtain rfl := Option.some.inj ho
     have d61 : bx.tmps.getD 61 undef = .pointer (some ⟨w.heap.size, 1, none⟩) := hS.dep 9 61
     have hl := ((re.on' (pdrew hbel)).cell 1 _ rfl)
     refine .inl ⟨rfl, ends_value' (c := .int .u32 t.dst) ?_⟩
     simp [Act.eval, d61, go_sem, hl]
    | 11, ho =>
     obtain rfl := Option.some.inj ho
     have d62 : bx.tmps.getD 62 undef = .int .u32 t.dst := hS.dep 10 62
     refine .inl ⟨rfl, ends_value' (c := .int .i64 t.dst) ?_⟩
     simp [Act.eval, d62, go_sem, kd]
    | 12, ho =>
     obtain rfl := Option.some.inj ho
     have d58 : bx.tmps.getD 58 undef = .string XA := hS.dep 6 58
     have d60 : bx.tmps.getD 60 undef = .int .i64 (P.quote + 16) := hS.dep 8 60
     have d63 : bx.tmps.getD 63 undef = .int .i64 t.dst := hS.dep 11 63
     refine .inl ⟨rfl, ends_call' (c := .string X3) (f := 27) (args := #[.string XA, .int .i64 (P.quote + 16), .int .i64 4, .int .i64 t.dst]) ?_ (unhide HW3 u)⟩
     simp [Act.eval, d58, d60, d63, go_sem]
    | 13, ho =>
     obtain rfl := Option.some.inj ho
     have d64 : bx.tmps.getD 64 undef = .string X3 := hS.dep 12 64
     refine .inl ⟨rfl, ends_value' (c := .string X3) ?_⟩
     simp [execOp, Act.eval, d64]
    | n + 14, ho => exact absurd ho (by simp)
   case fin =>
    intro u hbel
    simp [putAll, dstAt, Act.put]
    replace re := re.on' (pdrew hbel)
    replace r8 := r8.on' (pdrew hbel)
    replace bel := Below.then bel (pdrew hbel)
    clear hbel
    rcases unhide HT with rfl | ⟨rfl, t17, told0⟩
    all_goals
     have m3 := r8.cell 3 _ rfl
     have m13 := r8.cell 13 _ rfl
     go_wp2_with fail
     refine (unhide HPL _).mono ?_
     rintro e w2 ⟨rfl, rfl⟩
     go_wp2_with fail
     refine (unhide HG _).mono ?_
     rintro e w3 ⟨rfl, rfl⟩
     go_wp2_with fail
     clear m13 m3
     rw [e34] at HWb
     refine wp_region_turn (by kernel_rfl) [.string X3, .pointer (some ⟨g, 13, none⟩), .int .i64 P.inner, .pointer (some ⟨w.heap.size, 2, none⟩), .int .i64 t.sport, .string XB, .pointer (some ⟨g, 13, none⟩), .int .i64 P.inner, .int .i64 (P.inner + 2), .pointer (some ⟨w.heap.size, 3, none⟩), .int .i64 t.dport, .string X5, .string X5] 12 0 (by kernel_rfl) (by kernel_rfl) ?op ?fin
     case op =>
      intro i o bx u ho hbel hS hT0
      match i, ho with
      | 0, ho =>
       obtain rfl := Option.some.inj ho
       have d0 : bx.tmps.getD 0 undef = .string X3 := hT0 (by kernel_rfl)
       refine .inl ⟨rfl, ends_value' (c := .string X3) ?_⟩
       simp [execOp, Act.eval, d0]
      | 1, ho =>
       obtain rfl := Option.some.inj ho
       have d10 : bx.tmps.getD 10 undef = .pointer (some ⟨g, 0, none⟩) := hS.base 10
       refine .inl ⟨rfl, ends_value' (c := .pointer (some ⟨g, 13, none⟩)) ?_⟩
       simp [Act.eval, d10, go_sem]
      | 2, ho =>
       obtain rfl := Option.some.inj ho
       have d129 : bx.tmps.getD 129 undef = .pointer (some ⟨g, 13, none⟩) := hS.dep 1 129
       have hl := ((r8.on' (pdrew hbel)).cell 13 _ rfl)
       refine .inl ⟨rfl, ends_value' (c := .int .i64 P.inner) ?_⟩
       simp [Act.eval, d129, go_sem, hl]
      | 3, ho =>
       obtain rfl := Option.some.inj ho
       have d7 : bx.tmps.getD 7 undef = .pointer (some ⟨w.heap.size, 0, none⟩) := hS.base 7
       refine .inl ⟨rfl, ends_value' (c := .pointer (some ⟨w.heap.size, 2, none⟩)) ?_⟩
       simp [Act.eval, d7, go_sem]
      | 4, ho =>
       obtain rfl := Option.some.inj ho
       have d131 : bx.tmps.getD 131 undef = .pointer (some ⟨w.heap.size, 2, none⟩) := hS.dep 3 131
       have hl := ((re.on' (pdrew hbel)).cell 2 _ rfl)
       refine .inl ⟨rfl, ends_value' (c := .int .i64 t.sport) ?_⟩
       simp [Act.eval, d131, go_sem, hl]
      | 5, ho =>
       obtain rfl := Option.some.inj ho
       have d128 : bx.tmps.getD 128 undef = .string X3 := hS.dep 0 128
       have d130 : bx.tmps.getD 130 undef = .int .i64 P.inner := hS.dep 2 130
       have d132 : bx.tmps.getD 132 undef = .int .i64 t.sport := hS.dep 4 132
       refine .inl ⟨rfl, ends_call' (c := .string XB) (f := 27) (args := #[.string X3, .int .i64 P.inner, .int .i64 2, .int .i64 t.sport]) ?_ (unhide HWb u)⟩
       simp [Act.eval, d128, d130, d132, go_sem]
      | 6, ho =>
       obtain rfl := Option.some.inj ho
       have d10 : bx.tmps.getD 10 undef = .pointer (some ⟨g, 0, none⟩) := hS.base 10
       refine .inl ⟨rfl, ends_value' (c := .pointer (some ⟨g, 13, none⟩)) ?_⟩
       simp [Act.eval, d10, go_sem]
      | 7, ho =>
       obtain rfl := Option.some.inj ho
       have d134 : bx.tmps.getD 134 undef = .pointer (some ⟨g, 13, none⟩) := hS.dep 6 134
       have hl := ((r8.on' (pdrew hbel)).cell 13 _ rfl)
       refine .inl ⟨rfl, ends_value' (c := .int .i64 P.inner) ?_⟩
       simp [Act.eval, d134, go_sem, hl]
      | 8, ho =>
       obtain rfl := Option.some.inj ho
       have d135 : bx.tmps.getD 135 undef = .int .i64 P.inner := hS.dep 7 135
       refine .inl ⟨rfl, ends_value' (c := .int .i64 (P.inner + 2)) ?_⟩
       simp [Act.eval, d135, go_sem, ki]
      | 9, ho =>
       obtain rfl := Option.some.inj ho
       have d7 : bx.tmps.getD 7 undef = .pointer (some ⟨w.heap.size, 0, none⟩) := hS.base 7
       refine .inl ⟨rfl, ends_value' (c := .pointer (some ⟨w.heap.size, 3, none⟩)) ?_⟩
       simp [Act.eval, d7, go_sem]
      | 10, ho =>
       obtain rfl := Option.some.inj ho
       have d137 : bx.tmps.getD 137 undef = .pointer (some ⟨w.heap.size, 3, none⟩) := hS.dep 9 137
       have hl := ((re.on' (pdrew hbel)).cell 3 _ rfl)
       refine .inl ⟨rfl, ends_value' (c := .int .i64 t.dport) ?_⟩
       simp [Act.eval, d137, go_sem, hl]
      | 11, ho =>
       obtain rfl := Option.some.inj ho
       have d133 : bx.tmps.getD 133 undef = .string XB := hS.dep 5 133
       have d136 : bx.tmps.getD 136 undef = .int .i64 (P.inner + 2) := hS.dep 8 136
       have d138 : bx.tmps.getD 138 undef = .int .i64 t.dport := hS.dep 10 138
       refine .inl ⟨rfl, ends_call' (c := .string X5) (f := 27) (args := #[.string XB, .int .i64 (P.inner + 2), .int .i64 2, .int .i64 t.dport]) ?_ (unhide HW5 u)⟩
       simp [Act.eval, d133, d136, d138, go_sem]
      | 12, ho =>
       obtain rfl := Option.some.inj ho
       have d139 : bx.tmps.getD 139 undef = .string X5 := hS.dep 11 139
       refine .inl ⟨rfl, ends_value' (c := .string X5) ?_⟩
       simp [execOp, Act.eval, d139]
      | n + 13, ho => exact absurd ho (by simp)
     case fin =>
      intro u hbel
      simp [putAll, dstAt, Act.put]
      replace re := re.on' (pdrew hbel)
      replace r8 := r8.on' (pdrew hbel)
      replace bel := Below.then bel (pdrew hbel)
      clear hbel
      have m1 := r8.cell 1 _ rfl
      go_wp2_with fail
      refine (unhide HW6 _).mono ?_
      rintro e w6 ⟨rfl, hb⟩
      replace re := re.on' hb
      replace r8 := r8.on' hb
      replace bel := Below.then bel hb
      clear hb m1
      go_wp2_with fail
      refine wp_region_grow (by kernel_rfl) [.string X6, .pointer (some ⟨g, 1, none⟩), .int .i64 P.pos, .int .i64 (P.pos + 2), .string X6, .pointer (some ⟨g, 1, none⟩), .int .i64 P.pos, .string EX, .int .u16 K, .int .i64 K, .string X7, .string X7, .int .i64 0] (by kernel_rfl) ?op ?fin
      case op =>
       intro i o bx u ho hbel hS
       match i, ho with
       | 0, ho =>
        obtain rfl := Option.some.inj ho
        have d0 : bx.tmps.getD 0 undef = .string X6 := hS.base 0
        refine .inl ⟨rfl, ends_value' (c := .string X6) ?_⟩
        simp [execOp, Act.eval, d0]
       | 1, ho =>
        obtain rfl := Option.some.inj ho
        have d10 : bx.tmps.getD 10 undef = .pointer (some ⟨g, 0, none⟩) := hS.base 10
        refine .inl ⟨rfl, ends_value' (c := .pointer (some ⟨g, 1, none⟩)) ?_⟩
        simp [Act.eval, d10, go_sem]
       | 2, ho =>
        obtain rfl := Option.some.inj ho
        have d146 : bx.tmps.getD 146 undef = .pointer (some ⟨g, 1, none⟩) := hS.dep 1 146
        have hl := ((r8.on' (pdrew hbel)).cell 1 _ rfl)
        refine .inl ⟨rfl, ends_value' (c := .int .i64 P.pos) ?_⟩
        simp [Act.eval, d146, go_sem, hl]
       | 3, ho =>
        obtain rfl := Option.some.inj ho
        have d147 : bx.tmps.getD 147 undef = .int .i64 P.pos := hS.dep 2 147
        refine .inl ⟨rfl, ends_value' (c := .int .i64 (P.pos + 2)) ?_⟩
        simp [Act.eval, d147, go_sem, kp]
       | 4, ho =>
        obtain rfl := Option.some.inj ho
        have d0 : bx.tmps.getD 0 undef = .string X6 := hS.base 0
        refine .inl ⟨rfl, ends_value' (c := .string X6) ?_⟩
        simp [execOp, Act.eval, d0]
       | 5, ho =>
        obtain rfl := Option.some.inj ho
        have d10 : bx.tmps.getD 10 undef = .pointer (some ⟨g, 0, none⟩) := hS.base 10
        refine .inl ⟨rfl, ends_value' (c := .pointer (some ⟨g, 1, none⟩)) ?_⟩
        simp [Act.eval, d10, go_sem]
       | 6, ho =>
        obtain rfl := Option.some.inj ho
        have d150 : bx.tmps.getD 150 undef = .pointer (some ⟨g, 1, none⟩) := hS.dep 5 150
        have hl := ((r8.on' (pdrew hbel)).cell 1 _ rfl)
        refine .inl ⟨rfl, ends_value' (c := .int .i64 P.pos) ?_⟩
        simp [Act.eval, d150, go_sem, hl]
       | 7, ho =>
        obtain rfl := Option.some.inj ho
        have d149 : bx.tmps.getD 149 undef = .string X6 := hS.dep 4 149
        have d151 : bx.tmps.getD 151 undef = .int .i64 P.pos := hS.dep 6 151
        refine .inl ⟨rfl, ends_value' (c := .string EX) ?_⟩
        simp [Act.eval, d149, d151, go_sem, hEX, q1, q4]
       | 8, ho =>
        obtain rfl := Option.some.inj ho
        have d152 : bx.tmps.getD 152 undef = .string EX := hS.dep 7 152
        refine .inl ⟨rfl, ends_call' (c := .int .u16 K) (f := 35) (args := #[.string EX]) ?_ (unhide HC u)⟩
        simp [Act.eval, d152, go_sem]
       | 9, ho =>
        obtain rfl := Option.some.inj ho
        have d153 : bx.tmps.getD 153 undef = .int .u16 K := hS.dep 8 153
        refine .inl ⟨rfl, ends_value' (c := .int .i64 K) ?_⟩
        simp [Act.eval, d153, go_sem, kK]
       | 10, ho =>
        obtain rfl := Option.some.inj ho
        have d145 : bx.tmps.getD 145 undef = .string X6 := hS.dep 0 145
        have d148 : bx.tmps.getD 148 undef = .int .i64 (P.pos + 2) := hS.dep 3 148
        have d154 : bx.tmps.getD 154 undef = .int .i64 K := hS.dep 9 154
        refine .inl ⟨rfl, ends_call' (c := .string X7) (f := 27) (args := #[.string X6, .int .i64 (P.pos + 2), .int .i64 2, .int .i64 K]) ?_ (unhide HW7 u)⟩
        simp [Act.eval, d145, d148, d154, go_sem]
       | 11, ho =>
        obtain rfl := Option.some.inj ho
        have d155 : bx.tmps.getD 155 undef = .string X7 := hS.dep 10 155
        refine .inl ⟨rfl, ends_value' (c := .string X7) ?_⟩
        simp [execOp, Act.eval, d155]
       | 12, ho =>
        obtain rfl := Option.some.inj ho
        refine .inl ⟨rfl, ends_value' (c := .int .i64 0) ?_⟩
        simp [execOp, Act.eval]
       | n + 13, ho => exact absurd ho (by simp)
      case fin =>
       intro u hbel
       simp [putAll, dstAt, Act.put]
       replace bel := Below.then bel (pdrew hbel)
       clear hbel re r8
       go_wp2_with fail
       go_ret2
       exact ⟨rfl, bel⟩


set_option maxRecDepth 100000 in
set_option maxHeartbeats 8000000 in
theorem rabout_put (s : ByteArray) (src dst : Int) (t : En) (w : World) (P : Pk) (X1 X2 X3 X4 X5 X6 X7 : ByteArray) (hs : s.size ≤ 140737488360000) (wt : t.Wf) (hS : Ps.U32 src) (hD : Ps.U32 dst)
  (hAL : ∀ u, Calls Tryz.prog 25 #[.string s, .int .i64 2, t.val] u fun e w' => e = .returned (.tuple #[P.val, .int .i64 0]) ∧ Below u.heap.size u w')
  (p0 : 20 ≤ P.pos) (p1 : P.pos ≤ P.total) (p2 : P.total ≤ s.size) (p3 : P.total ≤ 1500) (hA : Ps.U32 P.tup.src ∧ Ps.U32 P.tup.dst) (hP : (0 ≤ P.tup.sport ∧ P.tup.sport ≤ 65535) ∧ (0 ≤ P.tup.dport ∧ P.tup.dport ≤ 65535)) (hq0 : 0 ≤ P.quote) (hq1 : P.quote ≤ 2000) (hi0 : 0 ≤ P.inner) (hi1 : P.inner ≤ 2000)
  (hgt : 1 ≤ got (s.extract 0 P.total.toNat) 8 1) (hX1 : routS (s.extract 0 P.total.toNat) P.pos src dst = X1) (hX2 : ra2 X1 P.quote P.tup t = X2) (hX3 : ra3 X2 P.quote t = X3) (hX4 : ra4 X3 (P.inner + Ps.plc P.tup.proto) P.tup t = X4) (hX5 : ra5 X4 P.inner t = X5) (hX6 : ra6 X5 P.pos = X6) (hX7 : ra7 X6 P.pos = X7) (z6 : X6.size = P.total.toNat) (hth : gotB X3 (P.inner + Ps.plc P.tup.proto) 2 = true) (hW : ¬ (P.tup.proto = 17 ∧ got X3 (P.inner + Ps.plc P.tup.proto) 2 = 0)) :
  Calls Tryz.prog 17 #[.string s, .int .u32 src, .int .u32 dst, t.val] w fun e w' => e = .returned (.tuple #[.string X7, .int .i64 0]) ∧ Below w.heap.size w w' := by
 have zS : (s.extract 0 P.total.toNat).size = P.total.toNat := by rw [ByteArray.size_extract]; omega
 have HAL := hide hAL
 have HOU := hide (fun u => router_any (s.extract 0 P.total.toNat) P.pos src dst u (by omega) (by omega) p0 (by omega) hS hD hgt)
 rw [hX1] at HOU
 have z1 : X1.size ≤ 1500 := by rw [← hX1, routS_size (by omega) hS hD hgt]; omega
 have HN2 := hide (fun u => rnum_any X1 (P.quote + 10) 2 u (by omega))
 have g2 := got2_rng X1 (P.quote + 10)
 have HO2 := hide (fun u => ron_any (got X1 (P.quote + 10) 2) P.tup t u g2.1 g2.2 hA ⟨wt.src, wt.dst⟩)
 have HW2 := hide (fun u => rwith_any X1 (P.quote + 10) 2 (onA P.tup t (got X1 (P.quote + 10) 2)) u (by omega))
 rw [show set X1 (P.quote + 10) 2 (onA P.tup t (got X1 (P.quote + 10) 2)) = X2 from hX2] at HW2
 have z2 : X2.size ≤ 1500 := by rw [← hX2]; exact Nat.le_trans (set_le _ _ _ _) z1
 have HWa := hide (fun u => rwith_any X2 (P.quote + 12) 4 t.src u (by omega))
 obtain ⟨XA, hXA⟩ : ∃ X, set X2 (P.quote + 12) 4 t.src = X := ⟨_, rfl⟩
 rw [hXA] at HWa
 have zA : XA.size ≤ 1500 := by rw [← hXA]; exact Nat.le_trans (set_le _ _ _ _) z2
 have HW3 := hide (fun u => rwith_any XA (P.quote + 16) 4 t.dst u (by omega))
 rw [show set XA (P.quote + 16) 4 t.dst = X3 by rw [← hXA]; exact hX3] at HW3
 have z3 : X3.size ≤ 1500 := by rw [← hX3]; exact Nat.le_trans (set_le _ _ _ _) (Nat.le_trans (set_le _ _ _ _) z2)
 have HPL := hide (fun u => Ps.rplace_any P.tup.proto u)
 have hpl := plc_rng P.tup.proto
 have HG := hide (fun u => rget_any X3 (P.inner + Ps.plc P.tup.proto) 2 u (by unfold maxLen; omega))
 have g4 := got2_rng X3 (P.inner + Ps.plc P.tup.proto)
 have HO4 := hide (fun u => ron_any (got X3 (P.inner + Ps.plc P.tup.proto) 2) P.tup t u g4.1 g4.2 hA ⟨wt.src, wt.dst⟩)
 have r4 := onA_rng P.tup t (got X3 (P.inner + Ps.plc P.tup.proto) 2)
 have HU1 := hide (fun u => rupd_any (onA P.tup t (got X3 (P.inner + Ps.plc P.tup.proto) 2)) P.tup.sport t.sport u r4 hP.1 wt.sport)
 have r5 := prtF_rng P.tup.sport t.sport (onA P.tup t (got X3 (P.inner + Ps.plc P.tup.proto) 2))
 have HU2 := hide (fun u => rupd_any (prtF P.tup.sport t.sport (onA P.tup t (got X3 (P.inner + Ps.plc P.tup.proto) 2))) P.tup.dport t.dport u r5 hP.2 wt.dport)
 have r6 := prtF_rng P.tup.dport t.dport (prtF P.tup.sport t.sport (onA P.tup t (got X3 (P.inner + Ps.plc P.tup.proto) 2)))
 rw [hth] at HG
 obtain ⟨CC, hCC, hT⟩ := onE_ways t hW
 have HT := hide hT
 have HW4 := hide (fun u => rwith_any X3 (P.inner + Ps.plc P.tup.proto) 2 CC u (by omega))
 rw [← ra4_yes hth hCC, hX4] at HW4
 clear hCC hW hT
 generalize hUn : prtF P.tup.dport t.dport (prtF P.tup.sport t.sport (onA P.tup t (got X3 (P.inner + Ps.plc P.tup.proto) 2))) = U2 at *
 clear hUn
 generalize prtF P.tup.sport t.sport (onA P.tup t (got X3 (P.inner + Ps.plc P.tup.proto) 2)) = U1 at *
 generalize onA P.tup t (got X3 (P.inner + Ps.plc P.tup.proto) 2) = O1 at *
 have k1 : IntKind.u16.wrap O1 = O1 := by rw [Ck.wrap_u16]; omega
 have k2 : IntKind.u16.wrap P.tup.sport = P.tup.sport := by rw [Ck.wrap_u16]; omega
 have k3 : IntKind.u16.wrap t.sport = t.sport := by have := wt.sport; rw [Ck.wrap_u16]; omega
 have k4 : IntKind.u16.wrap P.tup.dport = P.tup.dport := by rw [Ck.wrap_u16]; omega
 have k5 : IntKind.u16.wrap t.dport = t.dport := by have := wt.dport; rw [Ck.wrap_u16]; omega
 have k6 : IntKind.i64.wrap U2 = U2 := Oct.wraps_i64 _ r6.1 (by omega)
 have z4 : X4.size ≤ 1500 := by rw [← hX4]; exact Nat.le_trans (goOnS_le _ _ _) z3
 have HWb := hide (fun u => rwith_any X4 P.inner 2 t.sport u (by omega))
 obtain ⟨XB, hXB⟩ : ∃ X, set X4 P.inner 2 t.sport = X := ⟨_, rfl⟩
 rw [hXB] at HWb
 have zB : XB.size ≤ 1500 := by rw [← hXB]; exact Nat.le_trans (set_le _ _ _ _) z4
 have HW5 := hide (fun u => rwith_any XB (P.inner + 2) 2 t.dport u (by omega))
 rw [show set XB (P.inner + 2) 2 t.dport = X5 by rw [← hXB]; exact hX5] at HW5
 have z5 : X5.size ≤ 1500 := by rw [← hX5]; exact Nat.le_trans (set_le _ _ _ _) (Nat.le_trans (set_le _ _ _ _) z4)
 have HW6 := hide (fun u => rwith_any X5 (P.pos + 2) 2 0 u (by omega))
 rw [show set X5 (P.pos + 2) 2 0 = X6 from hX6] at HW6
 have HC := hide (fun u => rcheck_any (X6.extract P.pos.toNat X6.size) u (by rw [ByteArray.size_extract]; omega))
 obtain ⟨K, hK⟩ : ∃ K : Int, 65535 - Ck.sum (X6.extract P.pos.toNat X6.size).data.toList = K := ⟨_, rfl⟩
 have c0 : 0 ≤ K := by have := Ck.sum_hi (X6.extract P.pos.toNat X6.size).data.toList; omega
 have c1 : K ≤ 65535 := by have := Ck.sum_lo (X6.extract P.pos.toNat X6.size).data.toList; omega
 rw [hK] at HC
 have HW7 := hide (fun u => rwith_any X6 (P.pos + 2) 2 K u (by omega))
 rw [show set X6 (P.pos + 2) 2 K = X7 by rw [← hK]; exact hX7] at HW7
 have kK : IntKind.i64.wrap K = K := Oct.wraps_i64 _ c0 (by omega)
 have ks : IntKind.i64.wrap t.src = t.src := Oct.wraps_i64 _ wt.src.1 (by have := wt.src.2; omega)
 have kd : IntKind.i64.wrap t.dst = t.dst := Oct.wraps_i64 _ wt.dst.1 (by have := wt.dst.2; omega)
 have kp : IntKind.i64.wrap (P.pos + 2) = P.pos + 2 := Oct.wraps_i64 _ (by omega) (by omega)
 have kq1 : IntKind.i64.wrap (P.quote + 10) = P.quote + 10 := Oct.wraps_i64 _ (by omega) (by omega)
 have kq2 : IntKind.i64.wrap (P.quote + 12) = P.quote + 12 := Oct.wraps_i64 _ (by omega) (by omega)
 have kq3 : IntKind.i64.wrap (P.quote + 16) = P.quote + 16 := Oct.wraps_i64 _ (by omega) (by omega)
 have ki : IntKind.i64.wrap (P.inner + 2) = P.inner + 2 := Oct.wraps_i64 _ (by omega) (by omega)
 obtain ⟨S, hSx⟩ : ∃ S, s.extract 0 P.total.toNat = S := ⟨_, rfl⟩
 obtain ⟨EX, hEX⟩ : ∃ X, X6.extract P.pos.toNat X6.size = X := ⟨_, rfl⟩
 rw [hSx] at HOU
 rw [hEX] at HC
 have q1 : 0 ≤ P.pos := by omega
 have q2 : 0 ≤ P.total := by omega
 have q4 : P.pos ≤ X6.size := by omega
 have re := row_new w t.cells 36
 have bel := alloc_on' w (.cells t.cells.toArray 36)
 clear hX1 hX2 hX3 hX4 hX5 hX6 hX7 hAL hgt zS hXA hXB hK z1 z2 z3 z4 z5 zA zB g2
 generalize onA P.tup t (got X1 (P.quote + 10) 2) = N2 at *
 generalize got X1 (P.quote + 10) 2 = G2 at *
 generalize got X3 (P.inner + Ps.plc P.tup.proto) 2 = old at *
 generalize hpe : Ps.plc P.tup.proto = pl at *
 clear hpe
 generalize Ps.plcB P.tup.proto = plB at *
 have kat : IntKind.i64.wrap (P.inner + pl) = P.inner + pl := Oct.wraps_i64 _ (by omega) (by omega)
 have t0 := re.cell 0 _ rfl
 have t1 := re.cell 1 _ rfl
 have t2 := re.cell 2 _ rfl
 have t3 := re.cell 3 _ rfl
 go_enter Tryz.func17, Tryz.ntmps17
 go_wp2_with fail
 refine (unhide HAL _).mono ?_
 rintro e w1 ⟨rfl, hb⟩
 have n1 := alloc_on' w1 (.cells P.cells.toArray 62)
 have r8 := row_new w1 P.cells 62
 replace re := (re.on' hb).on' n1
 replace bel := Below.then (Below.then bel hb) n1
 clear hb n1 t0 t1 t2 t3
 go_wp2_with fail
 generalize w1.alloc (.cells P.cells.toArray 62) = W1 at *
 generalize w1.heap.size = g at *
 refine wp_region_turn (by kernel_rfl) [.string s, .pointer (some ⟨g, 2, none⟩), .int .i64 P.total, .string S, .pointer (some ⟨g, 1, none⟩), .int .i64 P.pos, .int .u32 src, .int .u32 dst, .string X1, .string X1] 9 0 (by kernel_rfl) (by kernel_rfl) ?op ?fin
 case op =>
  intro i o bx u ho hbel hS hT0
  match i, ho with
  | 0, ho =>
   obtain rfl := Option.some.inj ho
   have d0 : bx.tmps.getD 0 undef = .string s := hT0 (by kernel_rfl)
   refine .inl ⟨rfl, ends_value' (c := .string s) ?_⟩
   simp [execOp, Act.eval, d0]
  | 1, ho =>
   obtain rfl := Option.some.inj ho
   have d10 : bx.tmps.getD 10 undef = .pointer (some ⟨g, 0, none⟩) := hS.base 10
   refine .inl ⟨rfl, ends_value' (c := .pointer (some ⟨g, 2, none⟩)) ?_⟩
   simp [Act.eval, d10, go_sem]
  | 2, ho =>
   obtain rfl := Option.some.inj ho
   have d30 : bx.tmps.getD 30 undef = .pointer (some ⟨g, 2, none⟩) := hS.dep 1 30
   have hl := ((r8.on' (pdrew hbel)).cell 2 _ rfl)
   refine .inl ⟨rfl, ends_value' (c := .int .i64 P.total) ?_⟩
   simp [Act.eval, d30, go_sem, hl]
  | 3, ho =>
   obtain rfl := Option.some.inj ho
   have d29 : bx.tmps.getD 29 undef = .string s := hS.dep 0 29
   have d31 : bx.tmps.getD 31 undef = .int .i64 P.total := hS.dep 2 31
   refine .inl ⟨rfl, ends_value' (c := .string S) ?_⟩
   simp [Act.eval, d29, d31, go_sem, hSx, q2, p2]
  | 4, ho =>
   obtain rfl := Option.some.inj ho
   have d10 : bx.tmps.getD 10 undef = .pointer (some ⟨g, 0, none⟩) := hS.base 10
   refine .inl ⟨rfl, ends_value' (c := .pointer (some ⟨g, 1, none⟩)) ?_⟩
   simp [Act.eval, d10, go_sem]
  | 5, ho =>
   obtain rfl := Option.some.inj ho
   have d33 : bx.tmps.getD 33 undef = .pointer (some ⟨g, 1, none⟩) := hS.dep 4 33
   have hl := ((r8.on' (pdrew hbel)).cell 1 _ rfl)
   refine .inl ⟨rfl, ends_value' (c := .int .i64 P.pos) ?_⟩
   simp [Act.eval, d33, go_sem, hl]
  | 6, ho =>
   obtain rfl := Option.some.inj ho
   have d1 : bx.tmps.getD 1 undef = .int .u32 src := hS.base 1
   refine .inl ⟨rfl, ends_value' (c := .int .u32 src) ?_⟩
   simp [execOp, Act.eval, d1]
  | 7, ho =>
   obtain rfl := Option.some.inj ho
   have d2 : bx.tmps.getD 2 undef = .int .u32 dst := hS.base 2
   refine .inl ⟨rfl, ends_value' (c := .int .u32 dst) ?_⟩
   simp [execOp, Act.eval, d2]
  | 8, ho =>
   obtain rfl := Option.some.inj ho
   have d32 : bx.tmps.getD 32 undef = .string S := hS.dep 3 32
   have d34 : bx.tmps.getD 34 undef = .int .i64 P.pos := hS.dep 5 34
   have d35 : bx.tmps.getD 35 undef = .int .u32 src := hS.dep 6 35
   have d36 : bx.tmps.getD 36 undef = .int .u32 dst := hS.dep 7 36
   refine .inl ⟨rfl, ends_call' (c := .string X1) (f := 26) (args := #[.string S, .int .i64 P.pos, .int .u32 src, .int .u32 dst]) ?_ (unhide HOU u)⟩
   simp [Act.eval, d32, d34, d35, d36, go_sem]
  | 9, ho =>
   obtain rfl := Option.some.inj ho
   have d37 : bx.tmps.getD 37 undef = .string X1 := hS.dep 8 37
   refine .inl ⟨rfl, ends_value' (c := .string X1) ?_⟩
   simp [execOp, Act.eval, d37]
  | n + 10, ho => exact absurd ho (by simp)
 case fin =>
  intro u hbel
  simp [putAll, dstAt, Act.put]
  replace re := re.on' (pdrew hbel)
  replace r8 := r8.on' (pdrew hbel)
  replace bel := Below.then bel (pdrew hbel)
  clear hbel
  have m12 := r8.cell 12 _ rfl
  go_wp2_with fail
  refine wp_region_turn (by kernel_rfl) [.string X1, .int .i64 P.quote, .int .i64 (P.quote + 10), .string X1, .int .i64 P.quote, .int .i64 (P.quote + 10), .int .i64 G2, .pointer (some ⟨g, 3, none⟩), P.tup.val, t.val, .int .i64 N2, .string X2, .string X2] 12 0 (by kernel_rfl) (by kernel_rfl) ?op ?fin
  case op =>
   intro i o bx u ho hbel hS hT0
   match i, ho with
   | 0, ho =>
    obtain rfl := Option.some.inj ho
    have d0 : bx.tmps.getD 0 undef = .string X1 := hT0 (by kernel_rfl)
    refine .inl ⟨rfl, ends_value' (c := .string X1) ?_⟩
    simp [execOp, Act.eval, d0]
   | 1, ho =>
    obtain rfl := Option.some.inj ho
    have d12 : bx.tmps.getD 12 undef = .int .i64 P.quote := hS.base 12
    refine .inl ⟨rfl, ends_value' (c := .int .i64 P.quote) ?_⟩
    simp [execOp, Act.eval, d12]
   | 2, ho =>
    obtain rfl := Option.some.inj ho
    have d41 : bx.tmps.getD 41 undef = .int .i64 P.quote := hS.dep 1 41
    refine .inl ⟨rfl, ends_value' (c := .int .i64 (P.quote + 10)) ?_⟩
    simp [Act.eval, d41, go_sem, kq1]
   | 3, ho =>
    obtain rfl := Option.some.inj ho
    have d0 : bx.tmps.getD 0 undef = .string X1 := hT0 (by kernel_rfl)
    refine .inl ⟨rfl, ends_value' (c := .string X1) ?_⟩
    simp [execOp, Act.eval, d0]
   | 4, ho =>
    obtain rfl := Option.some.inj ho
    have d12 : bx.tmps.getD 12 undef = .int .i64 P.quote := hS.base 12
    refine .inl ⟨rfl, ends_value' (c := .int .i64 P.quote) ?_⟩
    simp [execOp, Act.eval, d12]
   | 5, ho =>
    obtain rfl := Option.some.inj ho
    have d44 : bx.tmps.getD 44 undef = .int .i64 P.quote := hS.dep 4 44
    refine .inl ⟨rfl, ends_value' (c := .int .i64 (P.quote + 10)) ?_⟩
    simp [Act.eval, d44, go_sem, kq1]
   | 6, ho =>
    obtain rfl := Option.some.inj ho
    have d43 : bx.tmps.getD 43 undef = .string X1 := hS.dep 3 43
    have d45 : bx.tmps.getD 45 undef = .int .i64 (P.quote + 10) := hS.dep 5 45
    refine .inl ⟨rfl, ends_call' (c := .int .i64 G2) (f := 28) (args := #[.string X1, .int .i64 (P.quote + 10), .int .i64 2]) ?_ (unhide HN2 u)⟩
    simp [Act.eval, d43, d45, go_sem]
   | 7, ho =>
    obtain rfl := Option.some.inj ho
    have d10 : bx.tmps.getD 10 undef = .pointer (some ⟨g, 0, none⟩) := hS.base 10
    refine .inl ⟨rfl, ends_value' (c := .pointer (some ⟨g, 3, none⟩)) ?_⟩
    simp [Act.eval, d10, go_sem]
   | 8, ho =>
    obtain rfl := Option.some.inj ho
    have d47 : bx.tmps.getD 47 undef = .pointer (some ⟨g, 3, none⟩) := hS.dep 7 47
    refine .inl ⟨rfl, ends_value' (c := P.tup.val) ?_⟩
    simp [Act.eval, d47, go_sem, ((r8.on' (pdrew hbel)).cell 3 _ rfl), ((r8.on' (pdrew hbel)).cell 4 _ rfl), ((r8.on' (pdrew hbel)).cell 5 _ rfl), ((r8.on' (pdrew hbel)).cell 6 _ rfl), ((r8.on' (pdrew hbel)).cell 7 _ rfl)]
   | 9, ho =>
    obtain rfl := Option.some.inj ho
    have d7 : bx.tmps.getD 7 undef = .pointer (some ⟨w.heap.size, 0, none⟩) := hS.base 7
    refine .inl ⟨rfl, ends_value' (c := t.val) ?_⟩
    simp [Act.eval, d7, go_sem, ((re.on' (pdrew hbel)).cell 0 _ rfl), ((re.on' (pdrew hbel)).cell 1 _ rfl), ((re.on' (pdrew hbel)).cell 2 _ rfl), ((re.on' (pdrew hbel)).cell 3 _ rfl)]
   | 10, ho =>
    obtain rfl := Option.some.inj ho
    have d46 : bx.tmps.getD 46 undef = .int .i64 G2 := hS.dep 6 46
    have d48 : bx.tmps.getD 48 undef = P.tup.val := hS.dep 8 48
    have d49 : bx.tmps.getD 49 undef = t.val := hS.dep 9 49
    refine .inl ⟨rfl, ends_call' (c := .int .i64 N2) (f := 31) (args := #[.int .i64 G2, P.tup.val, t.val]) ?_ (unhide HO2 u)⟩
    simp [Act.eval, d46, d48, d49, go_sem]
   | 11, ho =>
    obtain rfl := Option.some.inj ho
    have d40 : bx.tmps.getD 40 undef = .string X1 := hS.dep 0 40
    have d42 : bx.tmps.getD 42 undef = .int .i64 (P.quote + 10) := hS.dep 2 42
    have d50 : bx.tmps.getD 50 undef = .int .i64 N2 := hS.dep 10 50
    refine .inl ⟨rfl, ends_call' (c := .string X2) (f := 27) (args := #[.string X1, .int .i64 (P.quote + 10), .int .i64 2, .int .i64 N2]) ?_ (unhide HW2 u)⟩
    simp [Act.eval, d40, d42, d50, go_sem]
   | 12, ho =>
    obtain rfl := Option.some.inj ho
    have d51 : bx.tmps.getD 51 undef = .string X2 := hS.dep 11 51
    refine .inl ⟨rfl, ends_value' (c := .string X2) ?_⟩
    simp [execOp, Act.eval, d51]
   | n + 13, ho => exact absurd ho (by simp)
  case fin =>
   intro u hbel
   simp [putAll, dstAt, Act.put]
   replace re := re.on' (pdrew hbel)
   replace r8 := r8.on' (pdrew hbel)
   replace bel := Below.then bel (pdrew hbel)
   clear hbel
   clear m12
   go_wp2_with fail
   refine wp_region_turn (by kernel_rfl) [.string X2, .int .i64 P.quote, .int .i64 (P.quote + 12), .pointer (some ⟨w.heap.size, 0, none⟩), .int .u32 t.src, .int .i64 t.src, .string XA, .int .i64 P.quote, .int .i64 (P.quote + 16), .pointer (some ⟨w.heap.size, 1, none⟩), .int .u32 t.dst, .int .i64 t.dst, .string X3, .string X3] 13 0 (by kernel_rfl) (by kernel_rfl) ?op ?fin
   case op =>
    intro i o bx u ho hbel hS hT0
    match i, ho with
    | 0, ho =>
     obtain rfl := Option.some.inj ho
     have d0 : bx.tmps.getD 0 undef = .string X2 := hT0 (by kernel_rfl)
     refine .inl ⟨rfl, ends_value' (c := .string X2) ?_⟩
     simp [execOp, Act.eval, d0]
    | 1, ho =>
     obtain rfl := Option.some.inj ho
     have d12 : bx.tmps.getD 12 undef = .int .i64 P.quote := hS.base 12
     refine .inl ⟨rfl, ends_value' (c := .int .i64 P.quote) ?_⟩
     simp [execOp, Act.eval, d12]
    | 2, ho =>
     obtain rfl := Option.some.inj ho
     have d53 : bx.tmps.getD 53 undef = .int .i64 P.quote := hS.dep 1 53
     refine .inl ⟨rfl, ends_value' (c := .int .i64 (P.quote + 12)) ?_⟩
     simp [Act.eval, d53, go_sem, kq2]
    | 3, ho =>
     obtain rfl := Option.some.inj ho
     have d7 : bx.tmps.getD 7 undef = .pointer (some ⟨w.heap.size, 0, none⟩) := hS.base 7
     refine .inl ⟨rfl, ends_value' (c := .pointer (some ⟨w.heap.size, 0, none⟩)) ?_⟩
     simp [Act.eval, d7, go_sem]
    | 4, ho =>
     obtain rfl := Option.some.inj ho
     have d55 : bx.tmps.getD 55 undef = .pointer (some ⟨w.heap.size, 0, none⟩) := hS.dep 3 55
     have hl := ((re.on' (pdrew hbel)).cell 0 _ rfl)
     refine .inl ⟨rfl, ends_value' (c := .int .u32 t.src) ?_⟩
     simp [Act.eval, d55, go_sem, hl]
    | 5, ho =>
     obtain rfl := Option.some.inj ho
     have d56 : bx.tmps.getD 56 undef = .int .u32 t.src := hS.dep 4 56
     refine .inl ⟨rfl, ends_value' (c := .int .i64 t.src) ?_⟩
     simp [Act.eval, d56, go_sem, ks]
    | 6, ho =>
     obtain rfl := Option.some.inj ho
     have d52 : bx.tmps.getD 52 undef = .string X2 := hS.dep 0 52
     have d54 : bx.tmps.getD 54 undef = .int .i64 (P.quote + 12) := hS.dep 2 54
     have d57 : bx.tmps.getD 57 undef = .int .i64 t.src := hS.dep 5 57
     refine .inl ⟨rfl, ends_call' (c := .string XA) (f := 27) (args := #[.string X2, .int .i64 (P.quote + 12), .int .i64 4, .int .i64 t.src]) ?_ (unhide HWa u)⟩
     simp [Act.eval, d52, d54, d57, go_sem]
    | 7, ho =>
     obtain rfl := Option.some.inj ho
     have d12 : bx.tmps.getD 12 undef = .int .i64 P.quote := hS.base 12
     refine .inl ⟨rfl, ends_value' (c := .int .i64 P.quote) ?_⟩
     simp [execOp, Act.eval, d12]
    | 8, ho =>
     obtain rfl := Option.some.inj ho
     have d59 : bx.tmps.getD 59 undef = .int .i64 P.quote := hS.dep 7 59
     refine .inl ⟨rfl, ends_value' (c := .int .i64 (P.quote + 16)) ?_⟩
     simp [Act.eval, d59, go_sem, kq3]
    | 9, ho =>
     obtain rfl := Option.some.inj ho
     have d7 : bx.tmps.getD 7 undef = .pointer (some ⟨w.heap.size, 0, none⟩) := hS.base 7
     refine .inl ⟨rfl, ends_value' (c := .pointer (some ⟨w.heap.size, 1, none⟩)) ?_⟩
     simp [Act.eval, d7, go_sem]
    | 10, ho =>
     obtain rfl := Option.some.inj ho
     have d61 : bx.tmps.getD 61 undef = .pointer (some ⟨w.heap.size, 1, none⟩) := hS.dep 9 61
     have hl := ((re.on' (pdrew hbel)).cell 1 _ rfl)
     refine .inl ⟨rfl, ends_value' (c := .int .u32 t.dst) ?_⟩
     simp [Act.eval, d61, go_sem, hl]
    | 11, ho =>
     obtain rfl := Option.some.inj ho
     have d62 : bx.tmps.getD 62 undef = .int .u32 t.dst := hS.dep 10 62
     refine .inl ⟨rfl, ends_value' (c := .int .i64 t.dst) ?_⟩
     simp [Act.eval, d62, go_sem, kd]
    | 12, ho =>
     obtain rfl := Option.some.inj ho
     have d58 : bx.tmps.getD 58 undef = .string XA := hS.dep 6 58
     have d60 : bx.tmps.getD 60 undef = .int .i64 (P.quote + 16) := hS.dep 8 60
     have d63 : bx.tmps.getD 63 undef = .int .i64 t.dst := hS.dep 11 63
     refine .inl ⟨rfl, ends_call' (c := .string X3) (f := 27) (args := #[.string XA, .int .i64 (P.quote + 16), .int .i64 4, .int .i64 t.dst]) ?_ (unhide HW3 u)⟩
     simp [Act.eval, d58, d60, d63, go_sem]
    | 13, ho =>
     obtain rfl := Option.some.inj ho
     have d64 : bx.tmps.getD 64 undef = .string X3 := hS.dep 12 64
     refine .inl ⟨rfl, ends_value' (c := .string X3) ?_⟩
     simp [execOp, Act.eval, d64]
    | n + 14, ho => exact absurd ho (by simp)
   case fin =>
    intro u hbel
    simp [putAll, dstAt, Act.put]
    replace re := re.on' (pdrew hbel)
    replace r8 := r8.on' (pdrew hbel)
    replace bel := Below.then bel (pdrew hbel)
    clear hbel
    rcases unhide HT with ⟨t17, rfl⟩ | ⟨t17, told0, tu, rfl⟩ | ⟨t17, told0, tu, rfl⟩
    all_goals
     have m3 := r8.cell 3 _ rfl
     have m13 := r8.cell 13 _ rfl
     go_wp2_with fail
     refine (unhide HPL _).mono ?_
     rintro e w2 ⟨rfl, rfl⟩
     go_wp2_with fail
     refine (unhide HG _).mono ?_
     rintro e w3 ⟨rfl, rfl⟩
     go_wp2_with fail
     clear m13 m3
     refine wp_region_grow (by kernel_rfl) [.int .i64 old, .pointer (some ⟨g, 3, none⟩), P.tup.val, t.val, .int .i64 O1, .int .u16 O1, .pointer (some ⟨g, 3, none⟩), .pointer (some ⟨g, 6, none⟩), .int .i64 P.tup.sport, .int .u16 P.tup.sport, .pointer (some ⟨w.heap.size, 2, none⟩), .int .i64 t.sport, .int .u16 t.sport, .int .u16 U1, .int .u16 U1] (by kernel_rfl) ?op ?fin
     case op =>
      intro i o bx u ho hbel hS
      match i, ho with
      | 0, ho =>
       obtain rfl := Option.some.inj ho
       have d16 : bx.tmps.getD 16 undef = .int .i64 old := hS.base 16
       refine .inl ⟨rfl, ends_value' (c := .int .i64 old) ?_⟩
       simp [execOp, Act.eval, d16]
      | 1, ho =>
       obtain rfl := Option.some.inj ho
       have d10 : bx.tmps.getD 10 undef = .pointer (some ⟨g, 0, none⟩) := hS.base 10
       refine .inl ⟨rfl, ends_value' (c := .pointer (some ⟨g, 3, none⟩)) ?_⟩
       simp [Act.eval, d10, go_sem]
      | 2, ho =>
       obtain rfl := Option.some.inj ho
       have d96 : bx.tmps.getD 96 undef = .pointer (some ⟨g, 3, none⟩) := hS.dep 1 96
       refine .inl ⟨rfl, ends_value' (c := P.tup.val) ?_⟩
       simp [Act.eval, d96, go_sem, ((r8.on' (pdrew hbel)).cell 3 _ rfl), ((r8.on' (pdrew hbel)).cell 4 _ rfl), ((r8.on' (pdrew hbel)).cell 5 _ rfl), ((r8.on' (pdrew hbel)).cell 6 _ rfl), ((r8.on' (pdrew hbel)).cell 7 _ rfl)]
      | 3, ho =>
       obtain rfl := Option.some.inj ho
       have d7 : bx.tmps.getD 7 undef = .pointer (some ⟨w.heap.size, 0, none⟩) := hS.base 7
       refine .inl ⟨rfl, ends_value' (c := t.val) ?_⟩
       simp [Act.eval, d7, go_sem, ((re.on' (pdrew hbel)).cell 0 _ rfl), ((re.on' (pdrew hbel)).cell 1 _ rfl), ((re.on' (pdrew hbel)).cell 2 _ rfl), ((re.on' (pdrew hbel)).cell 3 _ rfl)]
      | 4, ho =>
       obtain rfl := Option.some.inj ho
       have d95 : bx.tmps.getD 95 undef = .int .i64 old := hS.dep 0 95
       have d97 : bx.tmps.getD 97 undef = P.tup.val := hS.dep 2 97
       have d98 : bx.tmps.getD 98 undef = t.val := hS.dep 3 98
       refine .inl ⟨rfl, ends_call' (c := .int .i64 O1) (f := 31) (args := #[.int .i64 old, P.tup.val, t.val]) ?_ (unhide HO4 u)⟩
       simp [Act.eval, d95, d97, d98, go_sem]
      | 5, ho =>
       obtain rfl := Option.some.inj ho
       have d99 : bx.tmps.getD 99 undef = .int .i64 O1 := hS.dep 4 99
       refine .inl ⟨rfl, ends_value' (c := .int .u16 O1) ?_⟩
       simp [Act.eval, d99, go_sem, k1]
      | 6, ho =>
       obtain rfl := Option.some.inj ho
       have d10 : bx.tmps.getD 10 undef = .pointer (some ⟨g, 0, none⟩) := hS.base 10
       refine .inl ⟨rfl, ends_value' (c := .pointer (some ⟨g, 3, none⟩)) ?_⟩
       simp [Act.eval, d10, go_sem]
      | 7, ho =>
       obtain rfl := Option.some.inj ho
       have d101 : bx.tmps.getD 101 undef = .pointer (some ⟨g, 3, none⟩) := hS.dep 6 101
       refine .inl ⟨rfl, ends_value' (c := .pointer (some ⟨g, 6, none⟩)) ?_⟩
       simp [Act.eval, d101, go_sem]
      | 8, ho =>
       obtain rfl := Option.some.inj ho
       have d102 : bx.tmps.getD 102 undef = .pointer (some ⟨g, 6, none⟩) := hS.dep 7 102
       have hl := ((r8.on' (pdrew hbel)).cell 6 _ rfl)
       refine .inl ⟨rfl, ends_value' (c := .int .i64 P.tup.sport) ?_⟩
       simp [Act.eval, d102, go_sem, hl]
      | 9, ho =>
       obtain rfl := Option.some.inj ho
       have d103 : bx.tmps.getD 103 undef = .int .i64 P.tup.sport := hS.dep 8 103
       refine .inl ⟨rfl, ends_value' (c := .int .u16 P.tup.sport) ?_⟩
       simp [Act.eval, d103, go_sem, k2]
      | 10, ho =>
       obtain rfl := Option.some.inj ho
       have d7 : bx.tmps.getD 7 undef = .pointer (some ⟨w.heap.size, 0, none⟩) := hS.base 7
       refine .inl ⟨rfl, ends_value' (c := .pointer (some ⟨w.heap.size, 2, none⟩)) ?_⟩
       simp [Act.eval, d7, go_sem]
      | 11, ho =>
       obtain rfl := Option.some.inj ho
       have d105 : bx.tmps.getD 105 undef = .pointer (some ⟨w.heap.size, 2, none⟩) := hS.dep 10 105
       have hl := ((re.on' (pdrew hbel)).cell 2 _ rfl)
       refine .inl ⟨rfl, ends_value' (c := .int .i64 t.sport) ?_⟩
       simp [Act.eval, d105, go_sem, hl]
      | 12, ho =>
       obtain rfl := Option.some.inj ho
       have d106 : bx.tmps.getD 106 undef = .int .i64 t.sport := hS.dep 11 106
       refine .inl ⟨rfl, ends_value' (c := .int .u16 t.sport) ?_⟩
       simp [Act.eval, d106, go_sem, k3]
      | 13, ho =>
       obtain rfl := Option.some.inj ho
       have d100 : bx.tmps.getD 100 undef = .int .u16 O1 := hS.dep 5 100
       have d104 : bx.tmps.getD 104 undef = .int .u16 P.tup.sport := hS.dep 9 104
       have d107 : bx.tmps.getD 107 undef = .int .u16 t.sport := hS.dep 12 107
       refine .inl ⟨rfl, ends_call' (c := .int .u16 U1) (f := 34) (args := #[.int .u16 O1, .int .u16 P.tup.sport, .int .u16 t.sport]) ?_ (unhide HU1 u)⟩
       simp [Act.eval, d100, d104, d107, go_sem]
      | 14, ho =>
       obtain rfl := Option.some.inj ho
       have d108 : bx.tmps.getD 108 undef = .int .u16 U1 := hS.dep 13 108
       refine .inl ⟨rfl, ends_value' (c := .int .u16 U1) ?_⟩
       simp [execOp, Act.eval, d108]
      | n + 15, ho => exact absurd ho (by simp)
     case fin =>
      intro u hbel
      simp [putAll, dstAt, Act.put]
      replace re := re.on' (pdrew hbel)
      replace r8 := r8.on' (pdrew hbel)
      replace bel := Below.then bel (pdrew hbel)
      clear hbel
      have m7 := r8.cell 7 _ rfl
      have n3 := re.cell 3 _ rfl
      go_wp2_with fail
      refine (unhide HU2 _).mono ?_
      rintro e w4 ⟨rfl, hb⟩
      replace re := re.on' hb
      replace r8 := r8.on' hb
      replace bel := Below.then bel hb
      clear hb m7 n3
      go_wp2_with fail
      refine (unhide HW4 _).mono ?_
      rintro e w5 ⟨rfl, hb⟩
      replace re := re.on' hb
      replace r8 := r8.on' hb
      replace bel := Below.then bel hb
      clear hb
      go_wp2_with fail
      refine wp_region_turn (by kernel_rfl) [.string X4, .pointer (some ⟨g, 13, none⟩), .int .i64 P.inner, .pointer (some ⟨w.heap.size, 2, none⟩), .int .i64 t.sport, .string XB, .pointer (some ⟨g, 13, none⟩), .int .i64 P.inner, .int .i64 (P.inner + 2), .pointer (some ⟨w.heap.size, 3, none⟩), .int .i64 t.dport, .string X5, .string X5] 12 0 (by kernel_rfl) (by kernel_rfl) ?op ?fin
      case op =>
       intro i o bx u ho hbel hS hT0
       match i, ho with
       | 0, ho =>
        obtain rfl := Option.some.inj ho
        have d0 : bx.tmps.getD 0 undef = .string X4 := hT0 (by kernel_rfl)
        refine .inl ⟨rfl, ends_value' (c := .string X4) ?_⟩
        simp [execOp, Act.eval, d0]
       | 1, ho =>
        obtain rfl := Option.some.inj ho
        have d10 : bx.tmps.getD 10 undef = .pointer (some ⟨g, 0, none⟩) := hS.base 10
        refine .inl ⟨rfl, ends_value' (c := .pointer (some ⟨g, 13, none⟩)) ?_⟩
        simp [Act.eval, d10, go_sem]
       | 2, ho =>
        obtain rfl := Option.some.inj ho
        have d129 : bx.tmps.getD 129 undef = .pointer (some ⟨g, 13, none⟩) := hS.dep 1 129
        have hl := ((r8.on' (pdrew hbel)).cell 13 _ rfl)
        refine .inl ⟨rfl, ends_value' (c := .int .i64 P.inner) ?_⟩
        simp [Act.eval, d129, go_sem, hl]
       | 3, ho =>
        obtain rfl := Option.some.inj ho
        have d7 : bx.tmps.getD 7 undef = .pointer (some ⟨w.heap.size, 0, none⟩) := hS.base 7
        refine .inl ⟨rfl, ends_value' (c := .pointer (some ⟨w.heap.size, 2, none⟩)) ?_⟩
        simp [Act.eval, d7, go_sem]
       | 4, ho =>
        obtain rfl := Option.some.inj ho
        have d131 : bx.tmps.getD 131 undef = .pointer (some ⟨w.heap.size, 2, none⟩) := hS.dep 3 131
        have hl := ((re.on' (pdrew hbel)).cell 2 _ rfl)
        refine .inl ⟨rfl, ends_value' (c := .int .i64 t.sport) ?_⟩
        simp [Act.eval, d131, go_sem, hl]
       | 5, ho =>
        obtain rfl := Option.some.inj ho
        have d128 : bx.tmps.getD 128 undef = .string X4 := hS.dep 0 128
        have d130 : bx.tmps.getD 130 undef = .int .i64 P.inner := hS.dep 2 130
        have d132 : bx.tmps.getD 132 undef = .int .i64 t.sport := hS.dep 4 132
        refine .inl ⟨rfl, ends_call' (c := .string XB) (f := 27) (args := #[.string X4, .int .i64 P.inner, .int .i64 2, .int .i64 t.sport]) ?_ (unhide HWb u)⟩
        simp [Act.eval, d128, d130, d132, go_sem]
       | 6, ho =>
        obtain rfl := Option.some.inj ho
        have d10 : bx.tmps.getD 10 undef = .pointer (some ⟨g, 0, none⟩) := hS.base 10
        refine .inl ⟨rfl, ends_value' (c := .pointer (some ⟨g, 13, none⟩)) ?_⟩
        simp [Act.eval, d10, go_sem]
       | 7, ho =>
        obtain rfl := Option.some.inj ho
        have d134 : bx.tmps.getD 134 undef = .pointer (some ⟨g, 13, none⟩) := hS.dep 6 134
        have hl := ((r8.on' (pdrew hbel)).cell 13 _ rfl)
        refine .inl ⟨rfl, ends_value' (c := .int .i64 P.inner) ?_⟩
        simp [Act.eval, d134, go_sem, hl]
       | 8, ho =>
        obtain rfl := Option.some.inj ho
        have d135 : bx.tmps.getD 135 undef = .int .i64 P.inner := hS.dep 7 135
        refine .inl ⟨rfl, ends_value' (c := .int .i64 (P.inner + 2)) ?_⟩
        simp [Act.eval, d135, go_sem, ki]
       | 9, ho =>
        obtain rfl := Option.some.inj ho
        have d7 : bx.tmps.getD 7 undef = .pointer (some ⟨w.heap.size, 0, none⟩) := hS.base 7
        refine .inl ⟨rfl, ends_value' (c := .pointer (some ⟨w.heap.size, 3, none⟩)) ?_⟩
        simp [Act.eval, d7, go_sem]
       | 10, ho =>
        obtain rfl := Option.some.inj ho
        have d137 : bx.tmps.getD 137 undef = .pointer (some ⟨w.heap.size, 3, none⟩) := hS.dep 9 137
        have hl := ((re.on' (pdrew hbel)).cell 3 _ rfl)
        refine .inl ⟨rfl, ends_value' (c := .int .i64 t.dport) ?_⟩
        simp [Act.eval, d137, go_sem, hl]
       | 11, ho =>
        obtain rfl := Option.some.inj ho
        have d133 : bx.tmps.getD 133 undef = .string XB := hS.dep 5 133
        have d136 : bx.tmps.getD 136 undef = .int .i64 (P.inner + 2) := hS.dep 8 136
        have d138 : bx.tmps.getD 138 undef = .int .i64 t.dport := hS.dep 10 138
        refine .inl ⟨rfl, ends_call' (c := .string X5) (f := 27) (args := #[.string XB, .int .i64 (P.inner + 2), .int .i64 2, .int .i64 t.dport]) ?_ (unhide HW5 u)⟩
        simp [Act.eval, d133, d136, d138, go_sem]
       | 12, ho =>
        obtain rfl := Option.some.inj ho
        have d139 : bx.tmps.getD 139 undef = .string X5 := hS.dep 11 139
        refine .inl ⟨rfl, ends_value' (c := .string X5) ?_⟩
        simp [execOp, Act.eval, d139]
       | n + 13, ho => exact absurd ho (by simp)
      case fin =>
       intro u hbel
       simp [putAll, dstAt, Act.put]
       replace re := re.on' (pdrew hbel)
       replace r8 := r8.on' (pdrew hbel)
       replace bel := Below.then bel (pdrew hbel)
       clear hbel
       have m1 := r8.cell 1 _ rfl
       go_wp2_with fail
       refine (unhide HW6 _).mono ?_
       rintro e w6 ⟨rfl, hb⟩
       replace re := re.on' hb
       replace r8 := r8.on' hb
       replace bel := Below.then bel hb
       clear hb m1
       go_wp2_with fail
       refine wp_region_grow (by kernel_rfl) [.string X6, .pointer (some ⟨g, 1, none⟩), .int .i64 P.pos, .int .i64 (P.pos + 2), .string X6, .pointer (some ⟨g, 1, none⟩), .int .i64 P.pos, .string EX, .int .u16 K, .int .i64 K, .string X7, .string X7, .int .i64 0] (by kernel_rfl) ?op ?fin
       case op =>
        intro i o bx u ho hbel hS
        match i, ho with
        | 0, ho =>
         obtain rfl := Option.some.inj ho
         have d0 : bx.tmps.getD 0 undef = .string X6 := hS.base 0
         refine .inl ⟨rfl, ends_value' (c := .string X6) ?_⟩
         simp [execOp, Act.eval, d0]
        | 1, ho =>
         obtain rfl := Option.some.inj ho
         have d10 : bx.tmps.getD 10 undef = .pointer (some ⟨g, 0, none⟩) := hS.base 10
         refine .inl ⟨rfl, ends_value' (c := .pointer (some ⟨g, 1, none⟩)) ?_⟩
         simp [Act.eval, d10, go_sem]
        | 2, ho =>
         obtain rfl := Option.some.inj ho
         have d146 : bx.tmps.getD 146 undef = .pointer (some ⟨g, 1, none⟩) := hS.dep 1 146
         have hl := ((r8.on' (pdrew hbel)).cell 1 _ rfl)
         refine .inl ⟨rfl, ends_value' (c := .int .i64 P.pos) ?_⟩
         simp [Act.eval, d146, go_sem, hl]
        | 3, ho =>
         obtain rfl := Option.some.inj ho
         have d147 : bx.tmps.getD 147 undef = .int .i64 P.pos := hS.dep 2 147
         refine .inl ⟨rfl, ends_value' (c := .int .i64 (P.pos + 2)) ?_⟩
         simp [Act.eval, d147, go_sem, kp]
        | 4, ho =>
         obtain rfl := Option.some.inj ho
         have d0 : bx.tmps.getD 0 undef = .string X6 := hS.base 0
         refine .inl ⟨rfl, ends_value' (c := .string X6) ?_⟩
         simp [execOp, Act.eval, d0]
        | 5, ho =>
         obtain rfl := Option.some.inj ho
         have d10 : bx.tmps.getD 10 undef = .pointer (some ⟨g, 0, none⟩) := hS.base 10
         refine .inl ⟨rfl, ends_value' (c := .pointer (some ⟨g, 1, none⟩)) ?_⟩
         simp [Act.eval, d10, go_sem]
        | 6, ho =>
         obtain rfl := Option.some.inj ho
         have d150 : bx.tmps.getD 150 undef = .pointer (some ⟨g, 1, none⟩) := hS.dep 5 150
         have hl := ((r8.on' (pdrew hbel)).cell 1 _ rfl)
         refine .inl ⟨rfl, ends_value' (c := .int .i64 P.pos) ?_⟩
         simp [Act.eval, d150, go_sem, hl]
        | 7, ho =>
         obtain rfl := Option.some.inj ho
         have d149 : bx.tmps.getD 149 undef = .string X6 := hS.dep 4 149
         have d151 : bx.tmps.getD 151 undef = .int .i64 P.pos := hS.dep 6 151
         refine .inl ⟨rfl, ends_value' (c := .string EX) ?_⟩
         simp [Act.eval, d149, d151, go_sem, hEX, q1, q4]
        | 8, ho =>
         obtain rfl := Option.some.inj ho
         have d152 : bx.tmps.getD 152 undef = .string EX := hS.dep 7 152
         refine .inl ⟨rfl, ends_call' (c := .int .u16 K) (f := 35) (args := #[.string EX]) ?_ (unhide HC u)⟩
         simp [Act.eval, d152, go_sem]
        | 9, ho =>
         obtain rfl := Option.some.inj ho
         have d153 : bx.tmps.getD 153 undef = .int .u16 K := hS.dep 8 153
         refine .inl ⟨rfl, ends_value' (c := .int .i64 K) ?_⟩
         simp [Act.eval, d153, go_sem, kK]
        | 10, ho =>
         obtain rfl := Option.some.inj ho
         have d145 : bx.tmps.getD 145 undef = .string X6 := hS.dep 0 145
         have d148 : bx.tmps.getD 148 undef = .int .i64 (P.pos + 2) := hS.dep 3 148
         have d154 : bx.tmps.getD 154 undef = .int .i64 K := hS.dep 9 154
         refine .inl ⟨rfl, ends_call' (c := .string X7) (f := 27) (args := #[.string X6, .int .i64 (P.pos + 2), .int .i64 2, .int .i64 K]) ?_ (unhide HW7 u)⟩
         simp [Act.eval, d145, d148, d154, go_sem]
        | 11, ho =>
         obtain rfl := Option.some.inj ho
         have d155 : bx.tmps.getD 155 undef = .string X7 := hS.dep 10 155
         refine .inl ⟨rfl, ends_value' (c := .string X7) ?_⟩
         simp [execOp, Act.eval, d155]
        | 12, ho =>
         obtain rfl := Option.some.inj ho
         refine .inl ⟨rfl, ends_value' (c := .int .i64 0) ?_⟩
         simp [execOp, Act.eval]
        | n + 13, ho => exact absurd ho (by simp)
       case fin =>
        intro u hbel
        simp [putAll, dstAt, Act.put]
        replace bel := Below.then bel (pdrew hbel)
        clear hbel re r8
        go_wp2_with fail
        go_ret2
        exact ⟨rfl, bel⟩


set_option maxRecDepth 100000 in
set_option maxHeartbeats 4000000 in
theorem rpabout_any (s : ByteArray) (src dst : Int) (t : En) (w : World) (hs : s.size ≤ 140737488360000) (hS : Ps.U32 src) (hD : Ps.U32 dst) (hT : Ps.U32 t.src ∧ Ps.U32 t.dst) :
  Calls Tryz.prog 17 #[.string s, .int .u32 src, .int .u32 dst, t.val] w fun e w' => e = .returned (.tuple #[.string (aboutS s src dst t), .int .i64 (alwE s 2 t)]) ∧ Below w.heap.size w w' := by
 have HAL := hide (fun u => ready_any s 2 t u hs)
 by_cases hx : alwE s 2 t = 0
 case neg =>
  have re := row_new w t.cells 36
  have bel := alloc_on' w (.cells t.cells.toArray 36)
  have HX := hide (aboutS_no (src := src) (dst := dst) hx)
  clear hs hT hS hD
  generalize aboutS s src dst t = R at *
  generalize alwE s 2 t = x at *
  generalize clsP s = p at *
  have tx : (x != 0) = true := by simpa using hx
  have t0 := re.cell 0 _ rfl
  have t1 := re.cell 1 _ rfl
  have t2 := re.cell 2 _ rfl
  have t3 := re.cell 3 _ rfl
  clear re hx
  go_enter Tryz.func17, Tryz.ntmps17
  go_wp2_with fail
  refine (unhide HAL _).mono ?_
  rintro e w1 ⟨rfl, hb⟩
  have HB := hide (Below.then (Below.then bel hb) (alloc_on' w1 (.cells p.cells.toArray 62)))
  clear hb t0 t1 t2 t3 bel
  go_wp2_with fail
  go_ret2
  exact ⟨ret_si' (unhide HX).symm rfl, unhide HB⟩
 obtain ⟨hc, hk, hQ1, hQ2, hl⟩ := alw_zero hx
 have told := told hc
 obtain ⟨p0, p1, p2, p3, p4, p5⟩ := told.at_
 obtain ⟨a1, a2, a3, a4, a5⟩ := told.about hk
 have wt : t.Wf := ⟨hT.1, hT.2, hQ1, hQ2⟩
 have hR : aboutS s src dst t = raS s src dst t := by rw [aboutS_yes hx, ra_eq told hk hl hS hD wt]
 rw [hR, hx]
 have hAL : ∀ u, Calls Tryz.prog 25 #[.string s, .int .i64 2, t.val] u fun e w' => e = .returned (.tuple #[(clsP s).val, .int .i64 0]) ∧ Below u.heap.size u w' := by
  intro u
  have h := unhide HAL u
  rw [hx] at h
  exact h
 have hgt : 1 ≤ got (s.extract 0 (clsP s).total.toNat) 8 1 := by
  have h1 : (s.extract 0 (clsP s).total.toNat).size = (clsP s).total.toNat := by rw [ByteArray.size_extract]; omega
  have e1 : got (s.extract 0 (clsP s).total.toNat) 8 1 = Oct.num (((s.extract 0 (clsP s).total.toNat).data.toList.drop 8).take 1) := Ic.got_of (p := 8) (k := 1) (by decide) (by omega)
  have e2 : got s 8 1 = Oct.num ((s.data.toList.drop 8).take 1) := Ic.got_of (p := 8) (k := 1) (by decide) (by omega)
  have e3 : got (s.extract 0 (clsP s).total.toNat) 8 1 = got s 8 1 := by rw [e1, e2, Oct.ext_list, List.drop_zero, List.drop_take, List.take_take, Nat.min_eq_left (by omega)]
  rw [e3, ← told.ttl]; omega
 have b1 := parseH_body (Ip.parseS s)
 have b2 := parseS_size s
 have b3 := parseS_1500 s
 have q6 := a2.lo
 have q7 := a2.hi
 have hA : Ps.U32 (clsP s).tup.src ∧ Ps.U32 (clsP s).tup.dst := by rw [a3]; exact ⟨a2.src, a2.dst⟩
 have hP : (0 ≤ (clsP s).tup.sport ∧ (clsP s).tup.sport ≤ 65535) ∧ (0 ≤ (clsP s).tup.dport ∧ (clsP s).tup.dport ≤ 65535) := by rw [a3]; exact ⟨a2.sport, a2.dport⟩
 have z6 := ra_size told hk hl hS hD wt
 have e1 : 0 ≤ (clsP s).quote := by omega
 have e2 : (clsP s).quote ≤ 2000 := by omega
 have e3 : 0 ≤ (clsP s).inner := by omega
 have e4 : (clsP s).inner ≤ 2000 + 1500 := by omega
 have e5 : (clsP s).inner ≤ 2000 := by
  have h : (Ip.parseS s).size = (clsP s).total.toNat - (clsP s).pos.toNat := by rw [told.body, ← told.pos, ← told.total, ByteArray.size_extract]; omega
  omega
 unfold raS
 generalize hX3 : ra3 (ra2 (routS (s.extract 0 (clsP s).total.toNat) (clsP s).pos src dst) (clsP s).quote (clsP s).tup t) (clsP s).quote t = X3 at *
 cases hth : gotB X3 ((clsP s).inner + Ps.plc (clsP s).tup.proto) 2 with
 | false => exact rabout_same s src dst t w (clsP s) _ _ X3 _ _ _ _ hs wt hS hD hAL p0 p1 p2 p3 hA hP e1 e2 e3 e5 hgt rfl rfl hX3 rfl rfl rfl rfl z6 (.inl hth)
 | true =>
  by_cases hW : (clsP s).tup.proto = 17 ∧ got X3 ((clsP s).inner + Ps.plc (clsP s).tup.proto) 2 = 0
  ·exact rabout_same s src dst t w (clsP s) _ _ X3 _ _ _ _ hs wt hS hD hAL p0 p1 p2 p3 hA hP e1 e2 e3 e5 hgt rfl rfl hX3 rfl rfl rfl rfl z6 (.inr ⟨hth, hW⟩)
  ·exact rabout_put s src dst t w (clsP s) _ _ X3 _ _ _ _ hs wt hS hD hAL p0 p1 p2 p3 hA hP e1 e2 e3 e5 hgt rfl rfl hX3 rfl rfl rfl rfl z6 hth hW
end Go.Proofs.YtpjaajeojiaeiaaGreatDoor
