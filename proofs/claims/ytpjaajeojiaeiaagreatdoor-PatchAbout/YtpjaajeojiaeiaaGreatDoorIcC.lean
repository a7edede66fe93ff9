/- Contracts and mathematics of the layers below (IcRef, IcRefP). -/
import Derived.Test.YtpjaajeojiaeiaaGreatDoorIcB
import Derived.Test.YtpjaajeojiaeiaaGreatDoorRg
/- What the reference computes: Num, ref, Build and Parse. -/
namespace Go.Proofs.YtpjaajeojiaeiaaGreatDoor.Ic
open Go.ChangeShapes Go.WideShapes Go.ChangeAt Go.RowKit

theorem hcell_of {V u : World} {b k B : Nat} {v : Value} (hb : Below B V.drew u) (h : b < B) (hc : V.cell? ⟨b, k, none⟩ = some v) : u.cell? ⟨b, k, none⟩ = some v := (hb.cell (p := ⟨b, k, none⟩) h).trans hc
set_option maxHeartbeats 400000 in
theorem num_any (size n : Int) (w : World) :
  Calls Tryz.prog 45 #[.int .i64 size, .int .i64 n] w fun e w' => e = .returned (.string (laid size n)) ∧ Below w.heap.size w w' := by
 go_enter Tryz.func45, Tryz.ntmps45
 go_wp2_with fail
 refine (rput_any _ _ _).mono ?_
 rintro e w1 ⟨rfl, hb⟩
 go_wp2_with fail
 go_ret
 exact ⟨rfl, hb⟩

set_option maxRecDepth 100000 in
set_option maxHeartbeats 2000000 in
theorem rbuild_any (h : Hd) (w : World) (hw : h.Wf) :
  Calls Tryz.prog 21 #[h.val] w fun e w' => e = .returned (.tuple #[.string (buildS h), .int .i64 (buildE h)]) ∧ Below w.heap.size w w' := by
 have HB := hide (alloc_on w (.cells #[.int .i64 h.kind, .int .i64 h.code, .int .u32 h.rest, .string h.body] 58))
 have bad : inB h.kind = false ∨ inB h.code = false → buildE h = 1 ∧ buildS h = ⟨#[]⟩ := fun hc => by
  have he : buildE h = 1 := by
   unfold buildE
   refine if_pos ?_
   rcases hc with e | e
   ·rw [e]; rfl
   ·rw [e, Bool.and_false]
  exact ⟨he, buildS_no (by rw [he]; decide)⟩
 have HX := hide bad
 clear bad
 by_cases k0 : h.kind < 0
 case pos =>
  have HE := hide (unhide HX (.inl (by simp [inB]; omega)))
  have d0 : decide (h.kind < 0) = true := by simpa using k0
  clear k0
  go_enter Tryz.func21, Tryz.ntmps21
  go_wp2
  go_ret2
  exact ⟨ret_si HE.out.2.symm HE.out.1.symm, unhide HB⟩
 case neg =>
 have d0 : decide (h.kind < 0) = false := by simpa using k0
 by_cases k1 : 255 < h.kind
 case pos =>
  have HE := hide (unhide HX (.inl (by simp [inB]; omega)))
  have d1 : decide (255 < h.kind) = true := by simpa using k1
  clear k0 k1
  go_enter Tryz.func21, Tryz.ntmps21
  go_wp2
  go_ret2
  exact ⟨ret_si HE.out.2.symm HE.out.1.symm, unhide HB⟩
 case neg =>
 have d1 : decide (255 < h.kind) = false := by simpa using k1
 by_cases c0 : h.code < 0
 case pos =>
  have HE := hide (unhide HX (.inr (by simp [inB]; omega)))
  have e0 : decide (h.code < 0) = true := by simpa using c0
  clear k0 k1 c0
  go_enter Tryz.func21, Tryz.ntmps21
  go_wp2
  go_ret2
  exact ⟨ret_si HE.out.2.symm HE.out.1.symm, unhide HB⟩
 case neg =>
 have e0 : decide (h.code < 0) = false := by simpa using c0
 by_cases c1 : 255 < h.code
 case pos =>
  have HE := hide (unhide HX (.inr (by simp [inB]; omega)))
  have e1 : decide (255 < h.code) = true := by simpa using c1
  clear k0 k1 c0 c1
  go_enter Tryz.func21, Tryz.ntmps21
  go_wp2
  go_ret2
  exact ⟨ret_si HE.out.2.symm HE.out.1.symm, unhide HB⟩
 case neg =>
 have e1 : decide (255 < h.code) = false := by simpa using c1
 have ek : inB h.kind = true := (inB_iff _).2 (by omega)
 have ec : inB h.code = true := (inB_iff _).2 (by omega)
 have hbz := hw.body
 clear HX
 by_cases hl : 1500 < 8 + (h.body.size : Int)
 case pos =>
  have HE : Hid (buildE h = 18) := by show _ = _; unfold buildE; rw [ek, ec, if_neg (by decide), if_pos hl]
  have HS : Hid (buildS h = ⟨#[]⟩) := buildS_no (by rw [HE.out]; decide)
  have hd : decide (1500 < 8 + (h.body.size : Int)) = true := by simpa using hl
  clear k0 k1 c0 c1 ek ec hw
  go_enter Tryz.func21, Tryz.ntmps21
  go_wp2
  go_ret2
  exact ⟨ret_si HS.out.symm HE.out.symm, unhide HB⟩
 case neg =>
 have HE : Hid (buildE h = 0) := by show _ = _; unfold buildE; rw [ek, ec, if_neg (by decide), if_neg hl]
 have HS : Hid (buildS h = built h) := buildS_of HE.out
 have hd : decide (1500 < 8 + (h.body.size : Int)) = false := by simpa using hl
 obtain ⟨g, hsz⟩ := good_of HE.out hw
 have r0 := g.r0
 have r1 := g.r1
 have kr := Oct.wraps_i64 h.rest r0 (by omega)
 have n0 := fun u => num_any 1 h.kind u
 have n1 := fun u => num_any 1 h.code u
 have n2 := fun u => num_any 4 h.rest u
 have HN3 := hide (fun u => num_any 2 (chk h) u)
 have hps := pre_size g
 have HCK := hide (fun u => rcheck_any (pre h) u (by omega))
 have HCE : Hid (65535 - Ck.sum (pre h).data.toList = chk h) := rfl
 rw [HCE.out] at HCK
 have hcl := chk_lo h
 have hch := chk_hi h
 have kc := Oct.wraps_i64 (chk h) hcl (by omega)
 have HP := hide (pre_ref h)
 have HU := hide (built_ref g)
 have sA := laid_size 1 h.kind
 have sB := laid_size 1 h.code
 have sC := laid_size 2 (chk h)
 have sD := laid_size 4 h.rest
 clear g hl ek ec hw k0 k1 c0 c1
 generalize built h = BU at *
 generalize chk h = CH at *
 generalize laid 1 h.kind = TA at *
 generalize laid 1 h.code = TB at *
 generalize laid 2 CH = TC at *
 generalize laid 4 h.rest = TD at *
 have a1 := add_run TA TB (by omega) (by omega)
 have a2 := add_run TD h.body (by omega) (by omega)
 have zM : (TA ++ TB).size ≤ 8 := by rw [ByteArray.size_append]; omega
 have zN : (TD ++ h.body).size ≤ 140737488355000 := by rw [ByteArray.size_append]; omega
 generalize TA ++ TB = M at *
 generalize TD ++ h.body = N at *
 have a3 := add_run M ⟨#[0, 0]⟩ (by omega) (by decide)
 have a4 := add_run (M ++ ⟨#[0, 0]⟩) N (by rw [ByteArray.size_append]; have : (⟨#[0, 0]⟩ : ByteArray).size = 2 := rfl; omega) (by omega)
 have a5 := add_run M TC (by omega) (by omega)
 have a6 := add_run (M ++ TC) N (by rw [ByteArray.size_append]; omega) (by omega)
 rw [HP.out] at a4
 rw [HU.out] at a6
 clear HP HU
 generalize hM0 : M ++ ⟨#[0, 0]⟩ = M0 at *
 generalize hM1 : M ++ TC = M1 at *
 generalize pre h = PR at *
 clear hM0 hM1 sA sB sC sD zM zN hps
 have hk := kept_new w h 58
 go_enter Tryz.func21, Tryz.ntmps21
 go_wp2_with fail
 generalize w.alloc (.cells #[.int .i64 h.kind, .int .i64 h.code, .int .u32 h.rest, .string h.body] 58) = V at *
 obtain ⟨q0, q1, q2, q3⟩ := hk.cells
 have hlt : w.heap.size < V.heap.size := hk.size
 have HBV := hide hk.below
 clear hk
 refine wp_region_grow (by kernel_rfl) [.pointer (some ⟨w.heap.size, 0, none⟩), .int .i64 h.kind, .string TA, .pointer (some ⟨w.heap.size, 1, none⟩), .int .i64 h.code, .string TB, .string M, .string M] (by kernel_rfl) ?op ?fin
 case op =>
  intro i o bx u ho hbel hS
  match i, ho with
  | 0, ho =>
   obtain rfl := Option.some.inj ho
   have d1 : bx.tmps.getD 1 undef = .pointer (some ⟨w.heap.size, 0, none⟩) := hS.base 1
   refine .inl ⟨rfl, ends_value' (c := .pointer (some ⟨w.heap.size, 0, none⟩)) ?_⟩
   simp [Act.eval, d1, go_sem]
  | 1, ho =>
   obtain rfl := Option.some.inj ho
   have d29 : bx.tmps.getD 29 undef = .pointer (some ⟨w.heap.size, 0, none⟩) := hS.dep 0 29
   have hl := hcell_of hbel hlt q0
   refine .inl ⟨rfl, ends_value' (c := .int .i64 h.kind) ?_⟩
   simp [Act.eval, d29, go_sem, hl]
  | 2, ho =>
   obtain rfl := Option.some.inj ho
   have d30 : bx.tmps.getD 30 undef = .int .i64 h.kind := hS.dep 1 30
   refine .inl ⟨rfl, ends_call' (c := .string TA) (f := 45) (args := #[.int .i64 1, .int .i64 h.kind]) ?_ (n0 u)⟩
   simp [Act.eval, d30, go_sem]
  | 3, ho =>
   obtain rfl := Option.some.inj ho
   have d1 : bx.tmps.getD 1 undef = .pointer (some ⟨w.heap.size, 0, none⟩) := hS.base 1
   refine .inl ⟨rfl, ends_value' (c := .pointer (some ⟨w.heap.size, 1, none⟩)) ?_⟩
   simp [Act.eval, d1, go_sem]
  | 4, ho =>
   obtain rfl := Option.some.inj ho
   have d32 : bx.tmps.getD 32 undef = .pointer (some ⟨w.heap.size, 1, none⟩) := hS.dep 3 32
   have hl := hcell_of hbel hlt q1
   refine .inl ⟨rfl, ends_value' (c := .int .i64 h.code) ?_⟩
   simp [Act.eval, d32, go_sem, hl]
  | 5, ho =>
   obtain rfl := Option.some.inj ho
   have d33 : bx.tmps.getD 33 undef = .int .i64 h.code := hS.dep 4 33
   refine .inl ⟨rfl, ends_call' (c := .string TB) (f := 45) (args := #[.int .i64 1, .int .i64 h.code]) ?_ (n1 u)⟩
   simp [Act.eval, d33, go_sem]
  | 6, ho =>
   obtain rfl := Option.some.inj ho
   have d31 : bx.tmps.getD 31 undef = .string TA := hS.dep 2 31
   have d34 : bx.tmps.getD 34 undef = .string TB := hS.dep 5 34
   refine .inl ⟨rfl, ends_value' (c := .string M) ?_⟩
   simp [Act.eval, d31, d34, go_sem, a1]
  | 7, ho =>
   obtain rfl := Option.some.inj ho
   have d35 : bx.tmps.getD 35 undef = .string M := hS.dep 6 35
   refine .inl ⟨rfl, ends_value' (c := .string M) ?_⟩
   simp [execOp, Act.eval, d35]
  | n + 8, ho => exact absurd ho (by simp)
 case fin =>
  intro u hbel
  simp [putAll, dstAt, Act.put]
  have hu1 : w.heap.size < u.heap.size := Nat.lt_of_lt_of_le hlt hbel.size
  have HBu : Below w.heap.size w u := (unhide HBV).drew.trans (hbel.mono (Nat.le_of_lt hlt))
  have p2 := hcell_of hbel hlt q2
  have p3 := hcell_of hbel hlt q3
  clear hbel q0 q1 q2 q3
  have q2 := p2
  have q3 := p3
  clear p2 p3
  generalize hU : u = U at *
  clear hU
  have HBu := HBu.drew
  go_wp2_with fail
  refine wp_region_grow (by kernel_rfl) [.pointer (some ⟨w.heap.size, 2, none⟩), .int .u32 h.rest, .int .i64 h.rest, .string TD, .pointer (some ⟨w.heap.size, 3, none⟩), .string h.body, .string N, .string N] (by kernel_rfl) ?op ?fin
  case op =>
   intro i o bx u ho hbel hS
   match i, ho with
   | 0, ho =>
    obtain rfl := Option.some.inj ho
    have d1 : bx.tmps.getD 1 undef = .pointer (some ⟨w.heap.size, 0, none⟩) := hS.base 1
    refine .inl ⟨rfl, ends_value' (c := .pointer (some ⟨w.heap.size, 2, none⟩)) ?_⟩
    simp [Act.eval, d1, go_sem]
   | 1, ho =>
    obtain rfl := Option.some.inj ho
    have d36 : bx.tmps.getD 36 undef = .pointer (some ⟨w.heap.size, 2, none⟩) := hS.dep 0 36
    have hl := hcell_of hbel hu1 q2
    refine .inl ⟨rfl, ends_value' (c := .int .u32 h.rest) ?_⟩
    simp [Act.eval, d36, go_sem, hl]
   | 2, ho =>
    obtain rfl := Option.some.inj ho
    have d37 : bx.tmps.getD 37 undef = .int .u32 h.rest := hS.dep 1 37
    refine .inl ⟨rfl, ends_value' (c := .int .i64 h.rest) ?_⟩
    simp [Act.eval, d37, go_sem, kr]
   | 3, ho =>
    obtain rfl := Option.some.inj ho
    have d38 : bx.tmps.getD 38 undef = .int .i64 h.rest := hS.dep 2 38
    refine .inl ⟨rfl, ends_call' (c := .string TD) (f := 45) (args := #[.int .i64 4, .int .i64 h.rest]) ?_ (n2 u)⟩
    simp [Act.eval, d38, go_sem]
   | 4, ho =>
    obtain rfl := Option.some.inj ho
    have d1 : bx.tmps.getD 1 undef = .pointer (some ⟨w.heap.size, 0, none⟩) := hS.base 1
    refine .inl ⟨rfl, ends_value' (c := .pointer (some ⟨w.heap.size, 3, none⟩)) ?_⟩
    simp [Act.eval, d1, go_sem]
   | 5, ho =>
    obtain rfl := Option.some.inj ho
    have d40 : bx.tmps.getD 40 undef = .pointer (some ⟨w.heap.size, 3, none⟩) := hS.dep 4 40
    have hl := hcell_of hbel hu1 q3
    refine .inl ⟨rfl, ends_value' (c := .string h.body) ?_⟩
    simp [Act.eval, d40, go_sem, hl]
   | 6, ho =>
    obtain rfl := Option.some.inj ho
    have d39 : bx.tmps.getD 39 undef = .string TD := hS.dep 3 39
    have d41 : bx.tmps.getD 41 undef = .string h.body := hS.dep 5 41
    refine .inl ⟨rfl, ends_value' (c := .string N) ?_⟩
    simp [Act.eval, d39, d41, go_sem, a2]
   | 7, ho =>
    obtain rfl := Option.some.inj ho
    have d42 : bx.tmps.getD 42 undef = .string N := hS.dep 6 42
    refine .inl ⟨rfl, ends_value' (c := .string N) ?_⟩
    simp [execOp, Act.eval, d42]
   | n + 8, ho => exact absurd ho (by simp)
  case fin =>
   intro u hbel
   simp [putAll, dstAt, Act.put]
   have hbu := HBu.trans (hbel.mono (by omega))
   have HBu := hide hbu
   clear hbel hbu q2 q3
   go_wp2_with fail
   refine (unhide HCK _).mono ?_
   rintro e w5 ⟨rfl, hb5⟩
   have HB5 := hide ((unhide HBu).trans (hb5.mono (unhide HBu).size))
   clear hb5
   go_wp2_with fail
   refine (unhide HN3 _).mono ?_
   rintro e w6 ⟨rfl, hb6⟩
   have HB6 := hide ((unhide HB5).trans (hb6.mono (unhide HB5).size))
   clear hb6
   go_wp2_with fail
   go_ret2
   exact ⟨ret_si HS.out.symm HE.out.symm, unhide HB6⟩
end Go.Proofs.YtpjaajeojiaeiaaGreatDoor.Ic

/- What the reference's Parse computes: the same as Parse. -/
namespace Go.Proofs.YtpjaajeojiaeiaaGreatDoor.Ic
open Go.ChangeShapes Go.WideShapes Go.ChangeAt Go.RowKit

theorem got_byte (s : ByteArray) (p : Nat) (h : p < s.size) : got s p 1 = ((s[p]'h).toNat : Int) := by
 have := got_of (s := s) (p := p) (k := 1) ⟨by decide, by decide⟩ (by omega)
 refine this.trans ?_
 have e : (s.data.toList.drop p).take 1 = [s[p]'h] := by
  have h2 : p < s.data.toList.length := by rw [Oct.len_eq]; exact h
  rw [List.drop_eq_getElem_cons h2]
  rfl
 rw [e]
 simp [Oct.num]
set_option maxRecDepth 100000 in
set_option maxHeartbeats 2000000 in
theorem rparse_any (s : ByteArray) (w : World) (hs : s.size ≤ 1048576) :
  Calls Tryz.prog 126 #[.string s] w fun e w' => e = .returned (.tuple #[(parseH s).val, .int .i64 (parseE s)]) ∧ Below w.heap.size w w' := by
 by_cases h8 : s.size < 8
 case pos =>
  have d8 : decide ((s.size : Int) < 8) = true := by simp; omega
  have HE : Hid (parseE s = 2) := by show _ = _; unfold parseE; rw [if_pos h8]
  have HH : Hid (parseH s = zeroHd) := parseH_no (by rw [HE.out]; decide)
  rw [HH.out, HE.out]
  go_enter Tryz.func126, Tryz.ntmps126
  go_wp2_with fail
  refine bodyPost_ret (v := .tuple #[.agg #[.int .i64 0, .int .i64 0, .int .u32 0, .string ⟨#[]⟩], .int .i64 2]) (by simp [results, Tryz.results126, go_sem]) rfl ⟨rfl, ?_⟩
  (repeat first | exact Below.refl _ _ | refine Below.drew ?_ | refine Below.alloc ?_ (by simp <;> omega) _ | refine Below.setCell ?_ (by simp <;> omega) _)
 case neg =>
 have d8 : decide ((s.size : Int) < 8) = false := by simp; omega
 have HSum := hide (fun u => rsum_any s u hs)
 have hN := newHd w zeroHd 58
 have hA := alloc_on w (.cells #[.int .i64 0, .int .i64 0, .int .u32 0, .string ⟨#[]⟩] 58)
 simp only [zeroHd] at hN
 have hz : w.heap.size < (w.alloc (.cells #[.int .i64 0, .int .i64 0, .int .u32 0, .string ⟨#[]⟩] 58)).heap.size := by simp
 generalize hV : w.alloc (.cells #[.int .i64 0, .int .i64 0, .int .u32 0, .string ⟨#[]⟩] 58) = V at *
 have HV := hide hV
 have HN := hide hN
 have HA := hide hA
 clear hV hN hA
 by_cases h7 : Ck.sum s.data.toList = 65535
 case neg =>
  have d7 : (Ck.sum s.data.toList != 65535) = true := by simpa using h7
  have HE : Hid (parseE s = 7) := by show _ = _; unfold parseE; rw [if_neg h8, if_neg h7]
  have HH : Hid (parseH s = zeroHd) := parseH_no (by rw [HE.out]; decide)
  rw [HH.out, HE.out]
  generalize Ck.sum s.data.toList = X at *
  clear h7 h8
  go_enter Tryz.func126, Tryz.ntmps126
  go_wp2_with fail
  rw [HV.out]
  refine (unhide HSum _).mono ?_
  rintro e w1 ⟨rfl, hb1⟩
  have hn1 := (unhide HN).on hb1 hz
  have hbel := (unhide HA).trans (hb1.mono (Nat.le_of_lt hz))
  have q0 := hn1.at_ 0 (by decide)
  have q1 := hn1.at_ 1 (by decide)
  have q2 := hn1.at_ 2 (by decide)
  have q3 := hn1.at_ 3 (by decide)
  simp only [hcell] at q0 q1 q2 q3
  have f0 := hn1.free 0
  have f1 := hn1.free 1
  have f2 := hn1.free 2
  have f3 := hn1.free 3
  have HB := hide hbel
  clear hb1 hn1 hbel
  go_wp2_with fail
  refine bodyPost_ret (v := .tuple #[.agg #[.int .i64 0, .int .i64 0, .int .u32 0, .string ⟨#[]⟩], .int .i64 7]) (by simp [results, Tryz.results126, go_sem, q0, q1, q2, q3]) rfl ⟨rfl, ?_⟩
  (repeat first | exact unhide HB | refine Below.drew ?_ | refine Below.alloc ?_ (by simp <;> omega) _ | refine Below.setCell ?_ (by simp <;> omega) _)
 case pos =>
  have d7 : (Ck.sum s.data.toList != 65535) = false := by simpa using h7
  have HE : Hid (parseE s = 0) := by show _ = _; unfold parseE; rw [if_neg h8, if_pos h7]
  have HH : Hid (parseH s = pH s) := parseH_of HE.out
  have hm : s.size ≤ maxLen := by unfold maxLen; omega
  have G4 := hide (fun u => rget_any s 4 4 u hm)
  have kw := wrap_u32 _ (got_lo s 4 4) (got_hi4 s 4)
  have g0 : got s 0 1 = ((s[0]'(by omega)).toNat : Int) := got_byte s 0 (by omega)
  have g1 : got s 1 1 = ((s[1]'(by omega)).toNat : Int) := got_byte s 1 (by omega)
  have HP : Hid (pH s = ⟨got s 0 1, got s 1 1, got s 4 4, s.extract 8 s.size⟩) := rfl
  rw [HH.out, HE.out, HP.out]
  have h8' : (8 : Int) ≤ s.size := by omega
  have b0 : (0 : Int) < s.size := by omega
  have b1 : (1 : Int) < s.size := by omega
  have x00 := got_lo s 0 1
  have x01 := got_hi1 s 0
  have x10 := got_lo s 1 1
  have x11 := got_hi1 s 1
  have hz8 : 0 < s.size := by omega
  have hz9 : 1 < s.size := by omega
  generalize Ck.sum s.data.toList = X at *
  generalize hx0 : got s 0 1 = x0 at *
  generalize hx1 : got s 1 1 = x1 at *
  generalize got s 4 4 = x4 at *
  generalize gotB s 4 4 = y4 at *
  have g0' := g0.symm
  have g1' := g1.symm
  have k0 := Oct.wraps_i64 x0 x00 (by omega)
  have k1 := Oct.wraps_i64 x1 x10 (by omega)
  clear h7 HP HH HE g0 g1 hx0 hx1
  go_enter Tryz.func126, Tryz.ntmps126
  go_wp2_with fail
  rw [HV.out]
  refine (unhide HSum _).mono ?_
  rintro e w1 ⟨rfl, hb1⟩
  have hn1 := (unhide HN).on hb1 hz
  have hbel := (unhide HA).trans (hb1.mono (Nat.le_of_lt hz))
  have hz1 : w.heap.size < w1.heap.size := Nat.lt_of_lt_of_le hz hb1.size
  have HB := hide hbel
  have HN1 := hide hn1
  clear hb1 hn1 hbel HN HA HV
  go_wp2_with fail
  refine (unhide G4 _).mono ?_
  rintro e w2 ⟨rfl, rfl⟩
  have q0 := (unhide HN1).at_ 0 (by decide)
  have q1 := (unhide HN1).at_ 1 (by decide)
  have q2 := (unhide HN1).at_ 2 (by decide)
  have q3 := (unhide HN1).at_ 3 (by decide)
  simp only [hcell] at q0 q1 q2 q3
  have f0 := (unhide HN1).free 0
  have f1 := (unhide HN1).free 1
  have f2 := (unhide HN1).free 2
  have f3 := (unhide HN1).free 3
  have HS := hide (setHd_at ⟨x0, x1, x4, s.extract 8 s.size⟩ (unhide HN1).at_)
  have HB := hide (setHd_below (unhide HB) w.heap.size ⟨x0, x1, x4, s.extract 8 s.size⟩ (Nat.le_refl _))
  go_wp2_with fail
  go_region
  go_wp2_with fail
  have HS := unhide HS
  have HB := unhide HB
  have c0 := HS 0 (by decide)
  have c1 := HS 1 (by decide)
  have c2 := HS 2 (by decide)
  have c3 := HS 3 (by decide)
  simp only [setHd, hcell] at c0 c1 c2 c3 HB
  refine bodyPost_ret (v := .tuple #[.agg #[.int .i64 x0, .int .i64 x1, .int .u32 x4, .string (s.extract 8 s.size)], .int .i64 0]) (by simp [results, Tryz.results126, go_sem, c0, c1, c2, c3]) rfl ⟨rfl, ?_⟩
  exact HB.drew
end Go.Proofs.YtpjaajeojiaeiaaGreatDoor.Ic
