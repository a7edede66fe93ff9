/- Contracts and mathematics of the layers below (TcRefP, TcMath). -/
import Derived.Test.YtpjaajeojiaeiaaGreatDoorTcC
import Derived.Test.YtpjaajeojiaeiaaGreatDoorTcB
/- What the reference Parse computes: the same as Parse. -/
namespace Go.Proofs.YtpjaajeojiaeiaaGreatDoor.Tc
open Go.ChangeShapes Go.WideShapes Go.ChangeAt Go.RowKit

theorem num2 (l : List UInt8) (p : Nat) (h : p + 1 < l.length) : (Oct.num ((l.drop p).take 2) : Int) = (l.getD p 0).toNat * 256 + (l.getD (p + 1) 0).toNat := by
 rw [drop_head l p (by omega), drop_head l (p + 1) h]
 simp [Oct.num]
theorem hsz_byte (s : ByteArray) (h : 20 ≤ s.size) : (4 : Int) * (((s[12]'(by omega)).toNat : Int) / 16) = hsz s := by
 have hb : gotB s 12 2 = true := (gotB_iff s 12 2).2 ⟨⟨by omega, by omega⟩, by omega, by omega⟩
 have e : got s 12 2 = ((s[12]'(by omega)).toNat : Int) * 256 + ((s[13]'(by omega)).toNat : Int) := by
  rw [got, if_pos hb]
  have := num2 s.data.toList 12 (by rw [Oct.len_eq]; omega)
  rw [getD_byte s 12 (by omega), getD_byte s 13 (by omega)] at this
  exact this
 unfold hsz
 rw [e]
 have := (s[12]'(by omega)).toNat_lt
 have := (s[13]'(by omega)).toNat_lt
 omega
theorem rget5_quiet (s : ByteArray) (pos size : Int) (w : World) (hs : s.size ≤ maxLen) :
  Calls Tryz.prog 125 #[.string s, .int .i64 pos, .int .i64 size] w fun e w' => e = .returned (.int .i64 (got s pos size)) ∧ Below w.heap.size w w' :=
 (rget5_any s pos size w hs).mono fun _ _ ⟨h1, h2⟩ => ⟨h1, by rw [h2]; exact Below.refl _ _⟩

set_option maxRecDepth 100000 in
set_option maxHeartbeats 4000000 in
theorem rparse_short (s : ByteArray) (w : World) (h20 : s.size < 20) :
  Calls Tryz.prog 88 #[.string s] w fun e w' => e = .returned (.tuple #[(parseH s).val, .string (parseS s), .int .i64 (parseE s)]) ∧ Below w.heap.size w w' := by
 have hd20 : decide ((s.size : Int) < 20) = true := by simp; omega
 have HE : Hid (parseE s = 2) := by show _ = _; unfold parseE; rw [if_pos h20]
 have HH : Hid (parseH s = zeroHd) := parseH_no (by rw [HE.out]; decide)
 have HS : Hid (parseS s = ⟨#[]⟩) := parseS_no (by rw [HE.out]; decide)
 go_enter Tryz.func88, Tryz.ntmps88
 go_wp2_with fail
 rw [HH.out, HS.out, HE.out]
 refine bodyPost_ret (v := .tuple #[.agg #[.int .i64 0, .int .i64 0, .int .u32 0, .int .u32 0, .int .i64 0, .int .i64 0, .int .i64 0, .string ⟨#[]⟩], .string ⟨#[]⟩, .int .i64 2]) (by simp [results, Tryz.results88, go_sem]) rfl ⟨rfl, ?_⟩
 (repeat first | exact Below.refl _ _ | refine Below.drew ?_ | refine Below.alloc ?_ (by simp <;> omega) _ | refine Below.setCell ?_ (by simp <;> omega) _)

set_option maxRecDepth 100000 in
set_option maxHeartbeats 4000000 in
theorem rparse_any (s : ByteArray) (w : World) (hs : s.size ≤ 281474976710656) :
  Calls Tryz.prog 88 #[.string s] w fun e w' => e = .returned (.tuple #[(parseH s).val, .string (parseS s), .int .i64 (parseE s)]) ∧ Below w.heap.size w w' := by
 by_cases h20 : s.size < 20
 ·exact rparse_short s w h20
 have hd20 : decide ((s.size : Int) < 20) = false := by simp; omega
 have hsm : s.size ≤ maxLen := by unfold maxLen; omega
 have hs9 : (s.size : Int) ≤ 281474976710656 := by omega
 have hby := hsz_byte s (by omega)
 have hlt12 := (s[12]'(by omega)).toNat_lt
 have h12 : 12 < s.size := by omega
 have HV : Hid (∀ V, w.alloc (.cells #[.int .i64 0, .int .i64 0, .int .u32 0, .int .u32 0, .int .i64 0, .int .i64 0, .int .i64 0, .string ⟨#[]⟩] 90) = V → NewHd V w.heap.size zeroHd ∧ Below w.heap.size w V ∧ w.heap.size + 1 ≤ V.heap.size) := by
  rintro V rfl
  have h := newHd w zeroHd 90
  simp only [zeroHd] at h
  exact ⟨h, alloc_on _ _, by simp⟩
 have hh0 := hsz_lo s
 have hh1 := hsz_hi s
 have hb0 : (0 : Int) ≤ ((s[12]'(by omega)).toNat : Int) := Int.natCast_nonneg _
 have hlt13 : ((s[12]'(by omega)).toNat : Int) < 256 := by omega
 clear hlt12
 generalize hb12 : ((s[12]'(by omega)).toNat : Int) = b12 at *
 by_cases ha : hsz s < 20
 case pos =>
  have HE : Hid (parseE s = 4) := by show _ = _; unfold parseE; rw [if_neg h20, if_pos ha]
  have HH : Hid (parseH s = zeroHd) := parseH_no (by rw [HE.out]; decide)
  have HS : Hid (parseS s = ⟨#[]⟩) := parseS_no (by rw [HE.out]; decide)
  have d1 : decide (hsz s < 20) = true := by simpa using ha
  go_enter Tryz.func88, Tryz.ntmps88
  go_wp2_with fail
  rw [HH.out, HS.out, HE.out]
  refine bodyPost_ret (v := .tuple #[.agg #[.int .i64 0, .int .i64 0, .int .u32 0, .int .u32 0, .int .i64 0, .int .i64 0, .int .i64 0, .string ⟨#[]⟩], .string ⟨#[]⟩, .int .i64 4]) (by simp [results, Tryz.results88, go_sem]) rfl ⟨rfl, ?_⟩
  (repeat first | exact Below.refl _ _ | refine Below.drew ?_ | refine Below.alloc ?_ (by simp <;> omega) _ | refine Below.setCell ?_ (by simp <;> omega) _)
 case neg =>
 have d1 : decide (hsz s < 20) = false := by simpa using ha
 by_cases hb : (s.size : Int) < hsz s
 case pos =>
  have HE : Hid (parseE s = 4) := by show _ = _; unfold parseE; rw [if_neg h20, if_neg ha, if_pos hb]
  have HH : Hid (parseH s = zeroHd) := parseH_no (by rw [HE.out]; decide)
  have HS : Hid (parseS s = ⟨#[]⟩) := parseS_no (by rw [HE.out]; decide)
  have d2 : decide ((s.size : Int) < hsz s) = true := by simpa using hb
  go_enter Tryz.func88, Tryz.ntmps88
  go_wp2_with fail
  rw [HH.out, HS.out, HE.out]
  refine bodyPost_ret (v := .tuple #[.agg #[.int .i64 0, .int .i64 0, .int .u32 0, .int .u32 0, .int .i64 0, .int .i64 0, .int .i64 0, .string ⟨#[]⟩], .string ⟨#[]⟩, .int .i64 4]) (by simp [results, Tryz.results88, go_sem]) rfl ⟨rfl, ?_⟩
  (repeat first | exact Below.refl _ _ | refine Below.drew ?_ | refine Below.alloc ?_ (by simp <;> omega) _ | refine Below.setCell ?_ (by simp <;> omega) _)
 case neg =>
 have d2 : decide ((s.size : Int) < hsz s) = false := by simpa using hb
 have hO : s.extract 20 (hsz s).toNat = pO s := rfl
 have hB : s.extract (hsz s).toNat s.size = pB s := rfl
 have hoz : (pO s).size ≤ 140737488355328 := by rw [← hO, Oct.ext_size _ _ _ (by omega)]; omega
 have hbz0 : (pB s).size ≤ 281474976710656 := by rw [← hB, Oct.ext_size _ _ _ (Nat.le_refl _)]; omega
 have h20' : (20 : Int) ≤ hsz s := by omega
 have hle : hsz s ≤ s.size := by omega
 cases hop : optsOk (pO s).data.toList with
 | false =>
  have HE : Hid (parseE s = 6) := by show _ = _; unfold parseE; rw [if_neg h20, if_neg ha, if_neg hb, if_neg (by rw [hop]; decide)]
  have HH : Hid (parseH s = zeroHd) := parseH_no (by rw [HE.out]; decide)
  have HS : Hid (parseS s = ⟨#[]⟩) := parseS_no (by rw [HE.out]; decide)
  go_enter Tryz.func88, Tryz.ntmps88
  go_wp2_with fail
  refine (roptsRight_any _ _ hoz).mono ?_
  rintro e w5 ⟨rfl, hq⟩
  have hq := hq.symm
  subst hq
  rw [hop]
  go_wp2_with fail
  rw [HH.out, HS.out, HE.out]
  refine bodyPost_ret (v := .tuple #[.agg #[.int .i64 0, .int .i64 0, .int .u32 0, .int .u32 0, .int .i64 0, .int .i64 0, .int .i64 0, .string ⟨#[]⟩], .string ⟨#[]⟩, .int .i64 6]) (by simp [results, Tryz.results88, go_sem]) rfl ⟨rfl, ?_⟩
  (repeat first | exact Below.refl _ _ | refine Below.drew ?_ | refine Below.alloc ?_ (by simp <;> omega) _ | refine Below.setCell ?_ (by simp <;> omega) _)
 | true =>
  have HE : Hid (parseE s = 0) := by show _ = _; unfold parseE; rw [if_neg h20, if_neg ha, if_neg hb, if_pos hop]
  have HH : Hid (parseH s = pH s) := by show _ = _; unfold parseH; rw [HE.out, if_pos rfl]
  have HS : Hid (parseS s = pB s) := by show _ = _; unfold parseS; rw [HE.out, if_pos rfl]
  clear ha hb
  go_enter Tryz.func88, Tryz.ntmps88
  go_wp2_with fail
  refine (roptsRight_any _ _ hoz).mono ?_
  rintro e w5 ⟨rfl, hq⟩
  have hq := hq.symm
  subst hq
  rw [hop]
  go_wp2_with fail
  have hV := HV.out _ rfl
  clear HV hop d1 d2
  generalize w.alloc (.cells #[.int .i64 0, .int .i64 0, .int .u32 0, .int .u32 0, .int .i64 0, .int .i64 0, .int .i64 0, .string ⟨#[]⟩] 90) = V at *
  obtain ⟨v1, v2, v3⟩ := hV
  have hon : ∀ {u : World}, Below V.heap.size V.drew u → NewHd u w.heap.size zeroHd ∧ Below w.heap.size w u := fun {u} hb =>
   have hb' : Below V.heap.size V u := ⟨hb.os, hb.tape, hb.output, hb.size, hb.block⟩
   ⟨v1.on hb' (by omega), v2.trans (hb'.mono (by omega))⟩
  have HPH : Hid (pH s = ⟨got s 0 2, got s 2 2, got s 4 4, got s 8 4, got s 12 2 % 4096, got s 14 2, got s 18 2, pO s⟩) := rfl
  have n0 := fun u => rget5_quiet s 0 2 u hsm
  have n1 := fun u => rget5_quiet s 2 2 u hsm
  have n2 := fun u => rget5_quiet s 4 4 u hsm
  have n3 := fun u => rget5_quiet s 8 4 u hsm
  have n4 := fun u => rget5_quiet s 12 2 u hsm
  have n5 := fun u => rget5_quiet s 14 2 u hsm
  have n6 := fun u => rget5_quiet s 18 2 u hsm
  have b0 := got_lo s 12 2
  have b1 := got_hi2 s 12
  have kx := wrap_u32 _ (got_lo s 4 4) (got_hi4 s 4)
  have ky := wrap_u32 _ (got_lo s 8 4) (got_hi4 s 8)
  generalize got s 12 2 = Z at *
  generalize got s 4 4 = X at *
  generalize got s 8 4 = Y at *
  generalize got s 0 2 = A0 at *
  generalize got s 2 2 = A1 at *
  generalize got s 14 2 = A5 at *
  generalize got s 18 2 = A6 at *
  have kz : Z.tmod 4096 = Z % 4096 := Int.tmod_eq_emod_of_nonneg b0
  have kw := Oct.wraps_i64 (Z % 4096) (by omega) (by omega)
  generalize pO s = O at *
  generalize pB s = B at *
  refine wp_region_grow_store (by kernel_rfl) [.string s, .int .i64 A0, .string s, .int .i64 A1, .string s, .int .i64 X, .int .u32 X, .string s, .int .i64 Y, .int .u32 Y, .string s, .int .i64 Z, .int .i64 (Z % 4096), .string s, .int .i64 A5, .string s, .int .i64 A6, .string s, .int .i64 (hsz s), .string O, .agg #[.int .i64 A0, .int .i64 A1, .int .u32 X, .int .u32 Y, .int .i64 (Z % 4096), .int .i64 A5, .int .i64 A6, .string O], .string s, .int .i64 (hsz s), .string B, undef, .string B, .int .i64 (0)] 24 (fun v => setHd v w.heap.size ⟨A0, A1, X, Y, Z % 4096, A5, A6, O⟩) (by kernel_rfl) (by decide) rfl ?op ?store ?fin
  case op =>
   intro i o bx u ho hne hbel hS
   match i, ho with
   | 0, ho =>
    obtain rfl := Option.some.inj ho
    have d0 : bx.tmps.getD 0 undef = .string s := hS.base 0
    refine .inl ⟨rfl, ends_value (c := .string s) ?_⟩
    simp [execOp, Act.eval, d0]
   | 1, ho =>
    obtain rfl := Option.some.inj ho
    have d32 : bx.tmps.getD 32 undef = .string s := hS.dep 0 32
    refine .inl ⟨rfl, ends_call (c := .int .i64 A0) (by kernel_rfl) (f := 125) (args := #[.string s, .int .i64 0, .int .i64 2]) ?_ (n0 u)⟩
    simp [Act.eval, d32, go_sem]
   | 2, ho =>
    obtain rfl := Option.some.inj ho
    have d0 : bx.tmps.getD 0 undef = .string s := hS.base 0
    refine .inl ⟨rfl, ends_value (c := .string s) ?_⟩
    simp [execOp, Act.eval, d0]
   | 3, ho =>
    obtain rfl := Option.some.inj ho
    have d34 : bx.tmps.getD 34 undef = .string s := hS.dep 2 34
    refine .inl ⟨rfl, ends_call (c := .int .i64 A1) (by kernel_rfl) (f := 125) (args := #[.string s, .int .i64 2, .int .i64 2]) ?_ (n1 u)⟩
    simp [Act.eval, d34, go_sem]
   | 4, ho =>
    obtain rfl := Option.some.inj ho
    have d0 : bx.tmps.getD 0 undef = .string s := hS.base 0
    refine .inl ⟨rfl, ends_value (c := .string s) ?_⟩
    simp [execOp, Act.eval, d0]
   | 5, ho =>
    obtain rfl := Option.some.inj ho
    have d36 : bx.tmps.getD 36 undef = .string s := hS.dep 4 36
    refine .inl ⟨rfl, ends_call (c := .int .i64 X) (by kernel_rfl) (f := 125) (args := #[.string s, .int .i64 4, .int .i64 4]) ?_ (n2 u)⟩
    simp [Act.eval, d36, go_sem]
   | 6, ho =>
    obtain rfl := Option.some.inj ho
    have d37 : bx.tmps.getD 37 undef = .int .i64 X := hS.dep 5 37
    refine .inl ⟨rfl, ends_value (c := .int .u32 X) ?_⟩
    simp [Act.eval, d37, go_sem, kx]
   | 7, ho =>
    obtain rfl := Option.some.inj ho
    have d0 : bx.tmps.getD 0 undef = .string s := hS.base 0
    refine .inl ⟨rfl, ends_value (c := .string s) ?_⟩
    simp [execOp, Act.eval, d0]
   | 8, ho =>
    obtain rfl := Option.some.inj ho
    have d39 : bx.tmps.getD 39 undef = .string s := hS.dep 7 39
    refine .inl ⟨rfl, ends_call (c := .int .i64 Y) (by kernel_rfl) (f := 125) (args := #[.string s, .int .i64 8, .int .i64 4]) ?_ (n3 u)⟩
    simp [Act.eval, d39, go_sem]
   | 9, ho =>
    obtain rfl := Option.some.inj ho
    have d40 : bx.tmps.getD 40 undef = .int .i64 Y := hS.dep 8 40
    refine .inl ⟨rfl, ends_value (c := .int .u32 Y) ?_⟩
    simp [Act.eval, d40, go_sem, ky]
   | 10, ho =>
    obtain rfl := Option.some.inj ho
    have d0 : bx.tmps.getD 0 undef = .string s := hS.base 0
    refine .inl ⟨rfl, ends_value (c := .string s) ?_⟩
    simp [execOp, Act.eval, d0]
   | 11, ho =>
    obtain rfl := Option.some.inj ho
    have d42 : bx.tmps.getD 42 undef = .string s := hS.dep 10 42
    refine .inl ⟨rfl, ends_call (c := .int .i64 Z) (by kernel_rfl) (f := 125) (args := #[.string s, .int .i64 12, .int .i64 2]) ?_ (n4 u)⟩
    simp [Act.eval, d42, go_sem]
   | 12, ho =>
    obtain rfl := Option.some.inj ho
    have d43 : bx.tmps.getD 43 undef = .int .i64 Z := hS.dep 11 43
    refine .inl ⟨rfl, ends_value (c := .int .i64 (Z % 4096)) ?_⟩
    simp [Act.eval, d43, go_sem, kz]
   | 13, ho =>
    obtain rfl := Option.some.inj ho
    have d0 : bx.tmps.getD 0 undef = .string s := hS.base 0
    refine .inl ⟨rfl, ends_value (c := .string s) ?_⟩
    simp [execOp, Act.eval, d0]
   | 14, ho =>
    obtain rfl := Option.some.inj ho
    have d45 : bx.tmps.getD 45 undef = .string s := hS.dep 13 45
    refine .inl ⟨rfl, ends_call (c := .int .i64 A5) (by kernel_rfl) (f := 125) (args := #[.string s, .int .i64 14, .int .i64 2]) ?_ (n5 u)⟩
    simp [Act.eval, d45, go_sem]
   | 15, ho =>
    obtain rfl := Option.some.inj ho
    have d0 : bx.tmps.getD 0 undef = .string s := hS.base 0
    refine .inl ⟨rfl, ends_value (c := .string s) ?_⟩
    simp [execOp, Act.eval, d0]
   | 16, ho =>
    obtain rfl := Option.some.inj ho
    have d47 : bx.tmps.getD 47 undef = .string s := hS.dep 15 47
    refine .inl ⟨rfl, ends_call (c := .int .i64 A6) (by kernel_rfl) (f := 125) (args := #[.string s, .int .i64 18, .int .i64 2]) ?_ (n6 u)⟩
    simp [Act.eval, d47, go_sem]
   | 17, ho =>
    obtain rfl := Option.some.inj ho
    have d0 : bx.tmps.getD 0 undef = .string s := hS.base 0
    refine .inl ⟨rfl, ends_value (c := .string s) ?_⟩
    simp [execOp, Act.eval, d0]
   | 18, ho =>
    obtain rfl := Option.some.inj ho
    have d5 : bx.tmps.getD 5 undef = .int .i64 (hsz s) := hS.base 5
    refine .inl ⟨rfl, ends_value (c := .int .i64 (hsz s)) ?_⟩
    simp [execOp, Act.eval, d5]
   | 19, ho =>
    obtain rfl := Option.some.inj ho
    have d49 : bx.tmps.getD 49 undef = .string s := hS.dep 17 49
    have d50 : bx.tmps.getD 50 undef = .int .i64 (hsz s) := hS.dep 18 50
    refine .inl ⟨rfl, ends_value (c := .string O) ?_⟩
    simp [Act.eval, d49, d50, go_sem, h20', hle, hO]
   | 20, ho =>
    obtain rfl := Option.some.inj ho
    have d33 : bx.tmps.getD 33 undef = .int .i64 A0 := hS.dep 1 33
    have q33 : bx.tmps[33]?.getD undef = .int .i64 A0 := by rw [← Array.getD_eq_getD_getElem?]; exact d33
    have d35 : bx.tmps.getD 35 undef = .int .i64 A1 := hS.dep 3 35
    have q35 : bx.tmps[35]?.getD undef = .int .i64 A1 := by rw [← Array.getD_eq_getD_getElem?]; exact d35
    have d38 : bx.tmps.getD 38 undef = .int .u32 X := hS.dep 6 38
    have q38 : bx.tmps[38]?.getD undef = .int .u32 X := by rw [← Array.getD_eq_getD_getElem?]; exact d38
    have d41 : bx.tmps.getD 41 undef = .int .u32 Y := hS.dep 9 41
    have q41 : bx.tmps[41]?.getD undef = .int .u32 Y := by rw [← Array.getD_eq_getD_getElem?]; exact d41
    have d44 : bx.tmps.getD 44 undef = .int .i64 (Z % 4096) := hS.dep 12 44
    have q44 : bx.tmps[44]?.getD undef = .int .i64 (Z % 4096) := by rw [← Array.getD_eq_getD_getElem?]; exact d44
    have d46 : bx.tmps.getD 46 undef = .int .i64 A5 := hS.dep 14 46
    have q46 : bx.tmps[46]?.getD undef = .int .i64 A5 := by rw [← Array.getD_eq_getD_getElem?]; exact d46
    have d48 : bx.tmps.getD 48 undef = .int .i64 A6 := hS.dep 16 48
    have q48 : bx.tmps[48]?.getD undef = .int .i64 A6 := by rw [← Array.getD_eq_getD_getElem?]; exact d48
    have d51 : bx.tmps.getD 51 undef = .string O := hS.dep 19 51
    have q51 : bx.tmps[51]?.getD undef = .string O := by rw [← Array.getD_eq_getD_getElem?]; exact d51
    refine .inl ⟨rfl, ends_value (c := .agg #[.int .i64 A0, .int .i64 A1, .int .u32 X, .int .u32 Y, .int .i64 (Z % 4096), .int .i64 A5, .int .i64 A6, .string O]) ?_⟩
    simp [Act.eval, q33, q35, q38, q41, q44, q46, q48, q51, go_sem]
   | 21, ho =>
    obtain rfl := Option.some.inj ho
    have d0 : bx.tmps.getD 0 undef = .string s := hS.base 0
    refine .inl ⟨rfl, ends_value (c := .string s) ?_⟩
    simp [execOp, Act.eval, d0]
   | 22, ho =>
    obtain rfl := Option.some.inj ho
    have d5 : bx.tmps.getD 5 undef = .int .i64 (hsz s) := hS.base 5
    refine .inl ⟨rfl, ends_value (c := .int .i64 (hsz s)) ?_⟩
    simp [execOp, Act.eval, d5]
   | 23, ho =>
    obtain rfl := Option.some.inj ho
    have d53 : bx.tmps.getD 53 undef = .string s := hS.dep 21 53
    have d54 : bx.tmps.getD 54 undef = .int .i64 (hsz s) := hS.dep 22 54
    refine .inl ⟨rfl, ends_value (c := .string B) ?_⟩
    simp [Act.eval, d53, d54, go_sem, hle, hB, hh0]
   | 24, _ => exact absurd rfl hne
   | 25, ho =>
    obtain rfl := Option.some.inj ho
    have d55 : bx.tmps.getD 55 undef = .string B := hS.dep 23 55
    refine .inl ⟨rfl, ends_value (c := .string B) ?_⟩
    simp [execOp, Act.eval, d55]
   | 26, ho =>
    obtain rfl := Option.some.inj ho
    refine .inl ⟨rfl, ends_value (c := .int .i64 (0)) ?_⟩
    simp [execOp, Act.eval]
   | n + 27, ho => exact absurd ho (by simp)
  case store =>
   intro o bx u ho hbel hS
   obtain rfl := Option.some.inj ho
   have d2 : bx.tmps.getD 2 undef = .pointer (some ⟨w.heap.size, 0, none⟩) := hS.base 2
   have d52 : bx.tmps.getD 52 undef = .agg #[.int .i64 A0, .int .i64 A1, .int .u32 X, .int .u32 Y, .int .i64 (Z % 4096), .int .i64 A5, .int .i64 A6, .string O] := hS.dep 20 52
   have hn := (hon hbel).1
   have r0 := hn.at_ 0 (by decide)
   have r1 := hn.at_ 1 (by decide)
   have r2 := hn.at_ 2 (by decide)
   have r3 := hn.at_ 3 (by decide)
   have r4 := hn.at_ 4 (by decide)
   have r5 := hn.at_ 5 (by decide)
   have r6 := hn.at_ 6 (by decide)
   have r7 := hn.at_ 7 (by decide)
   simp only [hcell, zeroHd] at r0 r1 r2 r3 r4 r5 r6 r7
   have rf := hn.free
   unfold setHd
   refine ⟨rfl, ?_⟩
   simp [Act.eval, d2, d52, go_sem, r0, r1, r2, r3, r4, r5, r6, r7, rf]
  case fin =>
   intro u hbel
   simp [putAll, dstAt, Act.put]
   have hz := setHd_at ⟨A0, A1, X, Y, Z % 4096, A5, A6, O⟩ (hon hbel).1.at_
   have hbz := setHd_below (hon hbel).2 w.heap.size ⟨A0, A1, X, Y, Z % 4096, A5, A6, O⟩ (Nat.le_refl _)
   generalize setHd u w.heap.size ⟨A0, A1, X, Y, Z % 4096, A5, A6, O⟩ = z at *
   go_wp2_with fail
   have g0 := hz 0 (by decide)
   have g1 := hz 1 (by decide)
   have g2 := hz 2 (by decide)
   have g3 := hz 3 (by decide)
   have g4 := hz 4 (by decide)
   have g5 := hz 5 (by decide)
   have g6 := hz 6 (by decide)
   have g7 := hz 7 (by decide)
   simp only [hcell] at g0 g1 g2 g3 g4 g5 g6 g7
   rw [HH.out, HS.out, HE.out, unhide HPH]
   refine bodyPost_ret (v := .tuple #[.agg #[.int .i64 A0, .int .i64 A1, .int .u32 X, .int .u32 Y, .int .i64 (Z % 4096), .int .i64 A5, .int .i64 A6, .string O], .string B, .int .i64 0]) ?_ rfl ⟨rfl, hbz⟩
   simp [results, Tryz.results88, go_sem, g0, g1, g2, g3, g4, g5, g6, g7]
end Go.Proofs.YtpjaajeojiaeiaaGreatDoor.Tc

/- What is built is parsed as it was; what is parsed is built as it stood, but for its check: mathematics of bytes. -/
namespace Go.Proofs.YtpjaajeojiaeiaaGreatDoor.Tc
open Go.ChangeShapes Go.WideShapes Go.ChangeAt Go.RowKit

theorem laid_list {size n : Int} (h1 : 1 ≤ size) (h2 : size ≤ 4) (h3 : 0 ≤ n) (h4 : n.toNat < 256 ^ size.toNat) : (laid size n).data.toList = Oct.be size.toNat n.toNat := by
 unfold laid
 rw [if_pos ((laidB_iff size n).2 ⟨⟨h1, h2⟩, h3, h4⟩)]
theorem laid2 {n : Int} (h0 : 0 ≤ n) (h1 : n ≤ 65535) : (laid 2 n).data.toList = Oct.be 2 n.toNat := laid_list (by decide) (by decide) h0 (by show _ < 65536; omega)
theorem laid4 {n : Int} (h0 : 0 ≤ n) (h1 : n ≤ 4294967295) : (laid 4 n).data.toList = Oct.be 4 n.toNat := laid_list (by decide) (by decide) h0 (by show _ < 4294967296; omega)
theorem hword_lo {h : Hd} (r : RightP h) : 0 ≤ hword h := by unfold hword; have := r.flags; omega
theorem hword_hi {h : Hd} (r : RightP h) : hword h ≤ 65535 := by unfold hword; have := r.flags; have := r.o40; omega
/-- The first twenty bytes. -/
def fixL (h : Hd) : List UInt8 := Oct.be 2 h.src.toNat ++ (Oct.be 2 h.dst.toNat ++ (Oct.be 4 h.seq.toNat ++ (Oct.be 4 h.ack.toNat ++ (Oct.be 2 (hword h).toNat ++ (Oct.be 2 h.win.toNat ++ ([0, 0] ++ Oct.be 2 h.urg.toNat))))))
theorem fixL_length (h : Hd) : (fixL h).length = 20 := by unfold fixL; simp [Oct.be_length]
theorem built_list {h : Hd} (r : RightP h) (hw : h.Wf) (body : ByteArray) : (built h body).data.toList = fixL h ++ (h.opts.data.toList ++ body.data.toList) := by
 rw [built_laid]
 simp only [app_list]
 rw [laid2 r.src.1 r.src.2, laid2 r.dst.1 r.dst.2, laid4 hw.seq.1 hw.seq.2, laid4 hw.ack.1 hw.ack.2, laid2 (hword_lo r) (hword_hi r), laid2 r.win.1 r.win.2, laid2 r.urg.1 r.urg.2]
 unfold fixL
 simp only [List.append_assoc]
theorem got_part {s : ByteArray} {A B C : List UInt8} {p k : Nat} (hl : s.data.toList = A ++ (B ++ C)) (ha : A.length = p) (hb : B.length = k) (k1 : 1 ≤ k) (k4 : k ≤ 4) : got s p k = (Oct.num B : Int) := by
 have hz : s.size = p + k + C.length := by rw [← Oct.len_eq, hl, List.length_append, List.length_append]; omega
 have hg : gotB s p k = true := (gotB_iff s p k).2 ⟨⟨by omega, by omega⟩, by omega, by omega⟩
 rw [got, if_pos hg, hl]
 have e1 : ((p : Int)).toNat = A.length := by omega
 have e2 : ((k : Int)).toNat = B.length := by omega
 rw [e1, e2, List.drop_left, List.take_left]
theorem num_be' (k : Nat) (n : Int) (h0 : 0 ≤ n) (h1 : n.toNat < 256 ^ k) : (Oct.num (Oct.be k n.toNat) : Int) = n := by rw [Oct.num_be k _ h1]; omega
/-- What begins with the fixed part of h: its numbers. -/
structure Gots (s : ByteArray) (h : Hd) : Prop where
 src : got s 0 2 = h.src
 dst : got s 2 2 = h.dst
 seq : got s 4 4 = h.seq
 ack : got s 8 4 = h.ack
 word : got s 12 2 = hword h
 win : got s 14 2 = h.win
 urg : got s 18 2 = h.urg
theorem gots_of {s : ByteArray} {h : Hd} (r : RightP h) (hw : h.Wf) {C : List UInt8} (hl : s.data.toList = fixL h ++ C) : Gots s h := by
 unfold fixL at hl
 simp only [List.append_assoc] at hl
 have n2 : ∀ n : Int, 0 ≤ n → n ≤ 65535 → (Oct.num (Oct.be 2 n.toNat) : Int) = n := fun n h0 h1 => num_be' 2 n h0 (by show _ < 65536; omega)
 have n4 : ∀ n : Int, 0 ≤ n → n ≤ 4294967295 → (Oct.num (Oct.be 4 n.toNat) : Int) = n := fun n h0 h1 => num_be' 4 n h0 (by show _ < 4294967296; omega)
 refine ⟨?_, ?_, ?_, ?_, ?_, ?_, ?_⟩
 ·rw [← n2 _ r.src.1 r.src.2]; exact got_part (A := []) (p := 0) (k := 2) hl rfl (Oct.be_length _ _) (by decide) (by decide)
 ·rw [← n2 _ r.dst.1 r.dst.2]; refine got_part (A := Oct.be 2 h.src.toNat) (p := 2) (k := 2) hl (Oct.be_length _ _) (Oct.be_length _ _) (by decide) (by decide)
 ·rw [← n4 _ hw.seq.1 hw.seq.2]; refine got_part (A := Oct.be 2 h.src.toNat ++ Oct.be 2 h.dst.toNat) (C := Oct.be 4 h.ack.toNat ++ (Oct.be 2 (hword h).toNat ++ (Oct.be 2 h.win.toNat ++ ([0, 0] ++ (Oct.be 2 h.urg.toNat ++ C))))) (p := 4) (k := 4) (hl.trans ?_) (by simp [Oct.be_length]) (Oct.be_length _ _) (by decide) (by decide); simp only [List.append_assoc]
 ·rw [← n4 _ hw.ack.1 hw.ack.2]; refine got_part (A := Oct.be 2 h.src.toNat ++ (Oct.be 2 h.dst.toNat ++ Oct.be 4 h.seq.toNat)) (C := Oct.be 2 (hword h).toNat ++ (Oct.be 2 h.win.toNat ++ ([0, 0] ++ (Oct.be 2 h.urg.toNat ++ C)))) (p := 8) (k := 4) (hl.trans ?_) (by simp [Oct.be_length]) (Oct.be_length _ _) (by decide) (by decide); simp only [List.append_assoc]
 ·rw [← n2 _ (hword_lo r) (hword_hi r)]; refine got_part (A := Oct.be 2 h.src.toNat ++ (Oct.be 2 h.dst.toNat ++ (Oct.be 4 h.seq.toNat ++ Oct.be 4 h.ack.toNat))) (C := Oct.be 2 h.win.toNat ++ ([0, 0] ++ (Oct.be 2 h.urg.toNat ++ C))) (p := 12) (k := 2) (hl.trans ?_) (by simp [Oct.be_length]) (Oct.be_length _ _) (by decide) (by decide); simp only [List.append_assoc]
 ·rw [← n2 _ r.win.1 r.win.2]; refine got_part (A := Oct.be 2 h.src.toNat ++ (Oct.be 2 h.dst.toNat ++ (Oct.be 4 h.seq.toNat ++ (Oct.be 4 h.ack.toNat ++ Oct.be 2 (hword h).toNat)))) (C := [0, 0] ++ (Oct.be 2 h.urg.toNat ++ C)) (p := 14) (k := 2) (hl.trans ?_) (by simp [Oct.be_length]) (Oct.be_length _ _) (by decide) (by decide); simp only [List.append_assoc]
 ·rw [← n2 _ r.urg.1 r.urg.2]; refine got_part (A := Oct.be 2 h.src.toNat ++ (Oct.be 2 h.dst.toNat ++ (Oct.be 4 h.seq.toNat ++ (Oct.be 4 h.ack.toNat ++ (Oct.be 2 (hword h).toNat ++ (Oct.be 2 h.win.toNat ++ [0, 0])))))) (C := C) (p := 18) (k := 2) (hl.trans ?_) (by simp [Oct.be_length]) (Oct.be_length _ _) (by decide) (by decide); simp only [List.append_assoc]
theorem hsz_of {s : ByteArray} {h : Hd} (r : RightP h) (g : Gots s h) : hsz s = 20 + h.opts.size := by
 unfold hsz; rw [g.word]; unfold hword; have := r.flags; have := r.o4; omega
theorem word_mod {h : Hd} (r : RightP h) : hword h % 4096 = h.flags := by unfold hword; have := r.flags; omega
theorem ext_of {s : ByteArray} {a b : Nat} {A B C : List UInt8} {x : ByteArray} (hl : s.data.toList = A ++ (B ++ C)) (ha : A.length = a) (hb : A.length + B.length = b) (hx : x.data.toList = B) : s.extract a b = x := by
 apply Oct.ba_ext
 rw [Oct.ext_list, hx, hl, ← List.append_assoc, ← hb, ← List.length_append, List.take_left, ← ha, List.drop_left]
/-- A segment that was built. -/
theorem parse_built {h : Hd} (r : RightP h) (hw : h.Wf) (body : ByteArray) : parseE (built h body) = 0 ∧ parseH (built h body) = h ∧ parseS (built h body) = body := by
 have hl := built_list r hw body
 have g := gots_of r hw hl
 have hz := hsz_of r g
 have hsz : (built h body).size = 20 + h.opts.size + body.size := by rw [← Oct.len_eq, hl, List.length_append, List.length_append, fixL_length, Oct.len_eq, Oct.len_eq]; omega
 have hO : pO (built h body) = h.opts := by
  unfold pO
  exact ext_of hl (fixL_length h) (by rw [fixL_length, Oct.len_eq, hz]; omega) rfl
 have hB : pB (built h body) = body := by
  unfold pB
  refine ext_of (A := fixL h ++ h.opts.data.toList) (B := body.data.toList) (C := []) ?_ ?_ ?_ rfl
  ·rw [hl, List.append_nil, List.append_assoc]
  ·rw [List.length_append, fixL_length, Oct.len_eq, hz]; omega
  ·rw [List.length_append, fixL_length, Oct.len_eq, Oct.len_eq, hsz]
 have hE : parseE (built h body) = 0 := by
  unfold parseE
  rw [if_neg (by omega), if_neg (by omega), if_neg (by omega), hO, if_pos r.ok]
 refine ⟨hE, ?_, ?_⟩
 ·unfold parseH
  rw [if_pos hE]
  unfold pH
  rw [g.src, g.dst, g.seq, g.ack, g.word, g.win, g.urg, hO, word_mod r]
 ·unfold parseS
  rw [if_pos hE, hB]
theorem built_size {h : Hd} (r : RightP h) (hw : h.Wf) (body : ByteArray) : (built h body).size = 20 + h.opts.size + body.size := by
 rw [← Oct.len_eq, built_list r hw body, List.length_append, List.length_append, fixL_length, Oct.len_eq, Oct.len_eq]; omega
theorem buildE_of {h : Hd} {body : ByteArray} (r : RightP h) (hb : btotal h body ≤ 1500) : buildE h body = 0 := by unfold buildE; rw [if_neg (by rw [rightP_to r]; decide), if_neg (by omega)]
theorem buildS_of {h : Hd} {body : ByteArray} (he : buildE h body = 0) : buildS h body = built h body := by unfold buildS; rw [he, if_pos rfl]
theorem pH_wf (s : ByteArray) (hs : s.size ≤ 140737488355328) : (pH s).Wf := by
 have w2 : ∀ p, -9223372036854775808 ≤ got s p 2 ∧ got s p 2 ≤ 9223372036854775807 := fun p => by have := got_lo s p 2; have := got_hi2 s p; omega
 refine ⟨w2 0, w2 2, ⟨got_lo _ _ _, got_hi4 _ _⟩, ⟨got_lo _ _ _, got_hi4 _ _⟩, ?_, w2 14, w2 18, ?_⟩
 ·show -9223372036854775808 ≤ got s 12 2 % 4096 ∧ got s 12 2 % 4096 ≤ 9223372036854775807; omega
 ·show (s.extract 20 (hsz s).toNat).size ≤ _
  rw [← Oct.len_eq, Oct.ext_list, List.length_drop, List.length_take, Oct.len_eq]; omega
theorem zero_wf : zeroHd.Wf := ⟨by decide, by decide, by decide, by decide, by decide, by decide, by decide, by decide⟩
theorem parseH_wf (s : ByteArray) (hs : s.size ≤ 140737488355328) : (parseH s).Wf := by
 unfold parseH; split
 ·exact pH_wf s hs
 ·exact zero_wf
theorem parseS_size (s : ByteArray) : (parseS s).size ≤ s.size := by
 unfold parseS; split
 ·unfold pB; rw [← Oct.len_eq, Oct.ext_list, List.length_drop, List.length_take, Oct.len_eq]; omega
 ·exact Nat.zero_le _
end Go.Proofs.YtpjaajeojiaeiaaGreatDoor.Tc
