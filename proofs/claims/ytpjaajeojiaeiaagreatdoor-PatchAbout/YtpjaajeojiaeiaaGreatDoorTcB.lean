/- Contracts and mathematics of the layers below (TcBuild, TcRefB). -/
import Derived.Test.YtpjaajeojiaeiaaGreatDoorTcA
import Derived.Test.YtpjaajeojiaeiaaGreatDoorRg
/- What Build computes: the segment of a header and a body, or why there is none. -/
namespace Go.Proofs.YtpjaajeojiaeiaaGreatDoor.Tc
open Go.ChangeShapes Go.WideShapes Go.ChangeAt Go.RowKit

def btotal (h : Hd) (body : ByteArray) : Int := 20 + h.opts.size + body.size
/-- The word that has the header's size above the flags. -/
def hword (h : Hd) : Int := (20 + (h.opts.size : Int)) / 4 * 4096 + h.flags
def bhead (h : Hd) : ByteArray := textN 2 [h.src, h.dst] 2 ++ textN 4 [h.seq, h.ack] 2 ++ textN 2 [hword h, h.win, 0, h.urg] 4
def built (h : Hd) (body : ByteArray) : ByteArray := bhead h ++ h.opts ++ body
def buildE (h : Hd) (body : ByteArray) : Int := if rightB h = false then 1 else if 1500 < btotal h body then 18 else 0
def buildS (h : Hd) (body : ByteArray) : ByteArray := if buildE h body = 0 then built h body else ⟨#[]⟩
/-- Each field has room, the options are right. -/
structure RightP (h : Hd) : Prop where
 src : 0 ≤ h.src ∧ h.src ≤ 65535
 dst : 0 ≤ h.dst ∧ h.dst ≤ 65535
 win : 0 ≤ h.win ∧ h.win ≤ 65535
 urg : 0 ≤ h.urg ∧ h.urg ≤ 65535
 flags : 0 ≤ h.flags ∧ h.flags ≤ 4095
 o40 : h.opts.size ≤ 40
 o4 : h.opts.size % 4 = 0
 ok : optsOk h.opts.data.toList = true
theorem rightP_iff (h : Hd) : rightB h = true ↔ RightP h := by
 unfold rightB optB
 rw [portsB_in, flagsB_in]
 simp only [Bool.and_eq_true, inB_iff, decide_eq_true_eq]
 constructor
 ·rintro ⟨⟨⟨⟨⟨a, b⟩, c⟩, d⟩, e⟩, ⟨f, g⟩, k⟩
  exact ⟨a, b, c, d, e, f, g, k⟩
 ·rintro ⟨a, b, c, d, e, f, g, k⟩
  exact ⟨⟨⟨⟨⟨a, b⟩, c⟩, d⟩, e⟩, ⟨f, g⟩, k⟩
theorem rightP_of {h : Hd} (hr : rightB h = true) : RightP h := (rightP_iff h).1 hr
theorem rightP_to {h : Hd} (hr : RightP h) : rightB h = true := (rightP_iff h).2 hr
theorem ret_si {a b : ByteArray} {x y : Int} (h1 : a = b) (h2 : x = y) : Ending.returned (.tuple #[.string a, .int .i64 x]) = .returned (.tuple #[.string b, .int .i64 y]) := by rw [h1, h2]
theorem hcell_of {V u : World} {b k B : Nat} {v : Value} (hb : Below B V.drew u) (h : b < B) (hc : V.cell? ⟨b, k, none⟩ = some v) : u.cell? ⟨b, k, none⟩ = some v := (hb.cell (p := ⟨b, k, none⟩) h).trans hc
theorem Kept.on' {w W W' : World} {h : Hd} (k : Kept w h W) (hb : Below W.heap.size W.drew W') : Kept w h W' := k.on ⟨hb.os, hb.tape, hb.output, hb.size, hb.block⟩
theorem add_run (x y : ByteArray) (hx : x.size ≤ 140737488355328) (hy : y.size ≤ 140737488355328) : ∀ wx, (Op.stringOp .add x y).run Tryz.prog wx = .ok (.string (x ++ y)) wx := fun wx => run_string_add_sum (P := Tryz.prog) (w := wx) x y (by omega)
end Go.Proofs.YtpjaajeojiaeiaaGreatDoor.Tc

/- What the reference Build computes: the same as Build; what the law ref makes of a header. -/
namespace Go.Proofs.YtpjaajeojiaeiaaGreatDoor.Tc
open Go.ChangeShapes Go.WideShapes Go.ChangeAt Go.RowKit

theorem app_list (a b : ByteArray) : (a ++ b).data.toList = a.data.toList ++ b.data.toList := by rw [ByteArray.data_append, Array.toList_append]
theorem laid_zero : laid 2 0 = ⟨#[0, 0]⟩ := by
 unfold laid
 rw [if_pos ((laidB_iff 2 0).2 ⟨⟨by decide, by decide⟩, by decide, by decide⟩)]
 rfl
theorem built_laid (h : Hd) (body : ByteArray) : built h body = laid 2 h.src ++ laid 2 h.dst ++ laid 4 h.seq ++ laid 4 h.ack ++ laid 2 (hword h) ++ laid 2 h.win ++ ⟨#[0, 0]⟩ ++ laid 2 h.urg ++ h.opts ++ body := by
 apply Oct.ba_ext
 unfold built bhead
 simp only [textN, app_list, List.getD_cons_zero, List.getD_cons_succ, laid_zero, List.append_assoc, List.nil_append]

set_option maxHeartbeats 400000 in
theorem num_any (size n : Int) (w : World) :
  Calls Tryz.prog 45 #[.int .i64 size, .int .i64 n] w fun e w' => e = .returned (.string (laid size n)) ∧ Below w.heap.size w w' := by
 go_enter Tryz.func45, Tryz.ntmps45
 go_wp2_with fail
 refine (rput_any _ _ _).mono ?_
 rintro e w' ⟨rfl, hb⟩
 go_wp2_with fail
 go_ret
 exact ⟨rfl, hb⟩
set_option maxHeartbeats 400000 in
theorem rnum_any (size n : Int) (w : World) :
  Calls Tryz.prog 79 #[.int .i64 size, .int .i64 n] w fun e w' => e = .returned (.string (laid size n)) ∧ Below w.heap.size w w' := by
 go_enter Tryz.func79, Tryz.ntmps79
 go_wp2_with fail
 refine (num_any _ _ _).mono ?_
 rintro e w' ⟨rfl, hb⟩
 go_wp2_with fail
 go_ret
 exact ⟨rfl, hb⟩
set_option maxHeartbeats 400000 in
theorem rget5_any (s : ByteArray) (pos size : Int) (w : World) (hs : s.size ≤ maxLen) :
  Calls Tryz.prog 125 #[.string s, .int .i64 pos, .int .i64 size] w fun e w' => e = .returned (.int .i64 (got s pos size)) ∧ w' = w := by
 go_enter Tryz.func125, Tryz.ntmps125
 go_wp2_with fail
 refine (rget_any _ _ _ _ hs).mono ?_
 rintro e w' ⟨rfl, rfl⟩
 go_wp2_with fail
 go_ret
 exact ⟨rfl, rfl⟩
set_option maxRecDepth 100000 in
set_option maxHeartbeats 4000000 in
theorem rbuild_any (h : Hd) (body : ByteArray) (w : World) (hw : h.Wf) (hbody : body.size ≤ 140737488355328) :
  Calls Tryz.prog 46 #[h.val, .string body] w fun e w' => e = .returned (.tuple #[.string (buildS h body), .int .i64 (buildE h body)]) ∧ Below w.heap.size w w' := by
 have hos := hw.opts
 have HW := hide hw
 have hk0 := kept_new w h 90
 clear hw
 go_enter Tryz.func46, Tryz.ntmps46
 go_wp2_with fail
 refine (rright_any h _ (unhide HW)).mono ?_
 rintro e w1 ⟨rfl, hb1⟩
 have hk1 := hk0.on hb1
 clear hb1 hk0
 have c0 := hk1.at_ 0 (by decide)
 have c1 := hk1.at_ 1 (by decide)
 have c2 := hk1.at_ 2 (by decide)
 have c3 := hk1.at_ 3 (by decide)
 have c4 := hk1.at_ 4 (by decide)
 have c5 := hk1.at_ 5 (by decide)
 have c6 := hk1.at_ 6 (by decide)
 have c7 := hk1.at_ 7 (by decide)
 simp only [hcell] at c0 c1 c2 c3 c4 c5 c6 c7
 have HK := hide hk1
 have hlt := hk1.size
 clear hk1
 cases hr : rightB h with
 | false =>
  have HE : Hid (buildE h body = 1) := by show _ = _; unfold buildE; rw [if_pos hr]
  have HS : Hid (buildS h body = ⟨#[]⟩) := by show _ = _; unfold buildS; rw [HE.out, if_neg (by decide)]
  go_wp2_with fail
  go_ret2
  exact ⟨ret_si HS.out.symm HE.out.symm, (unhide HK).below⟩
 | true =>
  have HP := hide (rightP_of hr)
  clear hr
  have hbt : (20 : Int) + h.opts.size + body.size = btotal h body := rfl
  by_cases hl : 1500 < btotal h body
  ·have HE : Hid (buildE h body = 18) := by show _ = _; unfold buildE; rw [if_neg (by rw [rightP_to (unhide HP)]; decide), if_pos hl]
   have HS : Hid (buildS h body = ⟨#[]⟩) := by show _ = _; unfold buildS; rw [HE.out, if_neg (by decide)]
   have hd : decide (1500 < btotal h body) = true := by simpa using hl
   go_wp2_with fail
   go_ret2
   exact ⟨ret_si HS.out.symm HE.out.symm, (unhide HK).below⟩
  ·have HE : Hid (buildE h body = 0) := by show _ = _; unfold buildE; rw [if_neg (by rw [rightP_to (unhide HP)]; decide), if_neg hl]
   have HS : Hid (buildS h body = built h body) := by show _ = _; unfold buildS; rw [HE.out, if_pos rfl]
   have hd : decide (1500 < btotal h body) = false := by simpa using hl
   have r := unhide HP
   obtain ⟨_, _, _, _, ⟨f0, f1⟩, o40, o4, _⟩ := r
   obtain ⟨u0, u1⟩ := (unhide HW).seq
   obtain ⟨v0, v1⟩ := (unhide HW).ack
   have hbz : body.size ≤ 1500 := by omega
   clear hbody
   go_wp2_with fail
   have k1 : (20 + (h.opts.size : Int)).tdiv 4 = (20 + (h.opts.size : Int)) / 4 := Int.tdiv_eq_ediv_of_nonneg (by omega)
   have k1w := Oct.wraps_i64 ((20 + (h.opts.size : Int)) / 4) (by omega) (by omega)
   have k2 := Oct.wraps_i64 (4096 * ((20 + (h.opts.size : Int)) / 4)) (by omega) (by omega)
   have k3 : IntKind.i64.wrap (4096 * ((20 + (h.opts.size : Int)) / 4) + h.flags) = hword h := by rw [Oct.wraps_i64 _ (by omega) (by omega)]; unfold hword; omega
   have k6 := Oct.wraps_i64 h.seq u0 (by omega)
   have k7 := Oct.wraps_i64 h.ack v0 (by omega)
   have HX := hide (built_laid h body)
   have n0 := fun u => rnum_any 2 h.src u
   have s0 := laid_size 2 h.src
   generalize laid 2 h.src = L0 at *
   have n1 := fun u => rnum_any 2 h.dst u
   have s1 := laid_size 2 h.dst
   generalize laid 2 h.dst = L1 at *
   have n2 := fun u => rnum_any 4 h.seq u
   have s2 := laid_size 4 h.seq
   generalize laid 4 h.seq = L2 at *
   have n3 := fun u => rnum_any 4 h.ack u
   have s3 := laid_size 4 h.ack
   generalize laid 4 h.ack = L3 at *
   have n4 := fun u => rnum_any 2 (hword h) u
   have s4 := laid_size 2 (hword h)
   generalize laid 2 (hword h) = L4 at *
   have n5 := fun u => rnum_any 2 h.win u
   have s5 := laid_size 2 h.win
   generalize laid 2 h.win = L5 at *
   have n6 := fun u => rnum_any 2 h.urg u
   have s6 := laid_size 2 h.urg
   generalize laid 2 h.urg = L6 at *
   have ha1 := add_run L0 L1 (by omega) (by omega)
   have z1 : (L0 ++ L1).size ≤ 8 := by rw [ByteArray.size_append]; omega
   generalize L0 ++ L1 = M1 at *
   have ha2 := add_run M1 L2 (by omega) (by omega)
   have z2 : (M1 ++ L2).size ≤ 12 := by rw [ByteArray.size_append]; omega
   generalize M1 ++ L2 = M2 at *
   have ha3 := add_run M2 L3 (by omega) (by omega)
   have z3 : (M2 ++ L3).size ≤ 16 := by rw [ByteArray.size_append]; omega
   generalize M2 ++ L3 = M3 at *
   have ha4 := add_run M3 L4 (by omega) (by omega)
   have z4 : (M3 ++ L4).size ≤ 20 := by rw [ByteArray.size_append]; omega
   generalize M3 ++ L4 = M4 at *
   have ha5 := add_run M4 L5 (by omega) (by omega)
   have z5 : (M4 ++ L5).size ≤ 24 := by rw [ByteArray.size_append]; omega
   generalize M4 ++ L5 = M5 at *
   have ha6 := add_run M5 ⟨#[0, 0]⟩ (by omega) (by decide)
   have z6 : (M5 ++ ⟨#[0, 0]⟩).size ≤ 28 := by rw [ByteArray.size_append]; have : (⟨#[0, 0]⟩ : ByteArray).size = 2 := rfl; omega
   generalize M5 ++ ⟨#[0, 0]⟩ = M6 at *
   have ha7 := add_run M6 L6 (by omega) (by omega)
   have z7 : (M6 ++ L6).size ≤ 32 := by rw [ByteArray.size_append]; omega
   generalize M6 ++ L6 = M7 at *
   have ha8 := add_run M7 h.opts (by omega) (by omega)
   have z8 : (M7 ++ h.opts).size ≤ 136 := by rw [ByteArray.size_append]; omega
   generalize M7 ++ h.opts = M8 at *
   have ha9 := add_run M8 body (by omega) (by omega)
   have z9 : (M8 ++ body).size ≤ 1640 := by rw [ByteArray.size_append]; omega
   generalize M8 ++ body = M9 at *
   refine wp_region_grow (by kernel_rfl) [.pointer (some ⟨w.heap.size, 0, none⟩), .int .i64 h.src, .string L0, .pointer (some ⟨w.heap.size, 1, none⟩), .int .i64 h.dst, .string L1, .string M1, .pointer (some ⟨w.heap.size, 2, none⟩), .int .u32 h.seq, .int .i64 h.seq, .string L2, .string M2, .pointer (some ⟨w.heap.size, 3, none⟩), .int .u32 h.ack, .int .i64 h.ack, .string L3, .string M3, .int .i64 (20 + (h.opts.size : Int)), .int .i64 ((20 + (h.opts.size : Int)) / 4), .int .i64 (4096 * ((20 + (h.opts.size : Int)) / 4)), .pointer (some ⟨w.heap.size, 4, none⟩), .int .i64 h.flags, .int .i64 (hword h), .string L4, .string M4, .pointer (some ⟨w.heap.size, 5, none⟩), .int .i64 h.win, .string L5, .string M5, .string M6, .pointer (some ⟨w.heap.size, 6, none⟩), .int .i64 h.urg, .string L6, .string M7, .pointer (some ⟨w.heap.size, 7, none⟩), .string h.opts, .string M8, .string body, .string M9, .string M9, .int .i64 (0)] (by kernel_rfl) ?op ?fin
   case op =>
    intro i o bx u ho hbel hS
    match i, ho with
    | 0, ho =>
     obtain rfl := Option.some.inj ho
     have d2 : bx.tmps.getD 2 undef = .pointer (some ⟨w.heap.size, 0, none⟩) := hS.base 2
     refine .inl ⟨rfl, ends_value' (c := .pointer (some ⟨w.heap.size, 0, none⟩)) ?_⟩
     simp [Act.eval, d2, go_sem]
    | 1, ho =>
     obtain rfl := Option.some.inj ho
     have d21 : bx.tmps.getD 21 undef = .pointer (some ⟨w.heap.size, 0, none⟩) := hS.dep 0 21
     have hl := hcell_of hbel hlt c0
     refine .inl ⟨rfl, ends_value' (c := .int .i64 h.src) ?_⟩
     simp [Act.eval, d21, go_sem, hl]
    | 2, ho =>
     obtain rfl := Option.some.inj ho
     have d22 : bx.tmps.getD 22 undef = .int .i64 h.src := hS.dep 1 22
     refine .inl ⟨rfl, ends_call' (c := .string L0) (f := 79) (args := #[.int .i64 2, .int .i64 h.src]) ?_ (n0 u)⟩
     simp [Act.eval, d22, go_sem]
    | 3, ho =>
     obtain rfl := Option.some.inj ho
     have d2 : bx.tmps.getD 2 undef = .pointer (some ⟨w.heap.size, 0, none⟩) := hS.base 2
     refine .inl ⟨rfl, ends_value' (c := .pointer (some ⟨w.heap.size, 1, none⟩)) ?_⟩
     simp [Act.eval, d2, go_sem]
    | 4, ho =>
     obtain rfl := Option.some.inj ho
     have d24 : bx.tmps.getD 24 undef = .pointer (some ⟨w.heap.size, 1, none⟩) := hS.dep 3 24
     have hl := hcell_of hbel hlt c1
     refine .inl ⟨rfl, ends_value' (c := .int .i64 h.dst) ?_⟩
     simp [Act.eval, d24, go_sem, hl]
    | 5, ho =>
     obtain rfl := Option.some.inj ho
     have d25 : bx.tmps.getD 25 undef = .int .i64 h.dst := hS.dep 4 25
     refine .inl ⟨rfl, ends_call' (c := .string L1) (f := 79) (args := #[.int .i64 2, .int .i64 h.dst]) ?_ (n1 u)⟩
     simp [Act.eval, d25, go_sem]
    | 6, ho =>
     obtain rfl := Option.some.inj ho
     have d23 : bx.tmps.getD 23 undef = .string L0 := hS.dep 2 23
     have d26 : bx.tmps.getD 26 undef = .string L1 := hS.dep 5 26
     refine .inl ⟨rfl, ends_value' (c := .string M1) ?_⟩
     simp [Act.eval, d23, d26, go_sem, ha1]
    | 7, ho =>
     obtain rfl := Option.some.inj ho
     have d2 : bx.tmps.getD 2 undef = .pointer (some ⟨w.heap.size, 0, none⟩) := hS.base 2
     refine .inl ⟨rfl, ends_value' (c := .pointer (some ⟨w.heap.size, 2, none⟩)) ?_⟩
     simp [Act.eval, d2, go_sem]
    | 8, ho =>
     obtain rfl := Option.some.inj ho
     have d28 : bx.tmps.getD 28 undef = .pointer (some ⟨w.heap.size, 2, none⟩) := hS.dep 7 28
     have hl := hcell_of hbel hlt c2
     refine .inl ⟨rfl, ends_value' (c := .int .u32 h.seq) ?_⟩
     simp [Act.eval, d28, go_sem, hl]
    | 9, ho =>
     obtain rfl := Option.some.inj ho
     have d29 : bx.tmps.getD 29 undef = .int .u32 h.seq := hS.dep 8 29
     refine .inl ⟨rfl, ends_value' (c := .int .i64 h.seq) ?_⟩
     simp [Act.eval, d29, go_sem, k6]
    | 10, ho =>
     obtain rfl := Option.some.inj ho
     have d30 : bx.tmps.getD 30 undef = .int .i64 h.seq := hS.dep 9 30
     refine .inl ⟨rfl, ends_call' (c := .string L2) (f := 79) (args := #[.int .i64 4, .int .i64 h.seq]) ?_ (n2 u)⟩
     simp [Act.eval, d30, go_sem]
    | 11, ho =>
     obtain rfl := Option.some.inj ho
     have d27 : bx.tmps.getD 27 undef = .string M1 := hS.dep 6 27
     have d31 : bx.tmps.getD 31 undef = .string L2 := hS.dep 10 31
     refine .inl ⟨rfl, ends_value' (c := .string M2) ?_⟩
     simp [Act.eval, d27, d31, go_sem, ha2]
    | 12, ho =>
     obtain rfl := Option.some.inj ho
     have d2 : bx.tmps.getD 2 undef = .pointer (some ⟨w.heap.size, 0, none⟩) := hS.base 2
     refine .inl ⟨rfl, ends_value' (c := .pointer (some ⟨w.heap.size, 3, none⟩)) ?_⟩
     simp [Act.eval, d2, go_sem]
    | 13, ho =>
     obtain rfl := Option.some.inj ho
     have d33 : bx.tmps.getD 33 undef = .pointer (some ⟨w.heap.size, 3, none⟩) := hS.dep 12 33
     have hl := hcell_of hbel hlt c3
     refine .inl ⟨rfl, ends_value' (c := .int .u32 h.ack) ?_⟩
     simp [Act.eval, d33, go_sem, hl]
    | 14, ho =>
     obtain rfl := Option.some.inj ho
     have d34 : bx.tmps.getD 34 undef = .int .u32 h.ack := hS.dep 13 34
     refine .inl ⟨rfl, ends_value' (c := .int .i64 h.ack) ?_⟩
     simp [Act.eval, d34, go_sem, k7]
    | 15, ho =>
     obtain rfl := Option.some.inj ho
     have d35 : bx.tmps.getD 35 undef = .int .i64 h.ack := hS.dep 14 35
     refine .inl ⟨rfl, ends_call' (c := .string L3) (f := 79) (args := #[.int .i64 4, .int .i64 h.ack]) ?_ (n3 u)⟩
     simp [Act.eval, d35, go_sem]
    | 16, ho =>
     obtain rfl := Option.some.inj ho
     have d32 : bx.tmps.getD 32 undef = .string M2 := hS.dep 11 32
     have d36 : bx.tmps.getD 36 undef = .string L3 := hS.dep 15 36
     refine .inl ⟨rfl, ends_value' (c := .string M3) ?_⟩
     simp [Act.eval, d32, d36, go_sem, ha3]
    | 17, ho =>
     obtain rfl := Option.some.inj ho
     have d7 : bx.tmps.getD 7 undef = .int .i64 (20 + (h.opts.size : Int)) := hS.base 7
     refine .inl ⟨rfl, ends_value' (c := .int .i64 (20 + (h.opts.size : Int))) ?_⟩
     simp [execOp, Act.eval, d7]
    | 18, ho =>
     obtain rfl := Option.some.inj ho
     have d38 : bx.tmps.getD 38 undef = .int .i64 (20 + (h.opts.size : Int)) := hS.dep 17 38
     refine .inl ⟨rfl, ends_value' (c := .int .i64 ((20 + (h.opts.size : Int)) / 4)) ?_⟩
     simp [Act.eval, d38, go_sem, k1, k1w]
    | 19, ho =>
     obtain rfl := Option.some.inj ho
     have d39 : bx.tmps.getD 39 undef = .int .i64 ((20 + (h.opts.size : Int)) / 4) := hS.dep 18 39
     refine .inl ⟨rfl, ends_value' (c := .int .i64 (4096 * ((20 + (h.opts.size : Int)) / 4))) ?_⟩
     simp [Act.eval, d39, go_sem, k2]
    | 20, ho =>
     obtain rfl := Option.some.inj ho
     have d2 : bx.tmps.getD 2 undef = .pointer (some ⟨w.heap.size, 0, none⟩) := hS.base 2
     refine .inl ⟨rfl, ends_value' (c := .pointer (some ⟨w.heap.size, 4, none⟩)) ?_⟩
     simp [Act.eval, d2, go_sem]
    | 21, ho =>
     obtain rfl := Option.some.inj ho
     have d41 : bx.tmps.getD 41 undef = .pointer (some ⟨w.heap.size, 4, none⟩) := hS.dep 20 41
     have hl := hcell_of hbel hlt c4
     refine .inl ⟨rfl, ends_value' (c := .int .i64 h.flags) ?_⟩
     simp [Act.eval, d41, go_sem, hl]
    | 22, ho =>
     obtain rfl := Option.some.inj ho
     have d40 : bx.tmps.getD 40 undef = .int .i64 (4096 * ((20 + (h.opts.size : Int)) / 4)) := hS.dep 19 40
     have d42 : bx.tmps.getD 42 undef = .int .i64 h.flags := hS.dep 21 42
     refine .inl ⟨rfl, ends_value' (c := .int .i64 (hword h)) ?_⟩
     simp [Act.eval, d40, d42, go_sem, k3]
    | 23, ho =>
     obtain rfl := Option.some.inj ho
     have d43 : bx.tmps.getD 43 undef = .int .i64 (hword h) := hS.dep 22 43
     refine .inl ⟨rfl, ends_call' (c := .string L4) (f := 79) (args := #[.int .i64 2, .int .i64 (hword h)]) ?_ (n4 u)⟩
     simp [Act.eval, d43, go_sem]
    | 24, ho =>
     obtain rfl := Option.some.inj ho
     have d37 : bx.tmps.getD 37 undef = .string M3 := hS.dep 16 37
     have d44 : bx.tmps.getD 44 undef = .string L4 := hS.dep 23 44
     refine .inl ⟨rfl, ends_value' (c := .string M4) ?_⟩
     simp [Act.eval, d37, d44, go_sem, ha4]
    | 25, ho =>
     obtain rfl := Option.some.inj ho
     have d2 : bx.tmps.getD 2 undef = .pointer (some ⟨w.heap.size, 0, none⟩) := hS.base 2
     refine .inl ⟨rfl, ends_value' (c := .pointer (some ⟨w.heap.size, 5, none⟩)) ?_⟩
     simp [Act.eval, d2, go_sem]
    | 26, ho =>
     obtain rfl := Option.some.inj ho
     have d46 : bx.tmps.getD 46 undef = .pointer (some ⟨w.heap.size, 5, none⟩) := hS.dep 25 46
     have hl := hcell_of hbel hlt c5
     refine .inl ⟨rfl, ends_value' (c := .int .i64 h.win) ?_⟩
     simp [Act.eval, d46, go_sem, hl]
    | 27, ho =>
     obtain rfl := Option.some.inj ho
     have d47 : bx.tmps.getD 47 undef = .int .i64 h.win := hS.dep 26 47
     refine .inl ⟨rfl, ends_call' (c := .string L5) (f := 79) (args := #[.int .i64 2, .int .i64 h.win]) ?_ (n5 u)⟩
     simp [Act.eval, d47, go_sem]
    | 28, ho =>
     obtain rfl := Option.some.inj ho
     have d45 : bx.tmps.getD 45 undef = .string M4 := hS.dep 24 45
     have d48 : bx.tmps.getD 48 undef = .string L5 := hS.dep 27 48
     refine .inl ⟨rfl, ends_value' (c := .string M5) ?_⟩
     simp [Act.eval, d45, d48, go_sem, ha5]
    | 29, ho =>
     obtain rfl := Option.some.inj ho
     have d49 : bx.tmps.getD 49 undef = .string M5 := hS.dep 28 49
     refine .inl ⟨rfl, ends_value' (c := .string M6) ?_⟩
     simp [Act.eval, d49, go_sem, ha6]
    | 30, ho =>
     obtain rfl := Option.some.inj ho
     have d2 : bx.tmps.getD 2 undef = .pointer (some ⟨w.heap.size, 0, none⟩) := hS.base 2
     refine .inl ⟨rfl, ends_value' (c := .pointer (some ⟨w.heap.size, 6, none⟩)) ?_⟩
     simp [Act.eval, d2, go_sem]
    | 31, ho =>
     obtain rfl := Option.some.inj ho
     have d51 : bx.tmps.getD 51 undef = .pointer (some ⟨w.heap.size, 6, none⟩) := hS.dep 30 51
     have hl := hcell_of hbel hlt c6
     refine .inl ⟨rfl, ends_value' (c := .int .i64 h.urg) ?_⟩
     simp [Act.eval, d51, go_sem, hl]
    | 32, ho =>
     obtain rfl := Option.some.inj ho
     have d52 : bx.tmps.getD 52 undef = .int .i64 h.urg := hS.dep 31 52
     refine .inl ⟨rfl, ends_call' (c := .string L6) (f := 79) (args := #[.int .i64 2, .int .i64 h.urg]) ?_ (n6 u)⟩
     simp [Act.eval, d52, go_sem]
    | 33, ho =>
     obtain rfl := Option.some.inj ho
     have d50 : bx.tmps.getD 50 undef = .string M6 := hS.dep 29 50
     have d53 : bx.tmps.getD 53 undef = .string L6 := hS.dep 32 53
     refine .inl ⟨rfl, ends_value' (c := .string M7) ?_⟩
     simp [Act.eval, d50, d53, go_sem, ha7]
    | 34, ho =>
     obtain rfl := Option.some.inj ho
     have d2 : bx.tmps.getD 2 undef = .pointer (some ⟨w.heap.size, 0, none⟩) := hS.base 2
     refine .inl ⟨rfl, ends_value' (c := .pointer (some ⟨w.heap.size, 7, none⟩)) ?_⟩
     simp [Act.eval, d2, go_sem]
    | 35, ho =>
     obtain rfl := Option.some.inj ho
     have d55 : bx.tmps.getD 55 undef = .pointer (some ⟨w.heap.size, 7, none⟩) := hS.dep 34 55
     have hl := hcell_of hbel hlt c7
     refine .inl ⟨rfl, ends_value' (c := .string h.opts) ?_⟩
     simp [Act.eval, d55, go_sem, hl]
    | 36, ho =>
     obtain rfl := Option.some.inj ho
     have d54 : bx.tmps.getD 54 undef = .string M7 := hS.dep 33 54
     have d56 : bx.tmps.getD 56 undef = .string h.opts := hS.dep 35 56
     refine .inl ⟨rfl, ends_value' (c := .string M8) ?_⟩
     simp [Act.eval, d54, d56, go_sem, ha8]
    | 37, ho =>
     obtain rfl := Option.some.inj ho
     have d1 : bx.tmps.getD 1 undef = .string body := hS.base 1
     refine .inl ⟨rfl, ends_value' (c := .string body) ?_⟩
     simp [execOp, Act.eval, d1]
    | 38, ho =>
     obtain rfl := Option.some.inj ho
     have d57 : bx.tmps.getD 57 undef = .string M8 := hS.dep 36 57
     have d58 : bx.tmps.getD 58 undef = .string body := hS.dep 37 58
     refine .inl ⟨rfl, ends_value' (c := .string M9) ?_⟩
     simp [Act.eval, d57, d58, go_sem, ha9]
    | 39, ho =>
     obtain rfl := Option.some.inj ho
     have d59 : bx.tmps.getD 59 undef = .string M9 := hS.dep 38 59
     refine .inl ⟨rfl, ends_value' (c := .string M9) ?_⟩
     simp [execOp, Act.eval, d59]
    | 40, ho =>
     obtain rfl := Option.some.inj ho
     refine .inl ⟨rfl, ends_value' (c := .int .i64 (0)) ?_⟩
     simp [execOp, Act.eval]
    | n + 41, ho => exact absurd ho (by simp)
   case fin =>
    intro u hbel
    simp [putAll, dstAt, Act.put]
    have hk2 := (unhide HK).on' hbel
    have HK := hide hk2
    clear hk2 hbel c0 c1 c2 c3 c4 c5 c6 c7 n0 n1 n2 n3 n4 n5 n6 ha1 ha2 ha3 ha4 ha5 ha6 ha7 ha8 ha9 z1 z2 z3 z4 z5 z6 z7 z8 z9
    go_wp2_with fail
    go_ret2
    exact ⟨ret_si (by rw [HS.out]; exact (unhide HX).symm) HE.out.symm, (unhide HK).below⟩
end Go.Proofs.YtpjaajeojiaeiaaGreatDoor.Tc
