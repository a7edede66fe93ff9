/- Contracts and mathematics of the layers below (IpRefB). -/
import Derived.Test.YtpjaajeojiaeiaaGreatDoorIpD
import Derived.Test.YtpjaajeojiaeiaaGreatDoorIpB
import Derived.Test.YtpjaajeojiaeiaaGreatDoorCk
import Derived.Test.YtpjaajeojiaeiaaGreatDoorRg
/- What the reference Build computes: the same as Build. -/
namespace Go.Proofs.YtpjaajeojiaeiaaGreatDoor.Ip
open Go.ChangeShapes Go.WideShapes Go.ChangeAt Go.RowKit

theorem Kept.on' {w W W' : World} {h : Hd} (k : Kept w h W) (hb : Below W.heap.size W.drew W') : Kept w h W' := k.on ⟨hb.os, hb.tape, hb.output, hb.size, hb.block⟩
theorem add_run (x y : ByteArray) (hx : x.size ≤ 140737488355328) (hy : y.size ≤ 140737488355328) : ∀ wx, (Op.stringOp .add x y).run Tryz.prog wx = .ok (.string (x ++ y)) wx := fun wx => run_string_add_sum (P := Tryz.prog) (w := wx) x y (by omega)

set_option maxRecDepth 100000 in
set_option maxHeartbeats 4000000 in
theorem rbuild_any (h : Hd) (body : ByteArray) (w : World) (hw : h.Wf) (hbody : body.size ≤ 140737488355328) :
  Calls Tryz.prog 19 #[h.val, .string body] w fun e w' => e = .returned (.tuple #[.string (buildS h body), .int .i64 (buildE h body)]) ∧ Below w.heap.size w w' := by
 have hos := hw.opts
 have HW := hide hw
 have hk0 := kept_new w h 54
 clear hw
 go_enter Tryz.func19, Tryz.ntmps19
 go_wp2_with fail
 refine (rright_any h _ (unhide HW)).mono ?_
 rintro e w1 ⟨rfl, hb1⟩
 have hk1 := hk0.on hb1
 clear hb1 hk0
 have c0 := hk1.at_ 0 (by decide)
 have c1 := hk1.at_ 1 (by decide)
 have c2 := hk1.at_ 2 (by decide)
 have c3 := hk1.at_ 3 (by decide)
 have c4 := hk1.at_ 4 (by decide)
 have c5 := hk1.at_ 5 (by decide)
 have c6 := hk1.at_ 6 (by decide)
 have c7 := hk1.at_ 7 (by decide)
 have c8 := hk1.at_ 8 (by decide)
 simp only [hcell] at c0 c1 c2 c3 c4 c5 c6 c7 c8
 have HK := hide hk1
 have hlt := hk1.size
 clear hk1
 cases hr : rightB h with
 | false =>
  have HE : Hid (buildE h body = 1) := by show _ = _; unfold buildE; rw [if_pos hr]
  have HS : Hid (buildS h body = ⟨#[]⟩) := by show _ = _; unfold buildS; rw [HE.out, if_neg (by decide)]
  go_wp2_with fail
  go_ret2
  exact ⟨ret_si HS.out.symm HE.out.symm, (unhide HK).below⟩
 | true =>
  have HP := hide (rightP_of hr)
  clear hr
  have hbt : (20 : Int) + h.opts.size + body.size = btotal h body := rfl
  by_cases hl : 1500 < btotal h body
  ·have HE : Hid (buildE h body = 18) := by show _ = _; unfold buildE; rw [if_neg (by rw [rightP_to (unhide HP)]; decide), if_pos hl]
   have HS : Hid (buildS h body = ⟨#[]⟩) := by show _ = _; unfold buildS; rw [HE.out, if_neg (by decide)]
   have hd : decide (1500 < btotal h body) = true := by simpa using hl
   go_wp2_with fail
   go_ret2
   exact ⟨ret_si HS.out.symm HE.out.symm, (unhide HK).below⟩
  ·have HE : Hid (buildE h body = 0) := by show _ = _; unfold buildE; rw [if_neg (by rw [rightP_to (unhide HP)]; decide), if_neg hl]
   have HS : Hid (buildS h body = built h body) := by show _ = _; unfold buildS; rw [HE.out, if_pos rfl]
   have hd : decide (1500 < btotal h body) = false := by simpa using hl
   have bt0 : 0 ≤ btotal h body := by omega
   have hsummed : bsummed h body = layA h (btotal h body) ++ ⟨#[0, 0]⟩ ++ layB h := by unfold bsummed; rw [lay_text (unhide HP) (unhide HW) bt0 (by omega) (Int.le_refl 0) (by decide), laid_zero]
   have hbuilt : built h body = layA h (btotal h body) ++ laid 2 (bcheck h body) ++ layB h ++ body := by unfold built bhead; rw [lay_text (unhide HP) (unhide HW) bt0 (by omega) (bcheck_lo h body) (bcheck_hi h body)]
   have hck : ∀ u, Calls Tryz.prog 35 #[.string (layA h (btotal h body) ++ ⟨#[0, 0]⟩ ++ layB h)] u fun e u' => e = .returned (.int .u16 (bcheck h body)) ∧ Below u.heap.size u u' := fun u => by
    have e : bcheck h body = 65535 - Ck.sum (layA h (btotal h body) ++ ⟨#[0, 0]⟩ ++ layB h).data.toList := by unfold bcheck; rw [hsummed]
    rw [e]; exact rcheck_any _ u (by rw [← hsummed]; unfold bsummed; rw [ByteArray.size_append, ftext_size]; have := (unhide HP).o40; omega)
   rw [hbuilt] at HS
   clear hsummed hbuilt
   have c0' := bcheck_lo h body
   have c1' := bcheck_hi h body
   have r := unhide HP
   obtain ⟨⟨r1, r2⟩, ⟨r3, r4⟩, ⟨r5, r6⟩, ⟨r7, r8⟩, ⟨r9, r10⟩, ⟨r11, r12⟩, o40, o4, _⟩ := r
   go_wp2_with fail
   generalize hT : btotal h body = T at *
   generalize bcheck h body = c at *
   have k1 : (20 + (h.opts.size : Int)).tdiv 4 = (20 + (h.opts.size : Int)) / 4 := Int.tdiv_eq_ediv_of_nonneg (by omega)
   have k1w := Oct.wraps_i64 ((20 + (h.opts.size : Int)) / 4) (by omega) (by omega)
   have k2 := Oct.wraps_i64 (64 + (20 + (h.opts.size : Int)) / 4) (by omega) (by omega)
   have k11 : IntKind.i64.wrap (20 + (h.opts.size : Int) + body.size) = T := by rw [hbt]; exact Oct.wraps_i64 T (by omega) (by omega)
   have k20 := Oct.wraps_i64 (h.flags * 8192) (by omega) (by omega)
   have k23 := Oct.wraps_i64 (h.flags * 8192 + h.frag) (by omega) (by omega)
   have ha1 := add_run (laid 1 (64 + (20 + (h.opts.size : Int)) / 4)) (laid 1 h.tos) (by (try simp only [ByteArray.size_append]); have := laid_size 1 ((64 + (20 + (h.opts.size : Int)) / 4)); omega) (by have := laid_size 1 (h.tos); omega)
   have ha2 := add_run (laid 1 (64 + (20 + (h.opts.size : Int)) / 4) ++ laid 1 h.tos) (laid 2 T) (by (try simp only [ByteArray.size_append]); have := laid_size 1 ((64 + (20 + (h.opts.size : Int)) / 4)); have := laid_size 1 (h.tos); omega) (by have := laid_size 2 (T); omega)
   have ha3 := add_run (laid 1 (64 + (20 + (h.opts.size : Int)) / 4) ++ laid 1 h.tos ++ laid 2 T) (laid 2 h.id) (by (try simp only [ByteArray.size_append]); have := laid_size 1 ((64 + (20 + (h.opts.size : Int)) / 4)); have := laid_size 1 (h.tos); have := laid_size 2 (T); omega) (by have := laid_size 2 (h.id); omega)
   have ha4 := add_run (laid 1 (64 + (20 + (h.opts.size : Int)) / 4) ++ laid 1 h.tos ++ laid 2 T ++ laid 2 h.id) (laid 2 (h.flags * 8192 + h.frag)) (by (try simp only [ByteArray.size_append]); have := laid_size 1 ((64 + (20 + (h.opts.size : Int)) / 4)); have := laid_size 1 (h.tos); have := laid_size 2 (T); have := laid_size 2 (h.id); omega) (by have := laid_size 2 ((h.flags * 8192 + h.frag)); omega)
   have ha5 := add_run (laid 1 (64 + (20 + (h.opts.size : Int)) / 4) ++ laid 1 h.tos ++ laid 2 T ++ laid 2 h.id ++ laid 2 (h.flags * 8192 + h.frag)) (laid 1 h.ttl) (by (try simp only [ByteArray.size_append]); have := laid_size 1 ((64 + (20 + (h.opts.size : Int)) / 4)); have := laid_size 1 (h.tos); have := laid_size 2 (T); have := laid_size 2 (h.id); have := laid_size 2 ((h.flags * 8192 + h.frag)); omega) (by have := laid_size 1 (h.ttl); omega)
   have ha6 := add_run (laid 1 (64 + (20 + (h.opts.size : Int)) / 4) ++ laid 1 h.tos ++ laid 2 T ++ laid 2 h.id ++ laid 2 (h.flags * 8192 + h.frag) ++ laid 1 h.ttl) (laid 1 h.proto) (by (try simp only [ByteArray.size_append]); have := laid_size 1 ((64 + (20 + (h.opts.size : Int)) / 4)); have := laid_size 1 (h.tos); have := laid_size 2 (T); have := laid_size 2 (h.id); have := laid_size 2 ((h.flags * 8192 + h.frag)); have := laid_size 1 (h.ttl); omega) (by have := laid_size 1 (h.proto); omega)
   refine wp_region_grow (by kernel_rfl) [.int .i64 (20 + (h.opts.size : Int)), .int .i64 ((20 + (h.opts.size : Int)) / 4), .int .i64 (64 + (20 + (h.opts.size : Int)) / 4), .string (laid 1 (64 + (20 + (h.opts.size : Int)) / 4)), .pointer (some ⟨w.heap.size, 0, none⟩), .int .i64 h.tos, .string (laid 1 h.tos), .string (laid 1 (64 + (20 + (h.opts.size : Int)) / 4) ++ laid 1 h.tos), .int .i64 (20 + (h.opts.size : Int)), .string body, .int .i64 body.size, .int .i64 T, .string (laid 2 T), .string (laid 1 (64 + (20 + (h.opts.size : Int)) / 4) ++ laid 1 h.tos ++ laid 2 T), .pointer (some ⟨w.heap.size, 1, none⟩), .int .i64 h.id, .string (laid 2 h.id), .string (laid 1 (64 + (20 + (h.opts.size : Int)) / 4) ++ laid 1 h.tos ++ laid 2 T ++ laid 2 h.id), .pointer (some ⟨w.heap.size, 2, none⟩), .int .i64 h.flags, .int .i64 (h.flags * 8192), .pointer (some ⟨w.heap.size, 3, none⟩), .int .i64 h.frag, .int .i64 (h.flags * 8192 + h.frag), .string (laid 2 (h.flags * 8192 + h.frag)), .string (laid 1 (64 + (20 + (h.opts.size : Int)) / 4) ++ laid 1 h.tos ++ laid 2 T ++ laid 2 h.id ++ laid 2 (h.flags * 8192 + h.frag)), .pointer (some ⟨w.heap.size, 4, none⟩), .int .i64 h.ttl, .string (laid 1 h.ttl), .string (laid 1 (64 + (20 + (h.opts.size : Int)) / 4) ++ laid 1 h.tos ++ laid 2 T ++ laid 2 h.id ++ laid 2 (h.flags * 8192 + h.frag) ++ laid 1 h.ttl), .pointer (some ⟨w.heap.size, 5, none⟩), .int .i64 h.proto, .string (laid 1 h.proto), .string (laid 1 (64 + (20 + (h.opts.size : Int)) / 4) ++ laid 1 h.tos ++ laid 2 T ++ laid 2 h.id ++ laid 2 (h.flags * 8192 + h.frag) ++ laid 1 h.ttl ++ laid 1 h.proto), .string (laid 1 (64 + (20 + (h.opts.size : Int)) / 4) ++ laid 1 h.tos ++ laid 2 T ++ laid 2 h.id ++ laid 2 (h.flags * 8192 + h.frag) ++ laid 1 h.ttl ++ laid 1 h.proto)] (by kernel_rfl) ?op ?fin
   case op =>
    intro i o bx u ho hbel hS
    match i, ho with
    | 0, ho =>
     obtain rfl := Option.some.inj ho
     have d7 : bx.tmps.getD 7 undef = .int .i64 (20 + (h.opts.size : Int)) := hS.base 7
     refine .inl ⟨rfl, ends_value' (c := .int .i64 (20 + (h.opts.size : Int))) ?_⟩
     simp [execOp, Act.eval, d7]
    | 1, ho =>
     obtain rfl := Option.some.inj ho
     have d24 : bx.tmps.getD 24 undef = .int .i64 (20 + (h.opts.size : Int)) := hS.dep 0 24
     refine .inl ⟨rfl, ends_value' (c := .int .i64 ((20 + (h.opts.size : Int)) / 4)) ?_⟩
     simp [Act.eval, d24, go_sem, k1, k1w]
    | 2, ho =>
     obtain rfl := Option.some.inj ho
     have d25 : bx.tmps.getD 25 undef = .int .i64 ((20 + (h.opts.size : Int)) / 4) := hS.dep 1 25
     refine .inl ⟨rfl, ends_value' (c := .int .i64 (64 + (20 + (h.opts.size : Int)) / 4)) ?_⟩
     simp [Act.eval, d25, go_sem, k2]
    | 3, ho =>
     obtain rfl := Option.some.inj ho
     have d26 : bx.tmps.getD 26 undef = .int .i64 (64 + (20 + (h.opts.size : Int)) / 4) := hS.dep 2 26
     refine .inl ⟨rfl, ends_call' (c := .string (laid 1 (64 + (20 + (h.opts.size : Int)) / 4))) (f := 45) (args := #[.int .i64 1, .int .i64 (64 + (20 + (h.opts.size : Int)) / 4)]) ?_ (num_any 1 (64 + (20 + (h.opts.size : Int)) / 4) u)⟩
     simp [Act.eval, d26, go_sem]
    | 4, ho =>
     obtain rfl := Option.some.inj ho
     have d2 : bx.tmps.getD 2 undef = .pointer (some ⟨w.heap.size, 0, none⟩) := hS.base 2
     refine .inl ⟨rfl, ends_value' (c := .pointer (some ⟨w.heap.size, 0, none⟩)) ?_⟩
     simp [Act.eval, d2, go_sem]
    | 5, ho =>
     obtain rfl := Option.some.inj ho
     have d28 : bx.tmps.getD 28 undef = .pointer (some ⟨w.heap.size, 0, none⟩) := hS.dep 4 28
     have hl := hcell_of hbel hlt c0
     refine .inl ⟨rfl, ends_value' (c := .int .i64 h.tos) ?_⟩
     simp [Act.eval, d28, go_sem, hl]
    | 6, ho =>
     obtain rfl := Option.some.inj ho
     have d29 : bx.tmps.getD 29 undef = .int .i64 h.tos := hS.dep 5 29
     refine .inl ⟨rfl, ends_call' (c := .string (laid 1 h.tos)) (f := 45) (args := #[.int .i64 1, .int .i64 (h.tos)]) ?_ (num_any 1 (h.tos) u)⟩
     simp [Act.eval, d29, go_sem]
    | 7, ho =>
     obtain rfl := Option.some.inj ho
     have d27 : bx.tmps.getD 27 undef = .string (laid 1 (64 + (20 + (h.opts.size : Int)) / 4)) := hS.dep 3 27
     have d30 : bx.tmps.getD 30 undef = .string (laid 1 h.tos) := hS.dep 6 30
     refine .inl ⟨rfl, ends_value' (c := .string (laid 1 (64 + (20 + (h.opts.size : Int)) / 4) ++ laid 1 h.tos)) ?_⟩
     simp [Act.eval, d27, d30, go_sem, ha1]
    | 8, ho =>
     obtain rfl := Option.some.inj ho
     have d7 : bx.tmps.getD 7 undef = .int .i64 (20 + (h.opts.size : Int)) := hS.base 7
     refine .inl ⟨rfl, ends_value' (c := .int .i64 (20 + (h.opts.size : Int))) ?_⟩
     simp [execOp, Act.eval, d7]
    | 9, ho =>
     obtain rfl := Option.some.inj ho
     have d1 : bx.tmps.getD 1 undef = .string body := hS.base 1
     refine .inl ⟨rfl, ends_value' (c := .string body) ?_⟩
     simp [execOp, Act.eval, d1]
    | 10, ho =>
     obtain rfl := Option.some.inj ho
     have d33 : bx.tmps.getD 33 undef = .string body := hS.dep 9 33
     refine .inl ⟨rfl, ends_value' (c := .int .i64 body.size) ?_⟩
     simp [Act.eval, d33, go_sem]
    | 11, ho =>
     obtain rfl := Option.some.inj ho
     have d32 : bx.tmps.getD 32 undef = .int .i64 (20 + (h.opts.size : Int)) := hS.dep 8 32
     have d34 : bx.tmps.getD 34 undef = .int .i64 body.size := hS.dep 10 34
     refine .inl ⟨rfl, ends_value' (c := .int .i64 T) ?_⟩
     simp [Act.eval, d32, d34, go_sem, k11]
    | 12, ho =>
     obtain rfl := Option.some.inj ho
     have d35 : bx.tmps.getD 35 undef = .int .i64 T := hS.dep 11 35
     refine .inl ⟨rfl, ends_call' (c := .string (laid 2 T)) (f := 45) (args := #[.int .i64 2, .int .i64 (T)]) ?_ (num_any 2 (T) u)⟩
     simp [Act.eval, d35, go_sem]
    | 13, ho =>
     obtain rfl := Option.some.inj ho
     have d31 : bx.tmps.getD 31 undef = .string (laid 1 (64 + (20 + (h.opts.size : Int)) / 4) ++ laid 1 h.tos) := hS.dep 7 31
     have d36 : bx.tmps.getD 36 undef = .string (laid 2 T) := hS.dep 12 36
     refine .inl ⟨rfl, ends_value' (c := .string (laid 1 (64 + (20 + (h.opts.size : Int)) / 4) ++ laid 1 h.tos ++ laid 2 T)) ?_⟩
     simp [Act.eval, d31, d36, go_sem, ha2]
    | 14, ho =>
     obtain rfl := Option.some.inj ho
     have d2 : bx.tmps.getD 2 undef = .pointer (some ⟨w.heap.size, 0, none⟩) := hS.base 2
     refine .inl ⟨rfl, ends_value' (c := .pointer (some ⟨w.heap.size, 1, none⟩)) ?_⟩
     simp [Act.eval, d2, go_sem]
    | 15, ho =>
     obtain rfl := Option.some.inj ho
     have d38 : bx.tmps.getD 38 undef = .pointer (some ⟨w.heap.size, 1, none⟩) := hS.dep 14 38
     have hl := hcell_of hbel hlt c1
     refine .inl ⟨rfl, ends_value' (c := .int .i64 h.id) ?_⟩
     simp [Act.eval, d38, go_sem, hl]
    | 16, ho =>
     obtain rfl := Option.some.inj ho
     have d39 : bx.tmps.getD 39 undef = .int .i64 h.id := hS.dep 15 39
     refine .inl ⟨rfl, ends_call' (c := .string (laid 2 h.id)) (f := 45) (args := #[.int .i64 2, .int .i64 (h.id)]) ?_ (num_any 2 (h.id) u)⟩
     simp [Act.eval, d39, go_sem]
    | 17, ho =>
     obtain rfl := Option.some.inj ho
     have d37 : bx.tmps.getD 37 undef = .string (laid 1 (64 + (20 + (h.opts.size : Int)) / 4) ++ laid 1 h.tos ++ laid 2 T) := hS.dep 13 37
     have d40 : bx.tmps.getD 40 undef = .string (laid 2 h.id) := hS.dep 16 40
     refine .inl ⟨rfl, ends_value' (c := .string (laid 1 (64 + (20 + (h.opts.size : Int)) / 4) ++ laid 1 h.tos ++ laid 2 T ++ laid 2 h.id)) ?_⟩
     simp [Act.eval, d37, d40, go_sem, ha3]
    | 18, ho =>
     obtain rfl := Option.some.inj ho
     have d2 : bx.tmps.getD 2 undef = .pointer (some ⟨w.heap.size, 0, none⟩) := hS.base 2
     refine .inl ⟨rfl, ends_value' (c := .pointer (some ⟨w.heap.size, 2, none⟩)) ?_⟩
     simp [Act.eval, d2, go_sem]
    | 19, ho =>
     obtain rfl := Option.some.inj ho
     have d42 : bx.tmps.getD 42 undef = .pointer (some ⟨w.heap.size, 2, none⟩) := hS.dep 18 42
     have hl := hcell_of hbel hlt c2
     refine .inl ⟨rfl, ends_value' (c := .int .i64 h.flags) ?_⟩
     simp [Act.eval, d42, go_sem, hl]
    | 20, ho =>
     obtain rfl := Option.some.inj ho
     have d43 : bx.tmps.getD 43 undef = .int .i64 h.flags := hS.dep 19 43
     refine .inl ⟨rfl, ends_value' (c := .int .i64 (h.flags * 8192)) ?_⟩
     simp [Act.eval, d43, go_sem, k20]
    | 21, ho =>
     obtain rfl := Option.some.inj ho
     have d2 : bx.tmps.getD 2 undef = .pointer (some ⟨w.heap.size, 0, none⟩) := hS.base 2
     refine .inl ⟨rfl, ends_value' (c := .pointer (some ⟨w.heap.size, 3, none⟩)) ?_⟩
     simp [Act.eval, d2, go_sem]
    | 22, ho =>
     obtain rfl := Option.some.inj ho
     have d45 : bx.tmps.getD 45 undef = .pointer (some ⟨w.heap.size, 3, none⟩) := hS.dep 21 45
     have hl := hcell_of hbel hlt c3
     refine .inl ⟨rfl, ends_value' (c := .int .i64 h.frag) ?_⟩
     simp [Act.eval, d45, go_sem, hl]
    | 23, ho =>
     obtain rfl := Option.some.inj ho
     have d44 : bx.tmps.getD 44 undef = .int .i64 (h.flags * 8192) := hS.dep 20 44
     have d46 : bx.tmps.getD 46 undef = .int .i64 h.frag := hS.dep 22 46
     refine .inl ⟨rfl, ends_value' (c := .int .i64 (h.flags * 8192 + h.frag)) ?_⟩
     simp [Act.eval, d44, d46, go_sem, k23]
    | 24, ho =>
     obtain rfl := Option.some.inj ho
     have d47 : bx.tmps.getD 47 undef = .int .i64 (h.flags * 8192 + h.frag) := hS.dep 23 47
     refine .inl ⟨rfl, ends_call' (c := .string (laid 2 (h.flags * 8192 + h.frag))) (f := 45) (args := #[.int .i64 2, .int .i64 (h.flags * 8192 + h.frag)]) ?_ (num_any 2 (h.flags * 8192 + h.frag) u)⟩
     simp [Act.eval, d47, go_sem]
    | 25, ho =>
     obtain rfl := Option.some.inj ho
     have d41 : bx.tmps.getD 41 undef = .string (laid 1 (64 + (20 + (h.opts.size : Int)) / 4) ++ laid 1 h.tos ++ laid 2 T ++ laid 2 h.id) := hS.dep 17 41
     have d48 : bx.tmps.getD 48 undef = .string (laid 2 (h.flags * 8192 + h.frag)) := hS.dep 24 48
     refine .inl ⟨rfl, ends_value' (c := .string (laid 1 (64 + (20 + (h.opts.size : Int)) / 4) ++ laid 1 h.tos ++ laid 2 T ++ laid 2 h.id ++ laid 2 (h.flags * 8192 + h.frag))) ?_⟩
     simp [Act.eval, d41, d48, go_sem, ha4]
    | 26, ho =>
     obtain rfl := Option.some.inj ho
     have d2 : bx.tmps.getD 2 undef = .pointer (some ⟨w.heap.size, 0, none⟩) := hS.base 2
     refine .inl ⟨rfl, ends_value' (c := .pointer (some ⟨w.heap.size, 4, none⟩)) ?_⟩
     simp [Act.eval, d2, go_sem]
    | 27, ho =>
     obtain rfl := Option.some.inj ho
     have d50 : bx.tmps.getD 50 undef = .pointer (some ⟨w.heap.size, 4, none⟩) := hS.dep 26 50
     have hl := hcell_of hbel hlt c4
     refine .inl ⟨rfl, ends_value' (c := .int .i64 h.ttl) ?_⟩
     simp [Act.eval, d50, go_sem, hl]
    | 28, ho =>
     obtain rfl := Option.some.inj ho
     have d51 : bx.tmps.getD 51 undef = .int .i64 h.ttl := hS.dep 27 51
     refine .inl ⟨rfl, ends_call' (c := .string (laid 1 h.ttl)) (f := 45) (args := #[.int .i64 1, .int .i64 (h.ttl)]) ?_ (num_any 1 (h.ttl) u)⟩
     simp [Act.eval, d51, go_sem]
    | 29, ho =>
     obtain rfl := Option.some.inj ho
     have d49 : bx.tmps.getD 49 undef = .string (laid 1 (64 + (20 + (h.opts.size : Int)) / 4) ++ laid 1 h.tos ++ laid 2 T ++ laid 2 h.id ++ laid 2 (h.flags * 8192 + h.frag)) := hS.dep 25 49
     have d52 : bx.tmps.getD 52 undef = .string (laid 1 h.ttl) := hS.dep 28 52
     refine .inl ⟨rfl, ends_value' (c := .string (laid 1 (64 + (20 + (h.opts.size : Int)) / 4) ++ laid 1 h.tos ++ laid 2 T ++ laid 2 h.id ++ laid 2 (h.flags * 8192 + h.frag) ++ laid 1 h.ttl)) ?_⟩
     simp [Act.eval, d49, d52, go_sem, ha5]
    | 30, ho =>
     obtain rfl := Option.some.inj ho
     have d2 : bx.tmps.getD 2 undef = .pointer (some ⟨w.heap.size, 0, none⟩) := hS.base 2
     refine .inl ⟨rfl, ends_value' (c := .pointer (some ⟨w.heap.size, 5, none⟩)) ?_⟩
     simp [Act.eval, d2, go_sem]
    | 31, ho =>
     obtain rfl := Option.some.inj ho
     have d54 : bx.tmps.getD 54 undef = .pointer (some ⟨w.heap.size, 5, none⟩) := hS.dep 30 54
     have hl := hcell_of hbel hlt c5
     refine .inl ⟨rfl, ends_value' (c := .int .i64 h.proto) ?_⟩
     simp [Act.eval, d54, go_sem, hl]
    | 32, ho =>
     obtain rfl := Option.some.inj ho
     have d55 : bx.tmps.getD 55 undef = .int .i64 h.proto := hS.dep 31 55
     refine .inl ⟨rfl, ends_call' (c := .string (laid 1 h.proto)) (f := 45) (args := #[.int .i64 1, .int .i64 (h.proto)]) ?_ (num_any 1 (h.proto) u)⟩
     simp [Act.eval, d55, go_sem]
    | 33, ho =>
     obtain rfl := Option.some.inj ho
     have d53 : bx.tmps.getD 53 undef = .string (laid 1 (64 + (20 + (h.opts.size : Int)) / 4) ++ laid 1 h.tos ++ laid 2 T ++ laid 2 h.id ++ laid 2 (h.flags * 8192 + h.frag) ++ laid 1 h.ttl) := hS.dep 29 53
     have d56 : bx.tmps.getD 56 undef = .string (laid 1 h.proto) := hS.dep 32 56
     refine .inl ⟨rfl, ends_value' (c := .string (laid 1 (64 + (20 + (h.opts.size : Int)) / 4) ++ laid 1 h.tos ++ laid 2 T ++ laid 2 h.id ++ laid 2 (h.flags * 8192 + h.frag) ++ laid 1 h.ttl ++ laid 1 h.proto)) ?_⟩
     simp [Act.eval, d53, d56, go_sem, ha6]
    | 34, ho =>
     obtain rfl := Option.some.inj ho
     have d57 : bx.tmps.getD 57 undef = .string (laid 1 (64 + (20 + (h.opts.size : Int)) / 4) ++ laid 1 h.tos ++ laid 2 T ++ laid 2 h.id ++ laid 2 (h.flags * 8192 + h.frag) ++ laid 1 h.ttl ++ laid 1 h.proto) := hS.dep 33 57
     refine .inl ⟨rfl, ends_value' (c := .string (laid 1 (64 + (20 + (h.opts.size : Int)) / 4) ++ laid 1 h.tos ++ laid 2 T ++ laid 2 h.id ++ laid 2 (h.flags * 8192 + h.frag) ++ laid 1 h.ttl ++ laid 1 h.proto)) ?_⟩
     simp [execOp, Act.eval, d57]
    | n + 35, ho => exact absurd ho (by simp)
   case fin =>
    intro u hbel
    simp [putAll, dstAt, Act.put]
    have hk2 := (unhide HK).on' hbel
    clear HK hbel c0 c1 c2 c3 c4 c5 c6 c7 c8
    have hlt2 := hk2.size
    have c6 := hk2.at_ 6 (by decide)
    have c7 := hk2.at_ 7 (by decide)
    have c8 := hk2.at_ 8 (by decide)
    simp only [hcell] at c6 c7 c8
    have hLA : laid 1 (64 + (20 + (h.opts.size : Int)) / 4) ++ laid 1 h.tos ++ laid 2 T ++ laid 2 h.id ++ laid 2 (h.flags * 8192 + h.frag) ++ laid 1 h.ttl ++ laid 1 h.proto = layA h T := rfl
    have hls := layA_size h T
    have hbs : (layB h).size ≤ 100 := by unfold layB; simp only [ByteArray.size_append]; have := laid_size 4 h.src; have := laid_size 4 h.dst; omega
    obtain ⟨u0, u1⟩ := (unhide HW).src
    obtain ⟨v0, v1⟩ := (unhide HW).dst
    have k6 := Oct.wraps_i64 h.src u0 (by omega)
    have k7 := Oct.wraps_i64 h.dst v0 (by omega)
    have hb1 := add_run (laid 4 h.src) (laid 4 h.dst) (by have := laid_size 4 h.src; omega) (by have := laid_size 4 h.dst; omega)
    have hb2 := add_run (laid 4 h.src ++ laid 4 h.dst) h.opts (by rw [ByteArray.size_append]; have := laid_size 4 h.src; have := laid_size 4 h.dst; omega) (by omega)
    clear ha1 ha2 ha3 ha4 ha5 ha6
    go_wp2_with fail
    refine wp_region_grow (by kernel_rfl) [.pointer (some ⟨w.heap.size, 6, none⟩), .int .u32 h.src, .int .i64 h.src, .string (laid 4 h.src), .pointer (some ⟨w.heap.size, 7, none⟩), .int .u32 h.dst, .int .i64 h.dst, .string (laid 4 h.dst), .string (laid 4 h.src ++ laid 4 h.dst), .pointer (some ⟨w.heap.size, 8, none⟩), .string h.opts, .string (laid 4 h.src ++ laid 4 h.dst ++ h.opts), .string (laid 4 h.src ++ laid 4 h.dst ++ h.opts)] (by kernel_rfl) ?op ?fin
    case op =>
     intro i o bx u ho hbel hS
     match i, ho with
     | 0, ho =>
      obtain rfl := Option.some.inj ho
      have d2 : bx.tmps.getD 2 undef = .pointer (some ⟨w.heap.size, 0, none⟩) := hS.base 2
      refine .inl ⟨rfl, ends_value' (c := .pointer (some ⟨w.heap.size, 6, none⟩)) ?_⟩
      simp [Act.eval, d2, go_sem]
     | 1, ho =>
      obtain rfl := Option.some.inj ho
      have d58 : bx.tmps.getD 58 undef = .pointer (some ⟨w.heap.size, 6, none⟩) := hS.dep 0 58
      have hl := hcell_of hbel hlt2 c6
      refine .inl ⟨rfl, ends_value' (c := .int .u32 h.src) ?_⟩
      simp [Act.eval, d58, go_sem, hl]
     | 2, ho =>
      obtain rfl := Option.some.inj ho
      have d59 : bx.tmps.getD 59 undef = .int .u32 h.src := hS.dep 1 59
      refine .inl ⟨rfl, ends_value' (c := .int .i64 h.src) ?_⟩
      simp [Act.eval, d59, go_sem, k6]
     | 3, ho =>
      obtain rfl := Option.some.inj ho
      have d60 : bx.tmps.getD 60 undef = .int .i64 h.src := hS.dep 2 60
      refine .inl ⟨rfl, ends_call' (c := .string (laid 4 h.src)) (f := 45) (args := #[.int .i64 4, .int .i64 (h.src)]) ?_ (num_any 4 (h.src) u)⟩
      simp [Act.eval, d60, go_sem]
     | 4, ho =>
      obtain rfl := Option.some.inj ho
      have d2 : bx.tmps.getD 2 undef = .pointer (some ⟨w.heap.size, 0, none⟩) := hS.base 2
      refine .inl ⟨rfl, ends_value' (c := .pointer (some ⟨w.heap.size, 7, none⟩)) ?_⟩
      simp [Act.eval, d2, go_sem]
     | 5, ho =>
      obtain rfl := Option.some.inj ho
      have d62 : bx.tmps.getD 62 undef = .pointer (some ⟨w.heap.size, 7, none⟩) := hS.dep 4 62
      have hl := hcell_of hbel hlt2 c7
      refine .inl ⟨rfl, ends_value' (c := .int .u32 h.dst) ?_⟩
      simp [Act.eval, d62, go_sem, hl]
     | 6, ho =>
      obtain rfl := Option.some.inj ho
      have d63 : bx.tmps.getD 63 undef = .int .u32 h.dst := hS.dep 5 63
      refine .inl ⟨rfl, ends_value' (c := .int .i64 h.dst) ?_⟩
      simp [Act.eval, d63, go_sem, k7]
     | 7, ho =>
      obtain rfl := Option.some.inj ho
      have d64 : bx.tmps.getD 64 undef = .int .i64 h.dst := hS.dep 6 64
      refine .inl ⟨rfl, ends_call' (c := .string (laid 4 h.dst)) (f := 45) (args := #[.int .i64 4, .int .i64 (h.dst)]) ?_ (num_any 4 (h.dst) u)⟩
      simp [Act.eval, d64, go_sem]
     | 8, ho =>
      obtain rfl := Option.some.inj ho
      have d61 : bx.tmps.getD 61 undef = .string (laid 4 h.src) := hS.dep 3 61
      have d65 : bx.tmps.getD 65 undef = .string (laid 4 h.dst) := hS.dep 7 65
      refine .inl ⟨rfl, ends_value' (c := .string (laid 4 h.src ++ laid 4 h.dst)) ?_⟩
      simp [Act.eval, d61, d65, go_sem, hb1]
     | 9, ho =>
      obtain rfl := Option.some.inj ho
      have d2 : bx.tmps.getD 2 undef = .pointer (some ⟨w.heap.size, 0, none⟩) := hS.base 2
      refine .inl ⟨rfl, ends_value' (c := .pointer (some ⟨w.heap.size, 8, none⟩)) ?_⟩
      simp [Act.eval, d2, go_sem]
     | 10, ho =>
      obtain rfl := Option.some.inj ho
      have d67 : bx.tmps.getD 67 undef = .pointer (some ⟨w.heap.size, 8, none⟩) := hS.dep 9 67
      have hl := hcell_of hbel hlt2 c8
      refine .inl ⟨rfl, ends_value' (c := .string h.opts) ?_⟩
      simp [Act.eval, d67, go_sem, hl]
     | 11, ho =>
      obtain rfl := Option.some.inj ho
      have d66 : bx.tmps.getD 66 undef = .string (laid 4 h.src ++ laid 4 h.dst) := hS.dep 8 66
      have d68 : bx.tmps.getD 68 undef = .string h.opts := hS.dep 10 68
      refine .inl ⟨rfl, ends_value' (c := .string (laid 4 h.src ++ laid 4 h.dst ++ h.opts)) ?_⟩
      simp [Act.eval, d66, d68, go_sem, hb2]
     | 12, ho =>
      obtain rfl := Option.some.inj ho
      have d69 : bx.tmps.getD 69 undef = .string (laid 4 h.src ++ laid 4 h.dst ++ h.opts) := hS.dep 11 69
      refine .inl ⟨rfl, ends_value' (c := .string (laid 4 h.src ++ laid 4 h.dst ++ h.opts)) ?_⟩
      simp [execOp, Act.eval, d69]
     | n + 13, ho => exact absurd ho (by simp)
    case fin =>
     intro u hbel
     simp [putAll, dstAt, Act.put]
     have hk3 := hk2.on' hbel
     clear hk2 hbel
     have hlt3 := hk3.size
     have HK := hide hk3
     clear hk3 c6 c7 c8
     generalize hA : layA h T = LA at *
     have hBB : laid 4 h.src ++ laid 4 h.dst ++ h.opts = layB h := rfl
     generalize hB : layB h = LB at *
     have hd1 := add_run LA ⟨#[0, 0]⟩ (by omega) (by decide)
     have hd2 := add_run (LA ++ ⟨#[0, 0]⟩) LB (by rw [ByteArray.size_append]; have : (⟨#[0, 0]⟩ : ByteArray).size = 2 := rfl; omega) (by omega)
     have hd3 := add_run LA (laid 2 c) (by omega) (by have := laid_size 2 c; omega)
     have hd4 := add_run (LA ++ laid 2 c) LB (by rw [ByteArray.size_append]; have := laid_size 2 c; omega) (by omega)
     have hd5 := add_run (LA ++ laid 2 c ++ LB) body (by rw [ByteArray.size_append, ByteArray.size_append]; have := laid_size 2 c; omega) (by omega)
     go_wp2_with fail
     refine (hck _).mono ?_
     rintro e w4 ⟨rfl, hb4⟩
     have hk4 := (unhide HK).on hb4
     have HK := hide hk4
     clear hk4 hb4 hd1 hd2
     go_wp2_with fail
     refine (num_any 2 c _).mono ?_
     rintro e w5 ⟨rfl, hb5⟩
     have hk5 := (unhide HK).on hb5
     have HK := hide hk5
     clear hk5 hb5
     go_wp2_with fail
     go_ret2
     exact ⟨ret_si HS.out.symm HE.out.symm, (unhide HK).below⟩
end Go.Proofs.YtpjaajeojiaeiaaGreatDoor.Ip
