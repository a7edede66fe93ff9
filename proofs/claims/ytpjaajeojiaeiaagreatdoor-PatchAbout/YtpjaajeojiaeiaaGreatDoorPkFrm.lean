/- What segment and frame of the law's package compute: the packets that are made. -/
import Derived.Test.YtpjaajeojiaeiaaGreatDoorPkMake
import Derived.Test.YtpjaajeojiaeiaaGreatDoorIpE
import Derived.Test.YtpjaajeojiaeiaaGreatDoorIcC
import Derived.Test.YtpjaajeojiaeiaaGreatDoorPsC
import Derived.Lib.MinMax
namespace Go.Proofs.YtpjaajeojiaeiaaGreatDoor
open Go.ChangeShapes Go.WideShapes Go.ChangeAt Go.RowKit

theorem ret_s {a b : ByteArray} (h : a = b) : Ending.returned (.string a) = .returned (.string b) := by rw [h]
theorem segS6 (m : Mk) : segS m 6 = Ps.fillS 6 m.src m.dst (Tc.built (tch m) (mb m)) := if_pos rfl
theorem segS17z {m : Mk} (h : m.zero = true) : segS m 17 = Ps.built m.sport m.dport (mb m) := by unfold segS; rw [if_neg (by decide), if_pos h]
theorem segS17f {m : Mk} (h : m.zero = false) : segS m 17 = Ps.fillS 17 m.src m.dst (Ps.built m.sport m.dport (mb m)) := by unfold segS; rw [if_neg (by decide), if_neg (by rw [h]; decide)]
theorem tc_build {m : Mk} (w : m.Wf) : Tc.buildE (tch m) (mb m) = 0 ∧ Tc.buildS (tch m) (mb m) = Tc.built (tch m) (mb m) := ⟨Tc.buildE_of (tch_right w) (tc_total m), Tc.buildS_of (Tc.buildE_of (tch_right w) (tc_total m))⟩
theorem ud_build {m : Mk} (w : m.Wf) : Ps.buildE m.sport m.dport (mb m) = 0 ∧ Ps.buildS m.sport m.dport (mb m) = Ps.built m.sport m.dport (mb m) := by
 have h : Ps.buildE m.sport m.dport (mb m) = 0 := Ps.buildE_of ((Ps.inP_iff _).2 w.sport) ((Ps.inP_iff _).2 w.dport) (by have := (mb_size m).1; omega)
 exact ⟨h, Ps.buildS_of h⟩
theorem tcb_size {m : Mk} (w : m.Wf) : (Tc.built (tch m) (mb m)).size ≤ 100 := by
 have := (mb_size m).1
 rw [Tc.built_size (tch_right w) (tch_wf w)]
 show 20 + (⟨#[]⟩ : ByteArray).size + (mb m).size ≤ 100
 have : (⟨#[]⟩ : ByteArray).size = 0 := rfl
 omega
theorem udb_size {m : Mk} (w : m.Wf) : (Ps.built m.sport m.dport (mb m)).size ≤ 100 := by
 have := (mb_size m).1
 rw [Ps.built_size ((Ps.inP_iff _).2 w.sport) ((Ps.inP_iff _).2 w.dport) (by omega)]; omega

set_option maxRecDepth 100000 in
set_option maxHeartbeats 4000000 in
theorem lseg_any (m : Mk) (p : Int) (hp : p = 6 ∨ p = 17) (w : World) (hw : m.Wf) :
  Calls Tryz.prog 20 #[m.val, .int .i64 p] w fun e w' => e = .returned (.string (segS m p)) ∧ Below w.heap.size w w' := by
 have k3 : IntKind.i64.wrap m.sport = m.sport := Oct.wraps_i64 _ hw.sport.1 (by have := hw.sport.2; omega)
 have k4 : IntKind.i64.wrap m.dport = m.dport := Oct.wraps_i64 _ hw.dport.1 (by have := hw.dport.2; omega)
 have k5 : m.flags.tmod 64 = m.flags % 64 := Int.tmod_eq_emod_of_nonneg hw.flags.1
 have k6 : IntKind.u8.wrap (m.flags % 64) = m.flags % 64 := by rw [IntKind.wrap_u8]; omega
 have k7 : IntKind.i64.wrap (m.flags % 64) = m.flags % 64 := Oct.wraps_i64 _ (by omega) (by omega)
 obtain ⟨sp0, sp1⟩ := hw.sport
 obtain ⟨dp0, dp1⟩ := hw.dport
 obtain ⟨fl0, fl1⟩ := hw.flags
 have hbz := hw.body
 have r0 := row_new w m.cells 25
 have b0 := alloc_on w (.cells m.cells.toArray 25)
 have HB : Hid (mb m = m.body.extract 0 (min m.body.size 40)) := rfl
 have hmb := mb_size m
 have hmin : (min (m.body.size : Int) 40).toNat = min m.body.size 40 := by omega
 rcases hp with rfl | rfl
 ·have HS := hide (segS6 m)
  obtain ⟨t1, t2⟩ := tc_build hw
  have HT := hide (fun u => Tc.rbuild_any (tch m) (mb m) u (tch_wf hw) (by omega))
  rw [t1, t2] at HT
  have HF := hide (fun u => Ps.rpfill_any 6 m.src m.dst (Tc.built (tch m) (mb m)) u hw.src hw.dst (by have := tcb_size hw; omega))
  have HV : Hid ((tch m).val = .agg #[.int .i64 m.sport, .int .i64 m.dport, .int .u32 7, .int .u32 0, .int .i64 (m.flags % 64), .int .i64 9, .int .i64 0, .string ⟨#[]⟩]) := rfl
  rw [HV.out] at HT
  generalize segS m 6 = SS at *
  generalize Ps.fillS 6 m.src m.dst (Tc.built (tch m) (mb m)) = FS at *
  generalize Ps.fillB 6 m.src m.dst (Tc.built (tch m) (mb m)) = FB at *
  generalize Tc.built (tch m) (mb m) = TB at *
  generalize mb m = B at *
  clear t1 t2 HV hw
  go_enter Tryz.func20, Tryz.ntmps20
  have hB : m.body.extract 0 (min (m.body.size : Int) 40).toNat = B := by rw [HB.out, hmin]
  clear hmin
  have HR := hide (And.intro r0 b0)
  clear r0 b0
  go_wp2_with fail
  refine (unhide HT _).mono ?_
  rintro e w1 ⟨rfl, hb⟩
  obtain ⟨r0, b0⟩ := unhide HR
  replace r0 := r0.on' hb
  replace b0 := Below.then b0 hb
  have c1 := r0.cell 1 _ rfl
  have c2 := r0.cell 2 _ rfl
  have HB2 := hide b0
  clear r0 b0 hb HR
  go_wp2_with fail
  refine (unhide HF _).mono ?_
  rintro e w2 ⟨rfl, hb⟩
  have HB3 := hide (Below.then (unhide HB2) hb)
  clear hb
  go_wp2_with fail
  go_ret
  exact ⟨ret_s (unhide HS).symm, unhide HB3⟩
 ·obtain ⟨t1, t2⟩ := ud_build hw
  have HT := hide (fun u => Ps.rbuild_any m.sport m.dport (mb m) u (by omega))
  rw [t1, t2] at HT
  have HF := hide (fun u => Ps.rpfill_any 17 m.src m.dst (Ps.built m.sport m.dport (mb m)) u hw.src hw.dst (by have := udb_size hw; omega))
  cases hz : m.zero with
  | true =>
   have HS := hide (segS17z hz)
   have HZ := hide hz
   clear hz
   generalize segS m 17 = SS at *
   generalize Ps.fillS 17 m.src m.dst (Ps.built m.sport m.dport (mb m)) = FS at *
   generalize Ps.fillB 17 m.src m.dst (Ps.built m.sport m.dport (mb m)) = FB at *
   generalize Ps.built m.sport m.dport (mb m) = TB at *
   generalize mb m = B at *
   clear t1 t2 hw HF
   go_enter Tryz.func20, Tryz.ntmps20
   have hB : m.body.extract 0 (min (m.body.size : Int) 40).toNat = B := by rw [HB.out, hmin]
   clear hmin
   have HR := hide (And.intro r0 b0)
   clear r0 b0
   go_wp2_with fail
   refine (unhide HT _).mono ?_
   rintro e w1 ⟨rfl, hb⟩
   obtain ⟨r0, b0⟩ := unhide HR
   replace r0 := r0.on' hb
   replace b0 := Below.then b0 hb
   have c1 := r0.cell 1 _ rfl
   have c2 := r0.cell 2 _ rfl
   have c8 := r0.cell 8 _ rfl
   rw [unhide HZ] at c8
   have HB2 := hide b0
   clear r0 b0 hb HR
   go_wp2_with fail
   go_ret
   exact ⟨ret_s (unhide HS).symm, unhide HB2⟩
  | false =>
   have HS := hide (segS17f hz)
   have HZ := hide hz
   clear hz
   generalize segS m 17 = SS at *
   generalize Ps.fillS 17 m.src m.dst (Ps.built m.sport m.dport (mb m)) = FS at *
   generalize Ps.fillB 17 m.src m.dst (Ps.built m.sport m.dport (mb m)) = FB at *
   generalize Ps.built m.sport m.dport (mb m) = TB at *
   generalize mb m = B at *
   clear t1 t2 hw
   go_enter Tryz.func20, Tryz.ntmps20
   have hB : m.body.extract 0 (min (m.body.size : Int) 40).toNat = B := by rw [HB.out, hmin]
   clear hmin
   have HR := hide (And.intro r0 b0)
   clear r0 b0
   go_wp2_with fail
   refine (unhide HT _).mono ?_
   rintro e w1 ⟨rfl, hb⟩
   obtain ⟨r0, b0⟩ := unhide HR
   replace r0 := r0.on' hb
   replace b0 := Below.then b0 hb
   have c1 := r0.cell 1 _ rfl
   have c2 := r0.cell 2 _ rfl
   have c8 := r0.cell 8 _ rfl
   rw [unhide HZ] at c8
   have HB2 := hide b0
   clear r0 b0 hb HR
   go_wp2_with fail
   refine (unhide HF _).mono ?_
   rintro e w2 ⟨rfl, hb⟩
   have HB3 := hide (Below.then (unhide HB2) hb)
   clear hb
   go_wp2_with fail
   go_ret
   exact ⟨ret_s (unhide HS).symm, unhide HB3⟩

set_option maxRecDepth 100000 in
set_option maxHeartbeats 4000000 in
theorem frame_any (m : Mk) (w : World) (hw : m.Wf) :
  Calls Tryz.prog 12 #[m.val] w fun e w' => e = .returned (.string (frameS m)) ∧ Below w.heap.size w w' := by
 obtain ⟨hi1, hi2, -⟩ := inS_size hw
 have hqn := quoN_rng hw
 have hics := ic_size hw
 have hicb := ich_body hw
 have HG := hide (fun u => lseg_any m (pr m) (pr_or m) u hw)
 have HI := hide (fun u => Ip.rbuild_any (iph m) (segS m (pr m)) u (in_built hw).w (by have := seg_size hw; omega))
 rw [(ip_build (in_built hw)).1, (ip_build (in_built hw)).2] at HI
 have HC := hide (fun u => Ic.rbuild_any (ich m) u (Ic.wf_mk _ (by decide) (by decide) (by have := hw.flags; omega) (by have := hw.flags; omega) (by decide) (by decide) (by show (ich m).body.size ≤ _; omega)))
 rw [Ic.buildE_of (ich_good hw) (by omega), Ic.buildS_of (Ic.buildE_of (ich_good hw) (by omega))] at HC
 have HO := hide (fun u => Ip.rbuild_any (oph m) (Ic.built (ich m)) u (out_built hw).w (by omega))
 rw [(ip_build (out_built hw)).1, (ip_build (out_built hw)).2] at HO
 have HFi : Hid (m.kind % 4 < 2 → frameS m = inS m) := fun h => if_pos h
 have HFo : Hid (¬ m.kind % 4 < 2 → frameS m = outS m) := fun h => if_neg h
 have kt : IntKind.i64.wrap m.ttl = m.ttl := Oct.wraps_i64 _ hw.ttl.1 (by have := hw.ttl.2; omega)
 have kf : m.flags.tmod 6 = m.flags % 6 := Int.tmod_eq_emod_of_nonneg hw.flags.1
 have kf2 : IntKind.u8.wrap (m.flags % 6) = m.flags % 6 := by rw [IntKind.wrap_u8]; omega
 have kf3 : IntKind.i64.wrap (m.flags % 6) = m.flags % 6 := Oct.wraps_i64 _ (by omega) (by omega)
 have k2 : m.kind.tmod 2 = m.kind % 2 := Int.tmod_eq_emod_of_nonneg hw.kind.1
 have k2w : IntKind.u8.wrap (m.kind % 2) = m.kind % 2 := by rw [IntKind.wrap_u8]; omega
 have k4 : m.kind.tmod 4 = m.kind % 4 := Int.tmod_eq_emod_of_nonneg hw.kind.1
 have k4w : IntKind.u8.wrap (m.kind % 4) = m.kind % 4 := by rw [IntKind.wrap_u8]; omega
 obtain ⟨kd0, kd1⟩ := hw.kind
 obtain ⟨fl0, fl1⟩ := hw.flags
 obtain ⟨tt0, tt1⟩ := hw.ttl
 have r0 := row_new w m.cells 25
 have b0 := alloc_on w (.cells m.cells.toArray 25)
 have HPd : Hid (pr m = if m.kind % 2 = 1 then 17 else 6) := rfl
 have HQ : Hid (quoN m = if m.zero = true then 28 else (inS m).size) := rfl
 have HQS : Hid ((ich m).body = (inS m).extract 0 (quoN m)) := rfl
 change Hid (∀ u, Calls _ _ #[.agg #[.int .i64 0, .int .i64 5, .int .i64 0, .int .i64 0, .int .i64 m.ttl, .int .i64 (pr m), .int .u32 m.src, .int .u32 m.dst, .string ⟨#[]⟩], .string (segS m (pr m))] u fun e w' => e = .returned (.tuple #[.string (inS m), .int .i64 0]) ∧ Below u.heap.size u w') at HI
 change Hid (∀ u, Calls _ _ #[.agg #[.int .i64 3, .int .i64 (m.flags % 6), .int .u32 1400, .string (ich m).body]] u fun e w' => e = .returned (.tuple #[.string (Ic.built (ich m)), .int .i64 0]) ∧ Below u.heap.size u w') at HC
 change Hid (∀ u, Calls _ _ #[.agg #[.int .i64 0, .int .i64 0, .int .i64 0, .int .i64 0, .int .i64 m.ttl, .int .i64 1, .int .u32 m.frm, .int .u32 m.dest, .string ⟨#[]⟩], .string (Ic.built (ich m))] u fun e w' => e = .returned (.tuple #[.string (outS m), .int .i64 0]) ∧ Below u.heap.size u w') at HO
 generalize segS m (pr m) = SG at *
 generalize inS m = IS at *
 generalize outS m = OS at *
 generalize frameS m = FR at *
 generalize Ic.built (ich m) = CS at *
 generalize (ich m).body = QS at *
 generalize quoN m = qn at *
 clear hw hics hicb
 have main : ∀ (W0 : World) (B0 : Below w.heap.size w W0) (R0 : Row W0 w.heap.size m.cells) , True := fun _ _ _ => trivial
 clear main
 go_enter Tryz.func12, Tryz.ntmps12
 have up0 := r0
 have HR := hide (And.intro r0 b0)
 clear r0 b0 up0
 by_cases hk2 : m.kind % 2 = 1
 ·have hp : (17 : Int) = pr m := by rw [HPd.out, if_pos hk2]
  have t2 : (m.kind % 2 == 1) = true := by simpa using hk2
  go_wp2_with fail
  clear hp
  obtain ⟨r0, b0⟩ := unhide HR
  generalize w.alloc (.cells m.cells.toArray 25) = W1 at *
  have up : ∀ x, Below W1.heap.size W1.drew x → Row x w.heap.size m.cells := fun x hb => (r0.of_block (W' := W1.drew) rfl).on hb r0.lt
  refine wp_region_grow (by kernel_rfl) [.pointer (some ⟨w.heap.size, 6, none⟩), .int .u8 m.ttl, .int .i64 m.ttl, .int .i64 (pr m), .pointer (some ⟨w.heap.size, 1, none⟩), .int .u32 m.src, .pointer (some ⟨w.heap.size, 2, none⟩), .int .u32 m.dst, .agg #[.int .i64 0, .int .i64 5, .int .i64 0, .int .i64 0, .int .i64 m.ttl, .int .i64 (pr m), .int .u32 m.src, .int .u32 m.dst, .string ⟨#[]⟩], m.val, .int .i64 (pr m), .string SG, .tuple #[.string IS, .int .i64 0], .tuple #[.string IS, .int .i64 0], .string IS, .int .i64 0, .string IS, .int .i64 0] (by kernel_rfl) ?op ?fin
  case op =>
   intro i o bx u ho hbel hS
   match i, ho with
   | 0, ho =>
    obtain rfl := Option.some.inj ho
    have d1 : bx.tmps.getD 1 undef = .pointer (some ⟨w.heap.size, 0, none⟩) := hS.base 1
    refine .inl ⟨rfl, ends_value' (c := .pointer (some ⟨w.heap.size, 6, none⟩)) ?_⟩
    simp [Act.eval, d1, go_sem]
   | 1, ho =>
    obtain rfl := Option.some.inj ho
    have d16 : bx.tmps.getD 16 undef = .pointer (some ⟨w.heap.size, 6, none⟩) := hS.dep 0 16
    have hl := (up u hbel).cell 6 _ rfl
    refine .inl ⟨rfl, ends_value' (c := .int .u8 m.ttl) ?_⟩
    simp [Act.eval, d16, go_sem, hl]
   | 2, ho =>
    obtain rfl := Option.some.inj ho
    have d17 : bx.tmps.getD 17 undef = .int .u8 m.ttl := hS.dep 1 17
    refine .inl ⟨rfl, ends_value' (c := .int .i64 m.ttl) ?_⟩
    simp [Act.eval, d17, go_sem, kt]
   | 3, ho =>
    obtain rfl := Option.some.inj ho
    have d3 : bx.tmps.getD 3 undef = .int .i64 (pr m) := hS.base 3
    refine .inl ⟨rfl, ends_value' (c := .int .i64 (pr m)) ?_⟩
    simp [execOp, Act.eval, d3]
   | 4, ho =>
    obtain rfl := Option.some.inj ho
    have d1 : bx.tmps.getD 1 undef = .pointer (some ⟨w.heap.size, 0, none⟩) := hS.base 1
    refine .inl ⟨rfl, ends_value' (c := .pointer (some ⟨w.heap.size, 1, none⟩)) ?_⟩
    simp [Act.eval, d1, go_sem]
   | 5, ho =>
    obtain rfl := Option.some.inj ho
    have d20 : bx.tmps.getD 20 undef = .pointer (some ⟨w.heap.size, 1, none⟩) := hS.dep 4 20
    have hl := (up u hbel).cell 1 _ rfl
    refine .inl ⟨rfl, ends_value' (c := .int .u32 m.src) ?_⟩
    simp [Act.eval, d20, go_sem, hl]
   | 6, ho =>
    obtain rfl := Option.some.inj ho
    have d1 : bx.tmps.getD 1 undef = .pointer (some ⟨w.heap.size, 0, none⟩) := hS.base 1
    refine .inl ⟨rfl, ends_value' (c := .pointer (some ⟨w.heap.size, 2, none⟩)) ?_⟩
    simp [Act.eval, d1, go_sem]
   | 7, ho =>
    obtain rfl := Option.some.inj ho
    have d22 : bx.tmps.getD 22 undef = .pointer (some ⟨w.heap.size, 2, none⟩) := hS.dep 6 22
    have hl := (up u hbel).cell 2 _ rfl
    refine .inl ⟨rfl, ends_value' (c := .int .u32 m.dst) ?_⟩
    simp [Act.eval, d22, go_sem, hl]
   | 8, ho =>
    obtain rfl := Option.some.inj ho
    have d18 : bx.tmps.getD 18 undef = .int .i64 m.ttl := hS.dep 2 18
    have q18 : bx.tmps[18]?.getD undef = .int .i64 m.ttl := by rw [← Array.getD_eq_getD_getElem?]; exact d18
    have d19 : bx.tmps.getD 19 undef = .int .i64 (pr m) := hS.dep 3 19
    have q19 : bx.tmps[19]?.getD undef = .int .i64 (pr m) := by rw [← Array.getD_eq_getD_getElem?]; exact d19
    have d21 : bx.tmps.getD 21 undef = .int .u32 m.src := hS.dep 5 21
    have q21 : bx.tmps[21]?.getD undef = .int .u32 m.src := by rw [← Array.getD_eq_getD_getElem?]; exact d21
    have d23 : bx.tmps.getD 23 undef = .int .u32 m.dst := hS.dep 7 23
    have q23 : bx.tmps[23]?.getD undef = .int .u32 m.dst := by rw [← Array.getD_eq_getD_getElem?]; exact d23
    refine .inl ⟨rfl, ends_value' (c := .agg #[.int .i64 0, .int .i64 5, .int .i64 0, .int .i64 0, .int .i64 m.ttl, .int .i64 (pr m), .int .u32 m.src, .int .u32 m.dst, .string ⟨#[]⟩]) ?_⟩
    simp [Act.eval, q18, q19, q21, q23, go_sem]
   | 9, ho =>
    obtain rfl := Option.some.inj ho
    have d1 : bx.tmps.getD 1 undef = .pointer (some ⟨w.heap.size, 0, none⟩) := hS.base 1
    have v0 := (up u hbel).cell 0 _ rfl
    have v1 := (up u hbel).cell 1 _ rfl
    have v2 := (up u hbel).cell 2 _ rfl
    have v3 := (up u hbel).cell 3 _ rfl
    have v4 := (up u hbel).cell 4 _ rfl
    have v5 := (up u hbel).cell 5 _ rfl
    have v6 := (up u hbel).cell 6 _ rfl
    have v7 := (up u hbel).cell 7 _ rfl
    have v8 := (up u hbel).cell 8 _ rfl
    have v9 := (up u hbel).cell 9 _ rfl
    have v10 := (up u hbel).cell 10 _ rfl
    refine .inl ⟨rfl, ends_value' (c := m.val) ?_⟩
    simp [Act.eval, d1, go_sem, v0, v1, v2, v3, v4, v5, v6, v7, v8, v9, v10]
   | 10, ho =>
    obtain rfl := Option.some.inj ho
    have d3 : bx.tmps.getD 3 undef = .int .i64 (pr m) := hS.base 3
    refine .inl ⟨rfl, ends_value' (c := .int .i64 (pr m)) ?_⟩
    simp [execOp, Act.eval, d3]
   | 11, ho =>
    obtain rfl := Option.some.inj ho
    have d25 : bx.tmps.getD 25 undef = m.val := hS.dep 9 25
    have d26 : bx.tmps.getD 26 undef = .int .i64 (pr m) := hS.dep 10 26
    refine .inl ⟨rfl, ends_call' (c := .string SG) (f := 20) (args := #[m.val, .int .i64 (pr m)]) ?_ (unhide HG u)⟩
    simp [Act.eval, d25, d26, go_sem]
   | 12, ho =>
    obtain rfl := Option.some.inj ho
    have d24 : bx.tmps.getD 24 undef = .agg #[.int .i64 0, .int .i64 5, .int .i64 0, .int .i64 0, .int .i64 m.ttl, .int .i64 (pr m), .int .u32 m.src, .int .u32 m.dst, .string ⟨#[]⟩] := hS.dep 8 24
    have d27 : bx.tmps.getD 27 undef = .string SG := hS.dep 11 27
    refine .inl ⟨rfl, ends_call' (c := .tuple #[.string IS, .int .i64 0]) (f := 19) (args := #[.agg #[.int .i64 0, .int .i64 5, .int .i64 0, .int .i64 0, .int .i64 m.ttl, .int .i64 (pr m), .int .u32 m.src, .int .u32 m.dst, .string ⟨#[]⟩], .string SG]) ?_ (unhide HI u)⟩
    simp [Act.eval, d24, d27, go_sem]
   | 13, ho =>
    obtain rfl := Option.some.inj ho
    have d28 : bx.tmps.getD 28 undef = .tuple #[.string IS, .int .i64 0] := hS.dep 12 28
    refine .inl ⟨rfl, ends_value' (c := .tuple #[.string IS, .int .i64 0]) ?_⟩
    simp [execOp, Act.eval, d28]
   | 14, ho =>
    obtain rfl := Option.some.inj ho
    have d15 : bx.tmps.getD 15 undef = .tuple #[.string IS, .int .i64 0] := hS.dep 13 15
    refine .inl ⟨rfl, ends_value' (c := .string IS) ?_⟩
    simp [Act.eval, d15, go_sem]
   | 15, ho =>
    obtain rfl := Option.some.inj ho
    have d15 : bx.tmps.getD 15 undef = .tuple #[.string IS, .int .i64 0] := hS.dep 13 15
    refine .inl ⟨rfl, ends_value' (c := .int .i64 0) ?_⟩
    simp [Act.eval, d15, go_sem]
   | 16, ho =>
    obtain rfl := Option.some.inj ho
    have d29 : bx.tmps.getD 29 undef = .string IS := hS.dep 14 29
    refine .inl ⟨rfl, ends_value' (c := .string IS) ?_⟩
    simp [execOp, Act.eval, d29]
   | 17, ho =>
    obtain rfl := Option.some.inj ho
    have d30 : bx.tmps.getD 30 undef = .int .i64 0 := hS.dep 15 30
    refine .inl ⟨rfl, ends_value' (c := .int .i64 0) ?_⟩
    simp [execOp, Act.eval, d30]
   | n + 18, ho => exact absurd ho (by simp)
  case fin =>
   intro u hbel
   simp [putAll, dstAt, Act.put]
   replace r0 : Row u w.heap.size m.cells := up u hbel
   have b1 : Below w.heap.size w u := Below.then b0 (show Below W1.heap.size W1 u from ⟨hbel.os, hbel.tape, hbel.output, hbel.size, hbel.block⟩)
   have v0 := r0.cell 0 _ rfl
   have v8 := r0.cell 8 _ rfl
   have HR2 := hide (And.intro r0 b1)
   clear up r0 b0 b1 hbel HR
   clear W1
   by_cases hk4 : m.kind % 4 < 2
   ·have t4 : decide (m.kind % 4 < 2) = true := by simpa using hk4
    have HE := hide (HFi.out (by omega))
    clear hk4
    go_wp2_with fail
    go_ret
    exact ⟨ret_s (unhide HE).symm, (unhide HR2).2⟩
   ·have t4 : decide (m.kind % 4 < 2) = false := by simpa using hk4
    have HE := hide (HFo.out (by omega))
    clear hk4
    obtain ⟨QN, hQN⟩ : ∃ QN : Int, (qn : Int) = QN := ⟨_, rfl⟩
    have hq2 : IS.extract 0 QN.toNat = QS := by rw [← hQN, Int.toNat_natCast]; exact HQS.out.symm
    have hq1 : QN ≤ IS.size := by omega
    have hq0 : 0 ≤ QN := by omega
    have hq3 : ¬ QN < 0 := by omega
    cases hz : m.zero with
    | true =>
     rw [hz] at v8
     have hv : (28 : Int) = QN := by rw [← hQN, HQ.out, if_pos hz]; rfl
     have hvv := hide hv
     clear hv
     go_wp2_with fail
     rw [unhide hvv]
     obtain ⟨r1, b1⟩ := unhide HR2
     have up2 : ∀ x, Below u.heap.size u.drew x → Row x w.heap.size m.cells := fun x hb => (r1.of_block (W' := u.drew) rfl).on hb r1.lt
     refine wp_region_grow (by kernel_rfl) [.pointer (some ⟨w.heap.size, 5, none⟩), .int .u8 m.flags, .int .u8 (m.flags % 6), .int .i64 (m.flags % 6), .string IS, .int .i64 QN, .string QS, .agg #[.int .i64 3, .int .i64 (m.flags % 6), .int .u32 1400, .string QS], .tuple #[.string CS, .int .i64 0], .tuple #[.string CS, .int .i64 0], .string CS, .int .i64 0, .string CS, .int .i64 0] (by kernel_rfl) ?op ?fin
     case op =>
      intro i o bx u ho hbel hS
      match i, ho with
      | 0, ho =>
       obtain rfl := Option.some.inj ho
       have d1 : bx.tmps.getD 1 undef = .pointer (some ⟨w.heap.size, 0, none⟩) := hS.base 1
       refine .inl ⟨rfl, ends_value' (c := .pointer (some ⟨w.heap.size, 5, none⟩)) ?_⟩
       simp [Act.eval, d1, go_sem]
      | 1, ho =>
       obtain rfl := Option.some.inj ho
       have d41 : bx.tmps.getD 41 undef = .pointer (some ⟨w.heap.size, 5, none⟩) := hS.dep 0 41
       have hl := (up2 u hbel).cell 5 _ rfl
       refine .inl ⟨rfl, ends_value' (c := .int .u8 m.flags) ?_⟩
       simp [Act.eval, d41, go_sem, hl]
      | 2, ho =>
       obtain rfl := Option.some.inj ho
       have d42 : bx.tmps.getD 42 undef = .int .u8 m.flags := hS.dep 1 42
       refine .inl ⟨rfl, ends_value' (c := .int .u8 (m.flags % 6)) ?_⟩
       simp [Act.eval, d42, go_sem, kf]
      | 3, ho =>
       obtain rfl := Option.some.inj ho
       have d43 : bx.tmps.getD 43 undef = .int .u8 (m.flags % 6) := hS.dep 2 43
       refine .inl ⟨rfl, ends_value' (c := .int .i64 (m.flags % 6)) ?_⟩
       simp [Act.eval, d43, go_sem, kf3]
      | 4, ho =>
       obtain rfl := Option.some.inj ho
       have d4 : bx.tmps.getD 4 undef = .string IS := hS.base 4
       refine .inl ⟨rfl, ends_value' (c := .string IS) ?_⟩
       simp [execOp, Act.eval, d4]
      | 5, ho =>
       obtain rfl := Option.some.inj ho
       have d6 : bx.tmps.getD 6 undef = .int .i64 QN := hS.base 6
       refine .inl ⟨rfl, ends_value' (c := .int .i64 QN) ?_⟩
       simp [execOp, Act.eval, d6]
      | 6, ho =>
       obtain rfl := Option.some.inj ho
       have d45 : bx.tmps.getD 45 undef = .string IS := hS.dep 4 45
       have d46 : bx.tmps.getD 46 undef = .int .i64 QN := hS.dep 5 46
       refine .inl ⟨rfl, ends_value' (c := .string QS) ?_⟩
       simp [Act.eval, d45, d46, go_sem, hq1, hq2, hq3]
      | 7, ho =>
       obtain rfl := Option.some.inj ho
       have d44 : bx.tmps.getD 44 undef = .int .i64 (m.flags % 6) := hS.dep 3 44
       have q44 : bx.tmps[44]?.getD undef = .int .i64 (m.flags % 6) := by rw [← Array.getD_eq_getD_getElem?]; exact d44
       have d47 : bx.tmps.getD 47 undef = .string QS := hS.dep 6 47
       have q47 : bx.tmps[47]?.getD undef = .string QS := by rw [← Array.getD_eq_getD_getElem?]; exact d47
       refine .inl ⟨rfl, ends_value' (c := .agg #[.int .i64 3, .int .i64 (m.flags % 6), .int .u32 1400, .string QS]) ?_⟩
       simp [Act.eval, q44, q47, go_sem]
      | 8, ho =>
       obtain rfl := Option.some.inj ho
       have d48 : bx.tmps.getD 48 undef = .agg #[.int .i64 3, .int .i64 (m.flags % 6), .int .u32 1400, .string QS] := hS.dep 7 48
       refine .inl ⟨rfl, ends_call' (c := .tuple #[.string CS, .int .i64 0]) (f := 21) (args := #[.agg #[.int .i64 3, .int .i64 (m.flags % 6), .int .u32 1400, .string QS]]) ?_ (unhide HC u)⟩
       simp [Act.eval, d48, go_sem]
      | 9, ho =>
       obtain rfl := Option.some.inj ho
       have d49 : bx.tmps.getD 49 undef = .tuple #[.string CS, .int .i64 0] := hS.dep 8 49
       refine .inl ⟨rfl, ends_value' (c := .tuple #[.string CS, .int .i64 0]) ?_⟩
       simp [execOp, Act.eval, d49]
      | 10, ho =>
       obtain rfl := Option.some.inj ho
       have d40 : bx.tmps.getD 40 undef = .tuple #[.string CS, .int .i64 0] := hS.dep 9 40
       refine .inl ⟨rfl, ends_value' (c := .string CS) ?_⟩
       simp [Act.eval, d40, go_sem]
      | 11, ho =>
       obtain rfl := Option.some.inj ho
       have d40 : bx.tmps.getD 40 undef = .tuple #[.string CS, .int .i64 0] := hS.dep 9 40
       refine .inl ⟨rfl, ends_value' (c := .int .i64 0) ?_⟩
       simp [Act.eval, d40, go_sem]
      | 12, ho =>
       obtain rfl := Option.some.inj ho
       have d50 : bx.tmps.getD 50 undef = .string CS := hS.dep 10 50
       refine .inl ⟨rfl, ends_value' (c := .string CS) ?_⟩
       simp [execOp, Act.eval, d50]
      | 13, ho =>
       obtain rfl := Option.some.inj ho
       have d51 : bx.tmps.getD 51 undef = .int .i64 0 := hS.dep 11 51
       refine .inl ⟨rfl, ends_value' (c := .int .i64 0) ?_⟩
       simp [execOp, Act.eval, d51]
      | n + 14, ho => exact absurd ho (by simp)
     case fin =>
      intro u2 hbel2
      simp [putAll, dstAt, Act.put]
      have r2 := up2 u2 hbel2
      have b2 : Below w.heap.size w u2 := Below.then b1 (show Below u.heap.size u u2 from ⟨hbel2.os, hbel2.tape, hbel2.output, hbel2.size, hbel2.block⟩)
      have c6 := r2.cell 6 _ rfl
      have c9 := r2.cell 9 _ rfl
      have c10 := r2.cell 10 _ rfl
      have HB2 := hide b2
      clear r1 b1 r2 b2 up2 hbel2 HR2
      go_wp2_with fail
      refine (unhide HO _).mono ?_
      rintro e w3 ⟨rfl, hb3⟩
      have HB3 := hide (Below.then (unhide HB2) hb3)
      clear hb3
      go_wp2_with fail
      go_ret
      exact ⟨ret_s (unhide HE).symm, unhide HB3⟩
    | false =>
     rw [hz] at v8
     have hv : (IS.size : Int) = QN := by rw [← hQN, HQ.out, if_neg (by rw [hz]; decide)]
     have hvv := hide hv
     clear hv
     go_wp2_with fail
     rw [unhide hvv]
     obtain ⟨r1, b1⟩ := unhide HR2
     have up2 : ∀ x, Below u.heap.size u.drew x → Row x w.heap.size m.cells := fun x hb => (r1.of_block (W' := u.drew) rfl).on hb r1.lt
     refine wp_region_grow (by kernel_rfl) [.pointer (some ⟨w.heap.size, 5, none⟩), .int .u8 m.flags, .int .u8 (m.flags % 6), .int .i64 (m.flags % 6), .string IS, .int .i64 QN, .string QS, .agg #[.int .i64 3, .int .i64 (m.flags % 6), .int .u32 1400, .string QS], .tuple #[.string CS, .int .i64 0], .tuple #[.string CS, .int .i64 0], .string CS, .int .i64 0, .string CS, .int .i64 0] (by kernel_rfl) ?op ?fin
     case op =>
      intro i o bx u ho hbel hS
      match i, ho with
      | 0, ho =>
       obtain rfl := Option.some.inj ho
       have d1 : bx.tmps.getD 1 undef = .pointer (some ⟨w.heap.size, 0, none⟩) := hS.base 1
       refine .inl ⟨rfl, ends_value' (c := .pointer (some ⟨w.heap.size, 5, none⟩)) ?_⟩
       simp [Act.eval, d1, go_sem]
      | 1, ho =>
       obtain rfl := Option.some.inj ho
       have d41 : bx.tmps.getD 41 undef = .pointer (some ⟨w.heap.size, 5, none⟩) := hS.dep 0 41
       have hl := (up2 u hbel).cell 5 _ rfl
       refine .inl ⟨rfl, ends_value' (c := .int .u8 m.flags) ?_⟩
       simp [Act.eval, d41, go_sem, hl]
      | 2, ho =>
       obtain rfl := Option.some.inj ho
       have d42 : bx.tmps.getD 42 undef = .int .u8 m.flags := hS.dep 1 42
       refine .inl ⟨rfl, ends_value' (c := .int .u8 (m.flags % 6)) ?_⟩
       simp [Act.eval, d42, go_sem, kf]
      | 3, ho =>
       obtain rfl := Option.some.inj ho
       have d43 : bx.tmps.getD 43 undef = .int .u8 (m.flags % 6) := hS.dep 2 43
       refine .inl ⟨rfl, ends_value' (c := .int .i64 (m.flags % 6)) ?_⟩
       simp [Act.eval, d43, go_sem, kf3]
      | 4, ho =>
       obtain rfl := Option.some.inj ho
       have d4 : bx.tmps.getD 4 undef = .string IS := hS.base 4
       refine .inl ⟨rfl, ends_value' (c := .string IS) ?_⟩
       simp [execOp, Act.eval, d4]
      | 5, ho =>
       obtain rfl := Option.some.inj ho
       have d6 : bx.tmps.getD 6 undef = .int .i64 QN := hS.base 6
       refine .inl ⟨rfl, ends_value' (c := .int .i64 QN) ?_⟩
       simp [execOp, Act.eval, d6]
      | 6, ho =>
       obtain rfl := Option.some.inj ho
       have d45 : bx.tmps.getD 45 undef = .string IS := hS.dep 4 45
       have d46 : bx.tmps.getD 46 undef = .int .i64 QN := hS.dep 5 46
       refine .inl ⟨rfl, ends_value' (c := .string QS) ?_⟩
       simp [Act.eval, d45, d46, go_sem, hq1, hq2, hq3]
      | 7, ho =>
       obtain rfl := Option.some.inj ho
       have d44 : bx.tmps.getD 44 undef = .int .i64 (m.flags % 6) := hS.dep 3 44
       have q44 : bx.tmps[44]?.getD undef = .int .i64 (m.flags % 6) := by rw [← Array.getD_eq_getD_getElem?]; exact d44
       have d47 : bx.tmps.getD 47 undef = .string QS := hS.dep 6 47
       have q47 : bx.tmps[47]?.getD undef = .string QS := by rw [← Array.getD_eq_getD_getElem?]; exact d47
       refine .inl ⟨rfl, ends_value' (c := .agg #[.int .i64 3, .int .i64 (m.flags % 6), .int .u32 1400, .string QS]) ?_⟩
       simp [Act.eval, q44, q47, go_sem]
      | 8, ho =>
       obtain rfl := Option.some.inj ho
       have d48 : bx.tmps.getD 48 undef = .agg #[.int .i64 3, .int .i64 (m.flags % 6), .int .u32 1400, .string QS] := hS.dep 7 48
       refine .inl ⟨rfl, ends_call' (c := .tuple #[.string CS, .int .i64 0]) (f := 21) (args := #[.agg #[.int .i64 3, .int .i64 (m.flags % 6), .int .u32 1400, .string QS]]) ?_ (unhide HC u)⟩
       simp [Act.eval, d48, go_sem]
      | 9, ho =>
       obtain rfl := Option.some.inj ho
       have d49 : bx.tmps.getD 49 undef = .tuple #[.string CS, .int .i64 0] := hS.dep 8 49
       refine .inl ⟨rfl, ends_value' (c := .tuple #[.string CS, .int .i64 0]) ?_⟩
       simp [execOp, Act.eval, d49]
      | 10, ho =>
       obtain rfl := Option.some.inj ho
       have d40 : bx.tmps.getD 40 undef = .tuple #[.string CS, .int .i64 0] := hS.dep 9 40
       refine .inl ⟨rfl, ends_value' (c := .string CS) ?_⟩
       simp [Act.eval, d40, go_sem]
      | 11, ho =>
       obtain rfl := Option.some.inj ho
       have d40 : bx.tmps.getD 40 undef = .tuple #[.string CS, .int .i64 0] := hS.dep 9 40
       refine .inl ⟨rfl, ends_value' (c := .int .i64 0) ?_⟩
       simp [Act.eval, d40, go_sem]
      | 12, ho =>
       obtain rfl := Option.some.inj ho
       have d50 : bx.tmps.getD 50 undef = .string CS := hS.dep 10 50
       refine .inl ⟨rfl, ends_value' (c := .string CS) ?_⟩
       simp [execOp, Act.eval, d50]
      | 13, ho =>
       obtain rfl := Option.some.inj ho
       have d51 : bx.tmps.getD 51 undef = .int .i64 0 := hS.dep 11 51
       refine .inl ⟨rfl, ends_value' (c := .int .i64 0) ?_⟩
       simp [execOp, Act.eval, d51]
      | n + 14, ho => exact absurd ho (by simp)
     case fin =>
      intro u2 hbel2
      simp [putAll, dstAt, Act.put]
      have r2 := up2 u2 hbel2
      have b2 : Below w.heap.size w u2 := Below.then b1 (show Below u.heap.size u u2 from ⟨hbel2.os, hbel2.tape, hbel2.output, hbel2.size, hbel2.block⟩)
      have c6 := r2.cell 6 _ rfl
      have c9 := r2.cell 9 _ rfl
      have c10 := r2.cell 10 _ rfl
      have HB2 := hide b2
      clear r1 b1 r2 b2 up2 hbel2 HR2
      go_wp2_with fail
      refine (unhide HO _).mono ?_
      rintro e w3 ⟨rfl, hb3⟩
      have HB3 := hide (Below.then (unhide HB2) hb3)
      clear hb3
      go_wp2_with fail
      go_ret
      exact ⟨ret_s (unhide HE).symm, unhide HB3⟩
 ·have hp : (6 : Int) = pr m := by rw [HPd.out, if_neg hk2]
  have t2 : (m.kind % 2 == 1) = false := by simpa using hk2
  go_wp2_with fail
  clear hp
  obtain ⟨r0, b0⟩ := unhide HR
  generalize w.alloc (.cells m.cells.toArray 25) = W1 at *
  have up : ∀ x, Below W1.heap.size W1.drew x → Row x w.heap.size m.cells := fun x hb => (r0.of_block (W' := W1.drew) rfl).on hb r0.lt
  refine wp_region_grow (by kernel_rfl) [.pointer (some ⟨w.heap.size, 6, none⟩), .int .u8 m.ttl, .int .i64 m.ttl, .int .i64 (pr m), .pointer (some ⟨w.heap.size, 1, none⟩), .int .u32 m.src, .pointer (some ⟨w.heap.size, 2, none⟩), .int .u32 m.dst, .agg #[.int .i64 0, .int .i64 5, .int .i64 0, .int .i64 0, .int .i64 m.ttl, .int .i64 (pr m), .int .u32 m.src, .int .u32 m.dst, .string ⟨#[]⟩], m.val, .int .i64 (pr m), .string SG, .tuple #[.string IS, .int .i64 0], .tuple #[.string IS, .int .i64 0], .string IS, .int .i64 0, .string IS, .int .i64 0] (by kernel_rfl) ?op ?fin
  case op =>
   intro i o bx u ho hbel hS
   match i, ho with
   | 0, ho =>
    obtain rfl := Option.some.inj ho
    have d1 : bx.tmps.getD 1 undef = .pointer (some ⟨w.heap.size, 0, none⟩) := hS.base 1
    refine .inl ⟨rfl, ends_value' (c := .pointer (some ⟨w.heap.size, 6, none⟩)) ?_⟩
    simp [Act.eval, d1, go_sem]
   | 1, ho =>
    obtain rfl := Option.some.inj ho
    have d16 : bx.tmps.getD 16 undef = .pointer (some ⟨w.heap.size, 6, none⟩) := hS.dep 0 16
    have hl := (up u hbel).cell 6 _ rfl
    refine .inl ⟨rfl, ends_value' (c := .int .u8 m.ttl) ?_⟩
    simp [Act.eval, d16, go_sem, hl]
   | 2, ho =>
    obtain rfl := Option.some.inj ho
    have d17 : bx.tmps.getD 17 undef = .int .u8 m.ttl := hS.dep 1 17
    refine .inl ⟨rfl, ends_value' (c := .int .i64 m.ttl) ?_⟩
    simp [Act.eval, d17, go_sem, kt]
   | 3, ho =>
    obtain rfl := Option.some.inj ho
    have d3 : bx.tmps.getD 3 undef = .int .i64 (pr m) := hS.base 3
    refine .inl ⟨rfl, ends_value' (c := .int .i64 (pr m)) ?_⟩
    simp [execOp, Act.eval, d3]
   | 4, ho =>
    obtain rfl := Option.some.inj ho
    have d1 : bx.tmps.getD 1 undef = .pointer (some ⟨w.heap.size, 0, none⟩) := hS.base 1
    refine .inl ⟨rfl, ends_value' (c := .pointer (some ⟨w.heap.size, 1, none⟩)) ?_⟩
    simp [Act.eval, d1, go_sem]
   | 5, ho =>
    obtain rfl := Option.some.inj ho
    have d20 : bx.tmps.getD 20 undef = .pointer (some ⟨w.heap.size, 1, none⟩) := hS.dep 4 20
    have hl := (up u hbel).cell 1 _ rfl
    refine .inl ⟨rfl, ends_value' (c := .int .u32 m.src) ?_⟩
    simp [Act.eval, d20, go_sem, hl]
   | 6, ho =>
    obtain rfl := Option.some.inj ho
    have d1 : bx.tmps.getD 1 undef = .pointer (some ⟨w.heap.size, 0, none⟩) := hS.base 1
    refine .inl ⟨rfl, ends_value' (c := .pointer (some ⟨w.heap.size, 2, none⟩)) ?_⟩
    simp [Act.eval, d1, go_sem]
   | 7, ho =>
    obtain rfl := Option.some.inj ho
    have d22 : bx.tmps.getD 22 undef = .pointer (some ⟨w.heap.size, 2, none⟩) := hS.dep 6 22
    have hl := (up u hbel).cell 2 _ rfl
    refine .inl ⟨rfl, ends_value' (c := .int .u32 m.dst) ?_⟩
    simp [Act.eval, d22, go_sem, hl]
   | 8, ho =>
    obtain rfl := Option.some.inj ho
    have d18 : bx.tmps.getD 18 undef = .int .i64 m.ttl := hS.dep 2 18
    have q18 : bx.tmps[18]?.getD undef = .int .i64 m.ttl := by rw [← Array.getD_eq_getD_getElem?]; exact d18
    have d19 : bx.tmps.getD 19 undef = .int .i64 (pr m) := hS.dep 3 19
    have q19 : bx.tmps[19]?.getD undef = .int .i64 (pr m) := by rw [← Array.getD_eq_getD_getElem?]; exact d19
    have d21 : bx.tmps.getD 21 undef = .int .u32 m.src := hS.dep 5 21
    have q21 : bx.tmps[21]?.getD undef = .int .u32 m.src := by rw [← Array.getD_eq_getD_getElem?]; exact d21
    have d23 : bx.tmps.getD 23 undef = .int .u32 m.dst := hS.dep 7 23
    have q23 : bx.tmps[23]?.getD undef = .int .u32 m.dst := by rw [← Array.getD_eq_getD_getElem?]; exact d23
    refine .inl ⟨rfl, ends_value' (c := .agg #[.int .i64 0, .int .i64 5, .int .i64 0, .int .i64 0, .int .i64 m.ttl, .int .i64 (pr m), .int .u32 m.src, .int .u32 m.dst, .string ⟨#[]⟩]) ?_⟩
    simp [Act.eval, q18, q19, q21, q23, go_sem]
   | 9, ho =>
    obtain rfl := Option.some.inj ho
    have d1 : bx.tmps.getD 1 undef = .pointer (some ⟨w.heap.size, 0, none⟩) := hS.base 1
    have v0 := (up u hbel).cell 0 _ rfl
    have v1 := (up u hbel).cell 1 _ rfl
    have v2 := (up u hbel).cell 2 _ rfl
    have v3 := (up u hbel).cell 3 _ rfl
    have v4 := (up u hbel).cell 4 _ rfl
    have v5 := (up u hbel).cell 5 _ rfl
    have v6 := (up u hbel).cell 6 _ rfl
    have v7 := (up u hbel).cell 7 _ rfl
    have v8 := (up u hbel).cell 8 _ rfl
    have v9 := (up u hbel).cell 9 _ rfl
    have v10 := (up u hbel).cell 10 _ rfl
    refine .inl ⟨rfl, ends_value' (c := m.val) ?_⟩
    simp [Act.eval, d1, go_sem, v0, v1, v2, v3, v4, v5, v6, v7, v8, v9, v10]
   | 10, ho =>
    obtain rfl := Option.some.inj ho
    have d3 : bx.tmps.getD 3 undef = .int .i64 (pr m) := hS.base 3
    refine .inl ⟨rfl, ends_value' (c := .int .i64 (pr m)) ?_⟩
    simp [execOp, Act.eval, d3]
   | 11, ho =>
    obtain rfl := Option.some.inj ho
    have d25 : bx.tmps.getD 25 undef = m.val := hS.dep 9 25
    have d26 : bx.tmps.getD 26 undef = .int .i64 (pr m) := hS.dep 10 26
    refine .inl ⟨rfl, ends_call' (c := .string SG) (f := 20) (args := #[m.val, .int .i64 (pr m)]) ?_ (unhide HG u)⟩
    simp [Act.eval, d25, d26, go_sem]
   | 12, ho =>
    obtain rfl := Option.some.inj ho
    have d24 : bx.tmps.getD 24 undef = .agg #[.int .i64 0, .int .i64 5, .int .i64 0, .int .i64 0, .int .i64 m.ttl, .int .i64 (pr m), .int .u32 m.src, .int .u32 m.dst, .string ⟨#[]⟩] := hS.dep 8 24
    have d27 : bx.tmps.getD 27 undef = .string SG := hS.dep 11 27
    refine .inl ⟨rfl, ends_call' (c := .tuple #[.string IS, .int .i64 0]) (f := 19) (args := #[.agg #[.int .i64 0, .int .i64 5, .int .i64 0, .int .i64 0, .int .i64 m.ttl, .int .i64 (pr m), .int .u32 m.src, .int .u32 m.dst, .string ⟨#[]⟩], .string SG]) ?_ (unhide HI u)⟩
    simp [Act.eval, d24, d27, go_sem]
   | 13, ho =>
    obtain rfl := Option.some.inj ho
    have d28 : bx.tmps.getD 28 undef = .tuple #[.string IS, .int .i64 0] := hS.dep 12 28
    refine .inl ⟨rfl, ends_value' (c := .tuple #[.string IS, .int .i64 0]) ?_⟩
    simp [execOp, Act.eval, d28]
   | 14, ho =>
    obtain rfl := Option.some.inj ho
    have d15 : bx.tmps.getD 15 undef = .tuple #[.string IS, .int .i64 0] := hS.dep 13 15
    refine .inl ⟨rfl, ends_value' (c := .string IS) ?_⟩
    simp [Act.eval, d15, go_sem]
   | 15, ho =>
    obtain rfl := Option.some.inj ho
    have d15 : bx.tmps.getD 15 undef = .tuple #[.string IS, .int .i64 0] := hS.dep 13 15
    refine .inl ⟨rfl, ends_value' (c := .int .i64 0) ?_⟩
    simp [Act.eval, d15, go_sem]
   | 16, ho =>
    obtain rfl := Option.some.inj ho
    have d29 : bx.tmps.getD 29 undef = .string IS := hS.dep 14 29
    refine .inl ⟨rfl, ends_value' (c := .string IS) ?_⟩
    simp [execOp, Act.eval, d29]
   | 17, ho =>
    obtain rfl := Option.some.inj ho
    have d30 : bx.tmps.getD 30 undef = .int .i64 0 := hS.dep 15 30
    refine .inl ⟨rfl, ends_value' (c := .int .i64 0) ?_⟩
    simp [execOp, Act.eval, d30]
   | n + 18, ho => exact absurd ho (by simp)
  case fin =>
   intro u hbel
   simp [putAll, dstAt, Act.put]
   replace r0 : Row u w.heap.size m.cells := up u hbel
   have b1 : Below w.heap.size w u := Below.then b0 (show Below W1.heap.size W1 u from ⟨hbel.os, hbel.tape, hbel.output, hbel.size, hbel.block⟩)
   have v0 := r0.cell 0 _ rfl
   have v8 := r0.cell 8 _ rfl
   have HR2 := hide (And.intro r0 b1)
   clear up r0 b0 b1 hbel HR
   clear W1
   by_cases hk4 : m.kind % 4 < 2
   ·have t4 : decide (m.kind % 4 < 2) = true := by simpa using hk4
    have HE := hide (HFi.out (by omega))
    clear hk4
    go_wp2_with fail
    go_ret
    exact ⟨ret_s (unhide HE).symm, (unhide HR2).2⟩
   ·have t4 : decide (m.kind % 4 < 2) = false := by simpa using hk4
    have HE := hide (HFo.out (by omega))
    clear hk4
    obtain ⟨QN, hQN⟩ : ∃ QN : Int, (qn : Int) = QN := ⟨_, rfl⟩
    have hq2 : IS.extract 0 QN.toNat = QS := by rw [← hQN, Int.toNat_natCast]; exact HQS.out.symm
    have hq1 : QN ≤ IS.size := by omega
    have hq0 : 0 ≤ QN := by omega
    have hq3 : ¬ QN < 0 := by omega
    cases hz : m.zero with
    | true =>
     rw [hz] at v8
     have hv : (28 : Int) = QN := by rw [← hQN, HQ.out, if_pos hz]; rfl
     have hvv := hide hv
     clear hv
     go_wp2_with fail
     rw [unhide hvv]
     obtain ⟨r1, b1⟩ := unhide HR2
     have up2 : ∀ x, Below u.heap.size u.drew x → Row x w.heap.size m.cells := fun x hb => (r1.of_block (W' := u.drew) rfl).on hb r1.lt
     refine wp_region_grow (by kernel_rfl) [.pointer (some ⟨w.heap.size, 5, none⟩), .int .u8 m.flags, .int .u8 (m.flags % 6), .int .i64 (m.flags % 6), .string IS, .int .i64 QN, .string QS, .agg #[.int .i64 3, .int .i64 (m.flags % 6), .int .u32 1400, .string QS], .tuple #[.string CS, .int .i64 0], .tuple #[.string CS, .int .i64 0], .string CS, .int .i64 0, .string CS, .int .i64 0] (by kernel_rfl) ?op ?fin
     case op =>
      intro i o bx u ho hbel hS
      match i, ho with
      | 0, ho =>
       obtain rfl := Option.some.inj ho
       have d1 : bx.tmps.getD 1 undef = .pointer (some ⟨w.heap.size, 0, none⟩) := hS.base 1
       refine .inl ⟨rfl, ends_value' (c := .pointer (some ⟨w.heap.size, 5, none⟩)) ?_⟩
       simp [Act.eval, d1, go_sem]
      | 1, ho =>
       obtain rfl := Option.some.inj ho
       have d41 : bx.tmps.getD 41 undef = .pointer (some ⟨w.heap.size, 5, none⟩) := hS.dep 0 41
       have hl := (up2 u hbel).cell 5 _ rfl
       refine .inl ⟨rfl, ends_value' (c := .int .u8 m.flags) ?_⟩
       simp [Act.eval, d41, go_sem, hl]
      | 2, ho =>
       obtain rfl := Option.some.inj ho
       have d42 : bx.tmps.getD 42 undef = .int .u8 m.flags := hS.dep 1 42
       refine .inl ⟨rfl, ends_value' (c := .int .u8 (m.flags % 6)) ?_⟩
       simp [Act.eval, d42, go_sem, kf]
      | 3, ho =>
       obtain rfl := Option.some.inj ho
       have d43 : bx.tmps.getD 43 undef = .int .u8 (m.flags % 6) := hS.dep 2 43
       refine .inl ⟨rfl, ends_value' (c := .int .i64 (m.flags % 6)) ?_⟩
       simp [Act.eval, d43, go_sem, kf3]
      | 4, ho =>
       obtain rfl := Option.some.inj ho
       have d4 : bx.tmps.getD 4 undef = .string IS := hS.base 4
       refine .inl ⟨rfl, ends_value' (c := .string IS) ?_⟩
       simp [execOp, Act.eval, d4]
      | 5, ho =>
       obtain rfl := Option.some.inj ho
       have d6 : bx.tmps.getD 6 undef = .int .i64 QN := hS.base 6
       refine .inl ⟨rfl, ends_value' (c := .int .i64 QN) ?_⟩
       simp [execOp, Act.eval, d6]
      | 6, ho =>
       obtain rfl := Option.some.inj ho
       have d45 : bx.tmps.getD 45 undef = .string IS := hS.dep 4 45
       have d46 : bx.tmps.getD 46 undef = .int .i64 QN := hS.dep 5 46
       refine .inl ⟨rfl, ends_value' (c := .string QS) ?_⟩
       simp [Act.eval, d45, d46, go_sem, hq1, hq2, hq3]
      | 7, ho =>
       obtain rfl := Option.some.inj ho
       have d44 : bx.tmps.getD 44 undef = .int .i64 (m.flags % 6) := hS.dep 3 44
       have q44 : bx.tmps[44]?.getD undef = .int .i64 (m.flags % 6) := by rw [← Array.getD_eq_getD_getElem?]; exact d44
       have d47 : bx.tmps.getD 47 undef = .string QS := hS.dep 6 47
       have q47 : bx.tmps[47]?.getD undef = .string QS := by rw [← Array.getD_eq_getD_getElem?]; exact d47
       refine .inl ⟨rfl, ends_value' (c := .agg #[.int .i64 3, .int .i64 (m.flags % 6), .int .u32 1400, .string QS]) ?_⟩
       simp [Act.eval, q44, q47, go_sem]
      | 8, ho =>
       obtain rfl := Option.some.inj ho
       have d48 : bx.tmps.getD 48 undef = .agg #[.int .i64 3, .int .i64 (m.flags % 6), .int .u32 1400, .string QS] := hS.dep 7 48
       refine .inl ⟨rfl, ends_call' (c := .tuple #[.string CS, .int .i64 0]) (f := 21) (args := #[.agg #[.int .i64 3, .int .i64 (m.flags % 6), .int .u32 1400, .string QS]]) ?_ (unhide HC u)⟩
       simp [Act.eval, d48, go_sem]
      | 9, ho =>
       obtain rfl := Option.some.inj ho
       have d49 : bx.tmps.getD 49 undef = .tuple #[.string CS, .int .i64 0] := hS.dep 8 49
       refine .inl ⟨rfl, ends_value' (c := .tuple #[.string CS, .int .i64 0]) ?_⟩
       simp [execOp, Act.eval, d49]
      | 10, ho =>
       obtain rfl := Option.some.inj ho
       have d40 : bx.tmps.getD 40 undef = .tuple #[.string CS, .int .i64 0] := hS.dep 9 40
       refine .inl ⟨rfl, ends_value' (c := .string CS) ?_⟩
       simp [Act.eval, d40, go_sem]
      | 11, ho =>
       obtain rfl := Option.some.inj ho
       have d40 : bx.tmps.getD 40 undef = .tuple #[.string CS, .int .i64 0] := hS.dep 9 40
       refine .inl ⟨rfl, ends_value' (c := .int .i64 0) ?_⟩
       simp [Act.eval, d40, go_sem]
      | 12, ho =>
       obtain rfl := Option.some.inj ho
       have d50 : bx.tmps.getD 50 undef = .string CS := hS.dep 10 50
       refine .inl ⟨rfl, ends_value' (c := .string CS) ?_⟩
       simp [execOp, Act.eval, d50]
      | 13, ho =>
       obtain rfl := Option.some.inj ho
       have d51 : bx.tmps.getD 51 undef = .int .i64 0 := hS.dep 11 51
       refine .inl ⟨rfl, ends_value' (c := .int .i64 0) ?_⟩
       simp [execOp, Act.eval, d51]
      | n + 14, ho => exact absurd ho (by simp)
     case fin =>
      intro u2 hbel2
      simp [putAll, dstAt, Act.put]
      have r2 := up2 u2 hbel2
      have b2 : Below w.heap.size w u2 := Below.then b1 (show Below u.heap.size u u2 from ⟨hbel2.os, hbel2.tape, hbel2.output, hbel2.size, hbel2.block⟩)
      have c6 := r2.cell 6 _ rfl
      have c9 := r2.cell 9 _ rfl
      have c10 := r2.cell 10 _ rfl
      have HB2 := hide b2
      clear r1 b1 r2 b2 up2 hbel2 HR2
      go_wp2_with fail
      refine (unhide HO _).mono ?_
      rintro e w3 ⟨rfl, hb3⟩
      have HB3 := hide (Below.then (unhide HB2) hb3)
      clear hb3
      go_wp2_with fail
      go_ret
      exact ⟨ret_s (unhide HE).symm, unhide HB3⟩
    | false =>
     rw [hz] at v8
     have hv : (IS.size : Int) = QN := by rw [← hQN, HQ.out, if_neg (by rw [hz]; decide)]
     have hvv := hide hv
     clear hv
     go_wp2_with fail
     rw [unhide hvv]
     obtain ⟨r1, b1⟩ := unhide HR2
     have up2 : ∀ x, Below u.heap.size u.drew x → Row x w.heap.size m.cells := fun x hb => (r1.of_block (W' := u.drew) rfl).on hb r1.lt
     refine wp_region_grow (by kernel_rfl) [.pointer (some ⟨w.heap.size, 5, none⟩), .int .u8 m.flags, .int .u8 (m.flags % 6), .int .i64 (m.flags % 6), .string IS, .int .i64 QN, .string QS, .agg #[.int .i64 3, .int .i64 (m.flags % 6), .int .u32 1400, .string QS], .tuple #[.string CS, .int .i64 0], .tuple #[.string CS, .int .i64 0], .string CS, .int .i64 0, .string CS, .int .i64 0] (by kernel_rfl) ?op ?fin
     case op =>
      intro i o bx u ho hbel hS
      match i, ho with
      | 0, ho =>
       obtain rfl := Option.some.inj ho
       have d1 : bx.tmps.getD 1 undef = .pointer (some ⟨w.heap.size, 0, none⟩) := hS.base 1
       refine .inl ⟨rfl, ends_value' (c := .pointer (some ⟨w.heap.size, 5, none⟩)) ?_⟩
       simp [Act.eval, d1, go_sem]
      | 1, ho =>
       obtain rfl := Option.some.inj ho
       have d41 : bx.tmps.getD 41 undef = .pointer (some ⟨w.heap.size, 5, none⟩) := hS.dep 0 41
       have hl := (up2 u hbel).cell 5 _ rfl
       refine .inl ⟨rfl, ends_value' (c := .int .u8 m.flags) ?_⟩
       simp [Act.eval, d41, go_sem, hl]
      | 2, ho =>
       obtain rfl := Option.some.inj ho
       have d42 : bx.tmps.getD 42 undef = .int .u8 m.flags := hS.dep 1 42
       refine .inl ⟨rfl, ends_value' (c := .int .u8 (m.flags % 6)) ?_⟩
       simp [Act.eval, d42, go_sem, kf]
      | 3, ho =>
       obtain rfl := Option.some.inj ho
       have d43 : bx.tmps.getD 43 undef = .int .u8 (m.flags % 6) := hS.dep 2 43
       refine .inl ⟨rfl, ends_value' (c := .int .i64 (m.flags % 6)) ?_⟩
       simp [Act.eval, d43, go_sem, kf3]
      | 4, ho =>
       obtain rfl := Option.some.inj ho
       have d4 : bx.tmps.getD 4 undef = .string IS := hS.base 4
       refine .inl ⟨rfl, ends_value' (c := .string IS) ?_⟩
       simp [execOp, Act.eval, d4]
      | 5, ho =>
       obtain rfl := Option.some.inj ho
       have d6 : bx.tmps.getD 6 undef = .int .i64 QN := hS.base 6
       refine .inl ⟨rfl, ends_value' (c := .int .i64 QN) ?_⟩
       simp [execOp, Act.eval, d6]
      | 6, ho =>
       obtain rfl := Option.some.inj ho
       have d45 : bx.tmps.getD 45 undef = .string IS := hS.dep 4 45
       have d46 : bx.tmps.getD 46 undef = .int .i64 QN := hS.dep 5 46
       refine .inl ⟨rfl, ends_value' (c := .string QS) ?_⟩
       simp [Act.eval, d45, d46, go_sem, hq1, hq2, hq3]
      | 7, ho =>
       obtain rfl := Option.some.inj ho
       have d44 : bx.tmps.getD 44 undef = .int .i64 (m.flags % 6) := hS.dep 3 44
       have q44 : bx.tmps[44]?.getD undef = .int .i64 (m.flags % 6) := by rw [← Array.getD_eq_getD_getElem?]; exact d44
       have d47 : bx.tmps.getD 47 undef = .string QS := hS.dep 6 47
       have q47 : bx.tmps[47]?.getD undef = .string QS := by rw [← Array.getD_eq_getD_getElem?]; exact d47
       refine .inl ⟨rfl, ends_value' (c := .agg #[.int .i64 3, .int .i64 (m.flags % 6), .int .u32 1400, .string QS]) ?_⟩
       simp [Act.eval, q44, q47, go_sem]
      | 8, ho =>
       obtain rfl := Option.some.inj ho
       have d48 : bx.tmps.getD 48 undef = .agg #[.int .i64 3, .int .i64 (m.flags % 6), .int .u32 1400, .string QS] := hS.dep 7 48
       refine .inl ⟨rfl, ends_call' (c := .tuple #[.string CS, .int .i64 0]) (f := 21) (args := #[.agg #[.int .i64 3, .int .i64 (m.flags % 6), .int .u32 1400, .string QS]]) ?_ (unhide HC u)⟩
       simp [Act.eval, d48, go_sem]
      | 9, ho =>
       obtain rfl := Option.some.inj ho
       have d49 : bx.tmps.getD 49 undef = .tuple #[.string CS, .int .i64 0] := hS.dep 8 49
       refine .inl ⟨rfl, ends_value' (c := .tuple #[.string CS, .int .i64 0]) ?_⟩
       simp [execOp, Act.eval, d49]
      | 10, ho =>
       obtain rfl := Option.some.inj ho
       have d40 : bx.tmps.getD 40 undef = .tuple #[.string CS, .int .i64 0] := hS.dep 9 40
       refine .inl ⟨rfl, ends_value' (c := .string CS) ?_⟩
       simp [Act.eval, d40, go_sem]
      | 11, ho =>
       obtain rfl := Option.some.inj ho
       have d40 : bx.tmps.getD 40 undef = .tuple #[.string CS, .int .i64 0] := hS.dep 9 40
       refine .inl ⟨rfl, ends_value' (c := .int .i64 0) ?_⟩
       simp [Act.eval, d40, go_sem]
      | 12, ho =>
       obtain rfl := Option.some.inj ho
       have d50 : bx.tmps.getD 50 undef = .string CS := hS.dep 10 50
       refine .inl ⟨rfl, ends_value' (c := .string CS) ?_⟩
       simp [execOp, Act.eval, d50]
      | 13, ho =>
       obtain rfl := Option.some.inj ho
       have d51 : bx.tmps.getD 51 undef = .int .i64 0 := hS.dep 11 51
       refine .inl ⟨rfl, ends_value' (c := .int .i64 0) ?_⟩
       simp [execOp, Act.eval, d51]
      | n + 14, ho => exact absurd ho (by simp)
     case fin =>
      intro u2 hbel2
      simp [putAll, dstAt, Act.put]
      have r2 := up2 u2 hbel2
      have b2 : Below w.heap.size w u2 := Below.then b1 (show Below u.heap.size u u2 from ⟨hbel2.os, hbel2.tape, hbel2.output, hbel2.size, hbel2.block⟩)
      have c6 := r2.cell 6 _ rfl
      have c9 := r2.cell 9 _ rfl
      have c10 := r2.cell 10 _ rfl
      have HB2 := hide b2
      clear r1 b1 r2 b2 up2 hbel2 HR2
      go_wp2_with fail
      refine (unhide HO _).mono ?_
      rintro e w3 ⟨rfl, hb3⟩
      have HB3 := hide (Below.then (unhide HB2) hb3)
      clear hb3
      go_wp2_with fail
      go_ret
      exact ⟨ret_s (unhide HE).symm, unhide HB3⟩
end Go.Proofs.YtpjaajeojiaeiaaGreatDoor
