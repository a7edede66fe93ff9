/- What Classify of the reference of chapter 9 computes: the same as the program's. -/
import Derived.Test.YtpjaajeojiaeiaaGreatDoorPkRefA
import Derived.Test.YtpjaajeojiaeiaaGreatDoorPkCls
import Derived.Test.YtpjaajeojiaeiaaGreatDoorIpF
import Derived.Test.YtpjaajeojiaeiaaGreatDoorTcD
import Derived.Test.YtpjaajeojiaeiaaGreatDoorPsC
namespace Go.Proofs.YtpjaajeojiaeiaaGreatDoor
open Go.ChangeShapes Go.WideShapes Go.ChangeAt Go.RowKit

theorem parseS_1500 (s : ByteArray) : (Ip.parseS s).size ≤ 1500 := by
 unfold Ip.parseS
 split
 ·rename_i h
  have hm : Ip.measE s = 0 := by
   unfold Ip.parseE at h
   by_cases hm : Ip.measE s = 0
   ·exact hm
   ·rw [if_neg hm] at h; exact absurd h hm
  have m := Ip.meas_of hm
  show (s.extract _ _).size ≤ _
  rw [ByteArray.size_extract]
  have := m.t2
  have := m.t0
  omega
 ·exact Nat.zero_le _
theorem cls_6 {s : ByteArray} (h0 : Ip.parseE s = 0) (hf : frgE s = 0) (hp : (Ip.parseH s).proto = 6) : clsE s = segE (outP s (Ip.parseH s)) (Ip.parseS s) ∧ clsP s = segP (outP s (Ip.parseH s)) (Ip.parseS s) := by
 constructor
 ·unfold clsE; rw [first3 h0 hf]; unfold inE; rw [if_pos hp]
 ·unfold clsP; rw [if_pos ⟨h0, hf⟩]; unfold inP; rw [if_pos hp]
theorem cls_17 {s : ByteArray} (h0 : Ip.parseE s = 0) (hf : frgE s = 0) (hp : (Ip.parseH s).proto = 17) : clsE s = datE (outP s (Ip.parseH s)) (Ip.parseS s) ∧ clsP s = datP (outP s (Ip.parseH s)) (Ip.parseS s) := by
 constructor
 ·unfold clsE; rw [first3 h0 hf]; unfold inE; rw [if_neg (by rw [hp]; decide), if_pos hp]
 ·unfold clsP; rw [if_pos ⟨h0, hf⟩]; unfold inP; rw [if_neg (by rw [hp]; decide), if_pos hp]
theorem cls_1 {s : ByteArray} (h0 : Ip.parseE s = 0) (hf : frgE s = 0) (hp : (Ip.parseH s).proto = 1) : clsE s = msgE (Ip.parseS s) ∧ clsP s = msgP (outP s (Ip.parseH s)) (Ip.parseS s) := by
 constructor
 ·unfold clsE; rw [first3 h0 hf]; unfold inE; rw [if_neg (by rw [hp]; decide), if_neg (by rw [hp]; decide), if_pos hp]
 ·unfold clsP; rw [if_pos ⟨h0, hf⟩]; unfold inP; rw [if_neg (by rw [hp]; decide), if_neg (by rw [hp]; decide), if_pos hp]
theorem cls_o {s : ByteArray} (h0 : Ip.parseE s = 0) (hf : frgE s = 0) (h6 : ¬ (Ip.parseH s).proto = 6) (h17 : ¬ (Ip.parseH s).proto = 17) (h1 : ¬ (Ip.parseH s).proto = 1) : clsP s = zeroPk ∧ clsE s = 9 := by
 constructor
 ·unfold clsP; rw [if_pos ⟨h0, hf⟩]; unfold inP; rw [if_neg h6, if_neg h17, if_neg h1]
 ·unfold clsE; rw [first3 h0 hf]; unfold inE; rw [if_neg h6, if_neg h17, if_neg h1]
/-- A message does not hang on what else a packet has. -/
theorem msgP_of (p p' : Pk) (body : ByteArray) (h1 : p.pos = p'.pos) (h2 : p.total = p'.total) (h3 : p.flags = p'.flags) (h4 : p.ttl = p'.ttl) (h5 : p.src = p'.src) (h6 : p.dst = p'.dst) : msgP p body = msgP p' body := by
 unfold msgP; rw [h1, h2, h3, h4, h5, h6]

end Go.Proofs.YtpjaajeojiaeiaaGreatDoor

/- What Classify of the reference of chapter 9 computes, one way of it. -/
namespace Go.Proofs.YtpjaajeojiaeiaaGreatDoor
open Go.ChangeShapes Go.WideShapes Go.ChangeAt Go.RowKit

set_option maxRecDepth 100000 in
set_option maxHeartbeats 8000000 in
theorem rclassify_a (s : ByteArray) (w : World) (hs : s.size ≤ 140737488360000) (hK : ¬ (Ip.parseE s = 0 ∧ frgE s = 0)) :
  Calls Tryz.prog 55 #[.string s] w fun e w' => e = .returned (.tuple #[(clsP s).val, .int .i64 (clsE s)]) ∧ Below w.heap.size w w' := by
 have hbz := parseS_1500 s
 obtain ⟨⟨fl0, fl1⟩, u1, u2⟩ := parseH_rng s
 obtain ⟨sz0, sz1⟩ := sizeH_rng s
 have HB : Hid (frgE s = 0 → ¬ fragB (Ip.parseH s) = true) := fun h0 hf => by unfold frgE at h0; rw [if_pos hf] at h0; exact absurd h0 (by decide)
 have HK := hide hK
 clear hK
 have HPar := hide (fun u => Ip.rparse_any s u (by omega))
 have HSz := hide (fun u => Ip.rsizes_any s u (by omega))
 have HTc := hide (fun u => Tc.rparse_any (Ip.parseS s) u (by omega))
 have HUd := hide (fun u => Ps.rparse_any (Ip.parseS s) u (by omega))
 have HV6 := hide (fun u => Ps.rpverify_any 6 (Ip.parseH s).src (Ip.parseH s).dst (Ip.parseS s) u u1 u2 (by omega))
 have HV17 := hide (fun u => Ps.rpverify_any 17 (Ip.parseH s).src (Ip.parseH s).dst (Ip.parseS s) u u1 u2 (by omega))
 have HAb : Hid (Ip.parseE s = 0 → frgE s = 0 → (Ip.parseH s).proto = 1 → ∀ u, Calls Tryz.prog 90 #[Pk.val ⟨1, Ip.sizeH s, Ip.sizeT s, ⟨1, (Ip.parseH s).src, (Ip.parseH s).dst, 0, 0⟩, 0, (Ip.parseH s).ttl, (Ip.parseH s).src, (Ip.parseH s).dst, 0, 0⟩, .string (Ip.parseS s)] u fun e w' => e = .returned (.tuple #[(clsP s).val, .int .i64 (clsE s)]) ∧ Below u.heap.size u w') := fun h1 h2 h3 u => by
  have hh := rabout_any ⟨1, Ip.sizeH s, Ip.sizeT s, ⟨1, (Ip.parseH s).src, (Ip.parseH s).dst, 0, 0⟩, 0, (Ip.parseH s).ttl, (Ip.parseH s).src, (Ip.parseH s).dst, 0, 0⟩ (Ip.parseS s) u (by omega) sz0 sz1
  rw [msgP_of ⟨1, Ip.sizeH s, Ip.sizeT s, ⟨1, (Ip.parseH s).src, (Ip.parseH s).dst, 0, 0⟩, 0, (Ip.parseH s).ttl, (Ip.parseH s).src, (Ip.parseH s).dst, 0, 0⟩ (outP s (Ip.parseH s)) (Ip.parseS s) rfl rfl rfl rfl rfl rfl] at hh
  rw [(cls_1 h1 h2 h3).1, (cls_1 h1 h2 h3).2]
  exact hh
 have E0 : Hid (¬ Ip.parseE s = 0 → clsP s = zeroPk ∧ clsE s = Ip.parseE s) := fun h => ⟨by unfold clsP; rw [if_neg (fun h' => h h'.1)], by unfold clsE; rw [first1 h]⟩
 have E1 : Hid (Ip.parseE s = 0 → fragB (Ip.parseH s) = true → clsP s = zeroPk ∧ clsE s = 8) := fun h hf => by
  have h8 : frgE s = 8 := by unfold frgE; rw [if_pos hf]
  exact ⟨by unfold clsP; rw [if_neg (fun h' => by have := h'.2; rw [h8] at this; exact absurd this (by decide))], by unfold clsE; rw [first3' h (by rw [h8]; decide), h8]⟩
 have F0 : Hid (fragB (Ip.parseH s) = false → frgE s = 0) := fun hf => by unfold frgE; rw [if_neg (by rw [hf]; decide)]
 have E6 := hide (fun a b c => cls_6 (s := s) a b c)
 have E17 := hide (fun a b c => cls_17 (s := s) a b c)
 have EM := hide (fun a b c => cls_1 (s := s) a b c)
 have EO := hide (fun a b c d e => cls_o (s := s) a b c d e)
 have HFb : Hid (fragB (Ip.parseH s) = (((Ip.parseH s).flags % 2 != 0) || ((Ip.parseH s).frag != 0))) := rfl
 have kfl : (Ip.parseH s).flags.tmod 2 = (Ip.parseH s).flags % 2 := Int.tmod_eq_emod_of_nonneg fl0
 generalize clsP s = CP at *
 generalize clsE s = CE at *
 generalize hPE : Ip.parseE s = PE at *
 generalize hhd : Ip.parseH s = h at *
 generalize Ip.parseS s = body at *
 obtain ⟨tos, id, fl, fg, ttl, proto, src, dst, opts⟩ := h
 simp only at *
 go_enter Tryz.func55, Tryz.ntmps55
 go_wp2_with fail
 refine (unhide HPar _).mono ?_
 rintro e w1 ⟨rfl, hb⟩
 have r0 : Row w1 (w.heap.size) zeroPk.cells := (row_new w zeroPk.cells 62).on' hb
 have hbel : Below w.heap.size w w1 := Below.then (alloc_on w (.cells zeroPk.cells.toArray 62)) hb
 have hn := alloc_on w1 (.cells #[.int .i64 tos, .int .i64 id, .int .i64 fl, .int .i64 fg, .int .i64 ttl, .int .i64 proto, .int .u32 src, .int .u32 dst, .string opts] 54)
 have hh := row_new w1 [.int .i64 tos, .int .i64 id, .int .i64 fl, .int .i64 fg, .int .i64 ttl, .int .i64 proto, .int .u32 src, .int .u32 dst, .string opts] 54
 have hlt0 := r0.lt
 obtain ⟨WW, eW⟩ : ∃ V, w1.alloc (.cells #[.int .i64 tos, .int .i64 id, .int .i64 fl, .int .i64 fg, .int .i64 ttl, .int .i64 proto, .int .u32 src, .int .u32 dst, .string opts] 54) = V := ⟨_, rfl⟩
 rw [eW] at hn hh
 replace r0 := r0.on' hn
 replace hbel := Below.then hbel hn
 obtain ⟨bh, hbh⟩ : ∃ bh, w1.heap.size = bh := ⟨_, rfl⟩
 rw [hbh] at hh hlt0
 have HR := hide (And.intro hh (And.intro r0 hbel))
 have c2 := hh.cell 2 _ rfl
 have c3 := hh.cell 3 _ rfl
 have c4 := hh.cell 4 _ rfl
 have c5 := hh.cell 5 _ rfl
 have c6 := hh.cell 6 _ rfl
 have c7 := hh.cell 7 _ rfl
 clear hh r0 hbel hb hn HPar
 by_cases hpe : PE = 0
 case neg =>
  have HX := hide (E0.out hpe)
  have hd : (PE != 0) = true := by simpa using hpe
  obtain ⟨hh, r0, hbel⟩ := unhide HR
  clear E0 E1 E6 E17 EM EO hpe c2 c3 c4 c5 c6 c7
  have c0 := r0.cell 0 _ rfl
  have c1 := r0.cell 1 _ rfl
  have c2 := r0.cell 2 _ rfl
  have c3 := r0.cell 3 _ rfl
  have c4 := r0.cell 4 _ rfl
  have c5 := r0.cell 5 _ rfl
  have c6 := r0.cell 6 _ rfl
  have c7 := r0.cell 7 _ rfl
  have c8 := r0.cell 8 _ rfl
  have c9 := r0.cell 9 _ rfl
  have c10 := r0.cell 10 _ rfl
  have c11 := r0.cell 11 _ rfl
  have c12 := r0.cell 12 _ rfl
  have c13 := r0.cell 13 _ rfl
  have fr := r0.free
  have R := row_all zeroPk.cells r0 rfl
  have B := hbel.trans ((setRow_below (w.heap.size) zeroPk.cells 0 _).mono (Nat.le_refl _))
  simp only [setRow, zeroPk, zeroTp, Nat.zero_add, Nat.reduceAdd] at R B
  have HR9 := hide (And.intro R B)
  clear R B r0 hh hbel
  go_wp2_with fail
  obtain ⟨R, B⟩ := unhide HR9
  have z0 := R.cell 0 _ rfl
  have z1 := R.cell 1 _ rfl
  have z2 := R.cell 2 _ rfl
  have z3 := R.cell 3 _ rfl
  have z4 := R.cell 4 _ rfl
  have z5 := R.cell 5 _ rfl
  have z6 := R.cell 6 _ rfl
  have z7 := R.cell 7 _ rfl
  have z8 := R.cell 8 _ rfl
  have z9 := R.cell 9 _ rfl
  have z10 := R.cell 10 _ rfl
  have z11 := R.cell 11 _ rfl
  have z12 := R.cell 12 _ rfl
  have z13 := R.cell 13 _ rfl
  refine bodyPost_ret (v := .tuple #[zeroPk.val, .int .i64 (PE)]) (by simp [results, Tryz.results55, go_sem, zeroPk, zeroTp, z0, z1, z2, z3, z4, z5, z6, z7, z8, z9, z10, z11, z12, z13]) rfl ⟨ret_pe (unhide HX).1.symm (unhide HX).2.symm, B⟩
 case pos =>
  have hd : (PE != 0) = false := by rw [hpe]; rfl
  cases t1 : (fl % 2 == 1) with
  | true =>
   have hf : fragB ⟨tos, id, fl, fg, ttl, proto, src, dst, opts⟩ = true := by
    have e : fl % 2 = 1 := by simpa using t1
    rw [HFb.out]; simp [e]
   have HX := hide (E1.out hpe hf)
   obtain ⟨hh, r0, hbel⟩ := unhide HR
   clear E0 E1 E6 E17 EM EO hpe hf
   have c0 := r0.cell 0 _ rfl
   have c1 := r0.cell 1 _ rfl
   have c2 := r0.cell 2 _ rfl
   have c3 := r0.cell 3 _ rfl
   have c4 := r0.cell 4 _ rfl
   have c5 := r0.cell 5 _ rfl
   have c6 := r0.cell 6 _ rfl
   have c7 := r0.cell 7 _ rfl
   have c8 := r0.cell 8 _ rfl
   have c9 := r0.cell 9 _ rfl
   have c10 := r0.cell 10 _ rfl
   have c11 := r0.cell 11 _ rfl
   have c12 := r0.cell 12 _ rfl
   have c13 := r0.cell 13 _ rfl
   have fr := r0.free
   have R := row_all zeroPk.cells r0 rfl
   have B := hbel.trans ((setRow_below (w.heap.size) zeroPk.cells 0 _).mono (Nat.le_refl _))
   simp only [setRow, zeroPk, zeroTp, Nat.zero_add, Nat.reduceAdd] at R B
   have HR9 := hide (And.intro R B)
   clear R B r0 hh hbel
   go_wp2_with fail
   obtain ⟨R, B⟩ := unhide HR9
   have z0 := R.cell 0 _ rfl
   have z1 := R.cell 1 _ rfl
   have z2 := R.cell 2 _ rfl
   have z3 := R.cell 3 _ rfl
   have z4 := R.cell 4 _ rfl
   have z5 := R.cell 5 _ rfl
   have z6 := R.cell 6 _ rfl
   have z7 := R.cell 7 _ rfl
   have z8 := R.cell 8 _ rfl
   have z9 := R.cell 9 _ rfl
   have z10 := R.cell 10 _ rfl
   have z11 := R.cell 11 _ rfl
   have z12 := R.cell 12 _ rfl
   have z13 := R.cell 13 _ rfl
   refine bodyPost_ret (v := .tuple #[zeroPk.val, .int .i64 (8)]) (by simp [results, Tryz.results55, go_sem, zeroPk, zeroTp, z0, z1, z2, z3, z4, z5, z6, z7, z8, z9, z10, z11, z12, z13]) rfl ⟨ret_pe (unhide HX).1.symm (unhide HX).2.symm, B⟩
  | false =>
   cases t2 : (fg != 0) with
   | true =>
    have hf : fragB ⟨tos, id, fl, fg, ttl, proto, src, dst, opts⟩ = true := by
     rw [HFb.out, t2]; simp
    have HX := hide (E1.out hpe hf)
    obtain ⟨hh, r0, hbel⟩ := unhide HR
    clear E0 E1 E6 E17 EM EO hpe hf
    have c0 := r0.cell 0 _ rfl
    have c1 := r0.cell 1 _ rfl
    have c2 := r0.cell 2 _ rfl
    have c3 := r0.cell 3 _ rfl
    have c4 := r0.cell 4 _ rfl
    have c5 := r0.cell 5 _ rfl
    have c6 := r0.cell 6 _ rfl
    have c7 := r0.cell 7 _ rfl
    have c8 := r0.cell 8 _ rfl
    have c9 := r0.cell 9 _ rfl
    have c10 := r0.cell 10 _ rfl
    have c11 := r0.cell 11 _ rfl
    have c12 := r0.cell 12 _ rfl
    have c13 := r0.cell 13 _ rfl
    have fr := r0.free
    have R := row_all zeroPk.cells r0 rfl
    have B := hbel.trans ((setRow_below (w.heap.size) zeroPk.cells 0 _).mono (Nat.le_refl _))
    simp only [setRow, zeroPk, zeroTp, Nat.zero_add, Nat.reduceAdd] at R B
    have HR9 := hide (And.intro R B)
    clear R B r0 hh hbel
    go_wp2_with fail
    obtain ⟨R, B⟩ := unhide HR9
    have z0 := R.cell 0 _ rfl
    have z1 := R.cell 1 _ rfl
    have z2 := R.cell 2 _ rfl
    have z3 := R.cell 3 _ rfl
    have z4 := R.cell 4 _ rfl
    have z5 := R.cell 5 _ rfl
    have z6 := R.cell 6 _ rfl
    have z7 := R.cell 7 _ rfl
    have z8 := R.cell 8 _ rfl
    have z9 := R.cell 9 _ rfl
    have z10 := R.cell 10 _ rfl
    have z11 := R.cell 11 _ rfl
    have z12 := R.cell 12 _ rfl
    have z13 := R.cell 13 _ rfl
    refine bodyPost_ret (v := .tuple #[zeroPk.val, .int .i64 (8)]) (by simp [results, Tryz.results55, go_sem, zeroPk, zeroTp, z0, z1, z2, z3, z4, z5, z6, z7, z8, z9, z10, z11, z12, z13]) rfl ⟨ret_pe (unhide HX).1.symm (unhide HX).2.symm, B⟩
   | false =>
    have hf : fragB ⟨tos, id, fl, fg, ttl, proto, src, dst, opts⟩ = false := by
     have e : ¬ fl % 2 = 1 := by simpa using t1
     have e2 : fl % 2 = 0 := by omega
     rw [HFb.out, t2, e2]; rfl
    exact absurd ⟨hpe, F0.out hf⟩ (unhide HK)
end Go.Proofs.YtpjaajeojiaeiaaGreatDoor

/- What Classify of the reference of chapter 9 computes, one way of it. -/
namespace Go.Proofs.YtpjaajeojiaeiaaGreatDoor
open Go.ChangeShapes Go.WideShapes Go.ChangeAt Go.RowKit

set_option maxRecDepth 100000 in
set_option maxHeartbeats 8000000 in
theorem rclassify_t (s : ByteArray) (w : World) (hs : s.size ≤ 140737488360000) (hK : Ip.parseE s = 0 ∧ frgE s = 0 ∧ (Ip.parseH s).proto = 6) :
  Calls Tryz.prog 55 #[.string s] w fun e w' => e = .returned (.tuple #[(clsP s).val, .int .i64 (clsE s)]) ∧ Below w.heap.size w w' := by
 have hbz := parseS_1500 s
 obtain ⟨⟨fl0, fl1⟩, u1, u2⟩ := parseH_rng s
 obtain ⟨sz0, sz1⟩ := sizeH_rng s
 have HB : Hid (frgE s = 0 → ¬ fragB (Ip.parseH s) = true) := fun h0 hf => by unfold frgE at h0; rw [if_pos hf] at h0; exact absurd h0 (by decide)
 have HK := hide hK
 clear hK
 have HPar := hide (fun u => Ip.rparse_any s u (by omega))
 have HSz := hide (fun u => Ip.rsizes_any s u (by omega))
 have HTc := hide (fun u => Tc.rparse_any (Ip.parseS s) u (by omega))
 have HUd := hide (fun u => Ps.rparse_any (Ip.parseS s) u (by omega))
 have HV6 := hide (fun u => Ps.rpverify_any 6 (Ip.parseH s).src (Ip.parseH s).dst (Ip.parseS s) u u1 u2 (by omega))
 have HV17 := hide (fun u => Ps.rpverify_any 17 (Ip.parseH s).src (Ip.parseH s).dst (Ip.parseS s) u u1 u2 (by omega))
 have HAb : Hid (Ip.parseE s = 0 → frgE s = 0 → (Ip.parseH s).proto = 1 → ∀ u, Calls Tryz.prog 90 #[Pk.val ⟨1, Ip.sizeH s, Ip.sizeT s, ⟨1, (Ip.parseH s).src, (Ip.parseH s).dst, 0, 0⟩, 0, (Ip.parseH s).ttl, (Ip.parseH s).src, (Ip.parseH s).dst, 0, 0⟩, .string (Ip.parseS s)] u fun e w' => e = .returned (.tuple #[(clsP s).val, .int .i64 (clsE s)]) ∧ Below u.heap.size u w') := fun h1 h2 h3 u => by
  have hh := rabout_any ⟨1, Ip.sizeH s, Ip.sizeT s, ⟨1, (Ip.parseH s).src, (Ip.parseH s).dst, 0, 0⟩, 0, (Ip.parseH s).ttl, (Ip.parseH s).src, (Ip.parseH s).dst, 0, 0⟩ (Ip.parseS s) u (by omega) sz0 sz1
  rw [msgP_of ⟨1, Ip.sizeH s, Ip.sizeT s, ⟨1, (Ip.parseH s).src, (Ip.parseH s).dst, 0, 0⟩, 0, (Ip.parseH s).ttl, (Ip.parseH s).src, (Ip.parseH s).dst, 0, 0⟩ (outP s (Ip.parseH s)) (Ip.parseS s) rfl rfl rfl rfl rfl rfl] at hh
  rw [(cls_1 h1 h2 h3).1, (cls_1 h1 h2 h3).2]
  exact hh
 have E0 : Hid (¬ Ip.parseE s = 0 → clsP s = zeroPk ∧ clsE s = Ip.parseE s) := fun h => ⟨by unfold clsP; rw [if_neg (fun h' => h h'.1)], by unfold clsE; rw [first1 h]⟩
 have E1 : Hid (Ip.parseE s = 0 → fragB (Ip.parseH s) = true → clsP s = zeroPk ∧ clsE s = 8) := fun h hf => by
  have h8 : frgE s = 8 := by unfold frgE; rw [if_pos hf]
  exact ⟨by unfold clsP; rw [if_neg (fun h' => by have := h'.2; rw [h8] at this; exact absurd this (by decide))], by unfold clsE; rw [first3' h (by rw [h8]; decide), h8]⟩
 have F0 : Hid (fragB (Ip.parseH s) = false → frgE s = 0) := fun hf => by unfold frgE; rw [if_neg (by rw [hf]; decide)]
 have E6 := hide (fun a b c => cls_6 (s := s) a b c)
 have E17 := hide (fun a b c => cls_17 (s := s) a b c)
 have EM := hide (fun a b c => cls_1 (s := s) a b c)
 have EO := hide (fun a b c d e => cls_o (s := s) a b c d e)
 have HFb : Hid (fragB (Ip.parseH s) = (((Ip.parseH s).flags % 2 != 0) || ((Ip.parseH s).frag != 0))) := rfl
 have kfl : (Ip.parseH s).flags.tmod 2 = (Ip.parseH s).flags % 2 := Int.tmod_eq_emod_of_nonneg fl0
 generalize clsP s = CP at *
 generalize clsE s = CE at *
 generalize hPE : Ip.parseE s = PE at *
 generalize hhd : Ip.parseH s = h at *
 generalize Ip.parseS s = body at *
 obtain ⟨tos, id, fl, fg, ttl, proto, src, dst, opts⟩ := h
 simp only at *
 go_enter Tryz.func55, Tryz.ntmps55
 go_wp2_with fail
 refine (unhide HPar _).mono ?_
 rintro e w1 ⟨rfl, hb⟩
 have r0 : Row w1 (w.heap.size) zeroPk.cells := (row_new w zeroPk.cells 62).on' hb
 have hbel : Below w.heap.size w w1 := Below.then (alloc_on w (.cells zeroPk.cells.toArray 62)) hb
 have hn := alloc_on w1 (.cells #[.int .i64 tos, .int .i64 id, .int .i64 fl, .int .i64 fg, .int .i64 ttl, .int .i64 proto, .int .u32 src, .int .u32 dst, .string opts] 54)
 have hh := row_new w1 [.int .i64 tos, .int .i64 id, .int .i64 fl, .int .i64 fg, .int .i64 ttl, .int .i64 proto, .int .u32 src, .int .u32 dst, .string opts] 54
 have hlt0 := r0.lt
 obtain ⟨WW, eW⟩ : ∃ V, w1.alloc (.cells #[.int .i64 tos, .int .i64 id, .int .i64 fl, .int .i64 fg, .int .i64 ttl, .int .i64 proto, .int .u32 src, .int .u32 dst, .string opts] 54) = V := ⟨_, rfl⟩
 rw [eW] at hn hh
 replace r0 := r0.on' hn
 replace hbel := Below.then hbel hn
 obtain ⟨bh, hbh⟩ : ∃ bh, w1.heap.size = bh := ⟨_, rfl⟩
 rw [hbh] at hh hlt0
 have HR := hide (And.intro hh (And.intro r0 hbel))
 have c2 := hh.cell 2 _ rfl
 have c3 := hh.cell 3 _ rfl
 have c4 := hh.cell 4 _ rfl
 have c5 := hh.cell 5 _ rfl
 have c6 := hh.cell 6 _ rfl
 have c7 := hh.cell 7 _ rfl
 clear hh r0 hbel hb hn HPar
 by_cases hpe : PE = 0
 case neg =>
  exact absurd (unhide HK).1 hpe
 case pos =>
  have hd : (PE != 0) = false := by rw [hpe]; rfl
  cases t1 : (fl % 2 == 1) with
  | true =>
   have hf : fragB ⟨tos, id, fl, fg, ttl, proto, src, dst, opts⟩ = true := by
    have e : fl % 2 = 1 := by simpa using t1
    rw [HFb.out]; simp [e]
   exact absurd hf (HB.out (unhide HK).2.1)
  | false =>
   cases t2 : (fg != 0) with
   | true =>
    have hf : fragB ⟨tos, id, fl, fg, ttl, proto, src, dst, opts⟩ = true := by
     rw [HFb.out, t2]; simp
    exact absurd hf (HB.out (unhide HK).2.1)
   | false =>
    have hf : fragB ⟨tos, id, fl, fg, ttl, proto, src, dst, opts⟩ = false := by
     have e : ¬ fl % 2 = 1 := by simpa using t1
     have e2 : fl % 2 = 0 := by omega
     rw [HFb.out, t2, e2]; rfl
    have HF0 := hide (F0.out hf)
    have HPE := hide hpe
    clear E0 E1 F0 hf hpe HFb
    go_wp2_with fail
    refine (unhide HSz _).mono ?_
    rintro e WW ⟨rfl, rfl⟩
    obtain ⟨hh, r0, hbel⟩ := unhide HR
    clear HR
    have hlt1 := hh.lt
    by_cases p6 : proto = 6
    ·subst p6
     have HC := hide (unhide E6 (unhide HPE) (unhide HF0) rfl)
     have HC1 : Hid (¬ Tc.parseE body = 0 → CP = zeroPk ∧ CE = Tc.parseE body) := fun hh => by
      have e : segE (outP s ⟨tos, id, fl, fg, ttl, 6, src, dst, opts⟩) body = Tc.parseE body := by unfold segE; rw [first1 hh]
      exact ⟨(unhide HC).2.trans (segP_no (by rw [e]; exact hh)), (unhide HC).1.trans e⟩
     have HOK : Hid (Tc.parseE body = 0 → Ps.verE 6 src dst body = 0 → CP = ⟨1, Ip.sizeH s, Ip.sizeT s, ⟨6, src, dst, (Tc.parseH body).src, (Tc.parseH body).dst⟩, (Tc.parseH body).flags, ttl, src, dst, 0, 0⟩ ∧ CE = 0) := fun h1 h2 => by
      have e : segE (outP s ⟨tos, id, fl, fg, ttl, 6, src, dst, opts⟩) body = 0 := by unfold segE; rw [first2 h1]; exact h2
      exact ⟨(unhide HC).2.trans (segP_yes e), (unhide HC).1.trans e⟩
     have HNO : Hid (Tc.parseE body = 0 → ¬ Ps.verE 6 src dst body = 0 → CP = zeroPk ∧ CE = Ps.verE 6 src dst body) := fun h1 h2 => by
      have e : segE (outP s ⟨tos, id, fl, fg, ttl, 6, src, dst, opts⟩) body = Ps.verE 6 src dst body := by unfold segE; rw [first2 h1]; rfl
      exact ⟨(unhide HC).2.trans (segP_no (by rw [e]; exact h2)), (unhide HC).1.trans e⟩
     clear E6 E17 EM EO HV17 HAb HUd HC
     generalize Tc.parseE body = TE at *
     generalize Tc.parseH body = t at *
     generalize Tc.parseS body = tb at *
     have hn := alloc_on WW (.cells zeroPk.cells.toArray 62)
     have pz := row_new WW zeroPk.cells 62
     obtain ⟨WZ, eZ⟩ : ∃ V, WW.alloc (.cells zeroPk.cells.toArray 62) = V := ⟨_, rfl⟩
     rw [eZ] at hn pz
     simp only [zeroPk, zeroTp] at eZ
     replace hh := hh.on' hn
     replace r0 := r0.on' hn
     replace hbel := Below.then hbel hn
     obtain ⟨bp, hbp⟩ : ∃ bp, WW.heap.size = bp := ⟨_, rfl⟩
     rw [hbp] at pz hlt1
     have e4 := hh.cell 4 _ rfl
     have e5 := hh.cell 5 _ rfl
     have e6 := hh.cell 6 _ rfl
     have e7 := hh.cell 7 _ rfl
     have zc0 := pz.cell 0 _ rfl
     have zc1 := pz.cell 1 _ rfl
     have zc2 := pz.cell 2 _ rfl
     have zc3 := pz.cell 3 _ rfl
     have zc4 := pz.cell 4 _ rfl
     have zc5 := pz.cell 5 _ rfl
     have zc6 := pz.cell 6 _ rfl
     have zc7 := pz.cell 7 _ rfl
     have zc8 := pz.cell 8 _ rfl
     have zc9 := pz.cell 9 _ rfl
     have zc10 := pz.cell 10 _ rfl
     have zc11 := pz.cell 11 _ rfl
     have zc12 := pz.cell 12 _ rfl
     have zc13 := pz.cell 13 _ rfl
     have zf := pz.free
     have p0 := row_all (Pk.cells ⟨1, Ip.sizeH s, Ip.sizeT s, ⟨6, src, dst, 0, 0⟩, 0, ttl, src, dst, 0, 0⟩) pz rfl
     replace hh := hh.of_block (W' := setRow WZ bp 0 (Pk.cells ⟨1, Ip.sizeH s, Ip.sizeT s, ⟨6, src, dst, 0, 0⟩, 0, ttl, src, dst, 0, 0⟩)) (setRow_heap _ _ (by omega) _ _ _)
     replace r0 := r0.of_block (W' := setRow WZ bp 0 (Pk.cells ⟨1, Ip.sizeH s, Ip.sizeT s, ⟨6, src, dst, 0, 0⟩, 0, ttl, src, dst, 0, 0⟩)) (setRow_heap _ _ (by omega) _ _ _)
     replace hbel := hbel.trans ((setRow_below bp (Pk.cells ⟨1, Ip.sizeH s, Ip.sizeT s, ⟨6, src, dst, 0, 0⟩, 0, ttl, src, dst, 0, 0⟩) 0 WZ).mono (by omega))
     obtain ⟨W3, eP⟩ : ∃ V, setRow WZ bp 0 (Pk.cells ⟨1, Ip.sizeH s, Ip.sizeT s, ⟨6, src, dst, 0, 0⟩, 0, ttl, src, dst, 0, 0⟩) = V := ⟨_, rfl⟩
     rw [eP] at p0 hh r0 hbel
     simp only [setRow, Nat.zero_add, Nat.reduceAdd] at eP
     have d5 := hh.cell 5 _ rfl
     have d6 := hh.cell 6 _ rfl
     have d7 := hh.cell 7 _ rfl
     clear hn pz
     have HR := hide (And.intro p0 (And.intro r0 (And.intro hh hbel)))
     clear p0 r0 hh hbel
     go_wp2_with fail
     refine (unhide HTc _).mono ?_
     rintro e w4 ⟨rfl, hb⟩
     obtain ⟨p0, r0, hh, hbel⟩ := unhide HR
     have hn := alloc_on w4 (.cells (Tc.cells t).toArray 90)
     have ht := row_new w4 (Tc.cells t) 90
     replace p0 := p0.on' hb
     have hbt0 : bp < w4.heap.size := p0.lt
     obtain ⟨W5, eT⟩ : ∃ V, w4.alloc (.cells (Tc.cells t).toArray 90) = V := ⟨_, rfl⟩
     rw [eT] at hn ht
     replace p0 := p0.on' hn
     replace r0 := (r0.on' hb).on' hn
     replace hh := (hh.on' hb).on' hn
     replace hbel := Below.then (Below.then hbel hb) hn
     have hbt : w4.heap.size ≠ bp := by omega
     clear hb hn HR d5 d6 d7
     by_cases hte : TE = 0
     ·have hdt : (TE != 0) = false := by rw [hte]; rfl
      have HOK : Hid (Ps.verE 6 src dst body = 0 → CP = ⟨1, Ip.sizeH s, Ip.sizeT s, ⟨6, src, dst, t.src, t.dst⟩, t.flags, ttl, src, dst, 0, 0⟩ ∧ CE = 0) := fun h2 => HOK.out hte h2
      have HNO : Hid (¬ Ps.verE 6 src dst body = 0 → CP = zeroPk ∧ CE = Ps.verE 6 src dst body) := fun h2 => HNO.out hte h2
      clear hte
      have lt0 := ht.cell 4 _ rfl
      have s1 := p0.cell 8 _ rfl
      have f1 := p0.free 8
      replace p0 := p0.set 8 (.int .i64 t.flags)
      replace r0 := r0.other (b := bp) (by omega) 8 (.int .i64 t.flags)
      replace hh := hh.other (b := bp) (by omega) 8 (.int .i64 t.flags)
      replace ht := ht.other (b := bp) hbt 8 (.int .i64 t.flags)
      replace hbel := hbel.setCell (p := ⟨bp, 8, none⟩) (by show w.heap.size ≤ bp; omega) (.int .i64 t.flags)
      obtain ⟨V1, eV1⟩ : ∃ V, W5.setCell ⟨bp, 8, none⟩ (.int .i64 t.flags) = V := ⟨_, rfl⟩
      rw [eV1] at hbel p0 r0 hh ht
      have lt1 := ht.cell 0 _ rfl
      have s2 := p0.cell 6 _ rfl
      have f2 := p0.free 6
      replace p0 := p0.set 6 (.int .i64 t.src)
      replace r0 := r0.other (b := bp) (by omega) 6 (.int .i64 t.src)
      replace hh := hh.other (b := bp) (by omega) 6 (.int .i64 t.src)
      replace ht := ht.other (b := bp) hbt 6 (.int .i64 t.src)
      replace hbel := hbel.setCell (p := ⟨bp, 6, none⟩) (by show w.heap.size ≤ bp; omega) (.int .i64 t.src)
      obtain ⟨V2, eV2⟩ : ∃ V, V1.setCell ⟨bp, 6, none⟩ (.int .i64 t.src) = V := ⟨_, rfl⟩
      rw [eV2] at hbel p0 r0 hh ht
      have lt2 := ht.cell 1 _ rfl
      have s3 := p0.cell 7 _ rfl
      have f3 := p0.free 7
      replace p0 := p0.set 7 (.int .i64 t.dst)
      replace r0 := r0.other (b := bp) (by omega) 7 (.int .i64 t.dst)
      replace hh := hh.other (b := bp) (by omega) 7 (.int .i64 t.dst)
      replace ht := ht.other (b := bp) hbt 7 (.int .i64 t.dst)
      replace hbel := hbel.setCell (p := ⟨bp, 7, none⟩) (by show w.heap.size ≤ bp; omega) (.int .i64 t.dst)
      obtain ⟨V3, eV3⟩ : ∃ V, V2.setCell ⟨bp, 7, none⟩ (.int .i64 t.dst) = V := ⟨_, rfl⟩
      rw [eV3] at hbel p0 r0 hh ht
      have HRv := hide (And.intro p0 (And.intro r0 (And.intro hh hbel)))
      have g5 := hh.cell 5 _ rfl
      have g6 := hh.cell 6 _ rfl
      have g7 := hh.cell 7 _ rfl
      clear p0 r0 hh hbel ht
      go_wp2_with fail
      refine (unhide HV6 _).mono ?_
      rintro e w8 ⟨rfl, hb⟩
      obtain ⟨p0, r0, hh, hbel⟩ := unhide HRv
      replace p0 := p0.on' hb
      replace r0 := r0.on' hb
      replace hh := hh.on' hb
      replace hbel := Below.then hbel hb
      clear hb HRv g5 g6 g7
      by_cases hv : Ps.verE 6 src dst body = 0
      ·have hdv : (Ps.verE 6 src dst body != 0) = false := by rw [hv]; rfl
       have HX := hide (HOK.out hv)
       clear hh hv
       replace p0 : Row _ bp (Pk.cells ⟨1, Ip.sizeH s, Ip.sizeT s, ⟨6, src, dst, t.src, t.dst⟩, t.flags, ttl, src, dst, 0, 0⟩) := p0
       have pp0 := p0.cell 0 _ rfl
       have pp1 := p0.cell 1 _ rfl
       have pp2 := p0.cell 2 _ rfl
       have pp3 := p0.cell 3 _ rfl
       have pp4 := p0.cell 4 _ rfl
       have pp5 := p0.cell 5 _ rfl
       have pp6 := p0.cell 6 _ rfl
       have pp7 := p0.cell 7 _ rfl
       have pp8 := p0.cell 8 _ rfl
       have pp9 := p0.cell 9 _ rfl
       have pp10 := p0.cell 10 _ rfl
       have pp11 := p0.cell 11 _ rfl
       have pp12 := p0.cell 12 _ rfl
       have pp13 := p0.cell 13 _ rfl
       have c0 := r0.cell 0 _ rfl
       have c1 := r0.cell 1 _ rfl
       have c2 := r0.cell 2 _ rfl
       have c3 := r0.cell 3 _ rfl
       have c4 := r0.cell 4 _ rfl
       have c5 := r0.cell 5 _ rfl
       have c6 := r0.cell 6 _ rfl
       have c7 := r0.cell 7 _ rfl
       have c8 := r0.cell 8 _ rfl
       have c9 := r0.cell 9 _ rfl
       have c10 := r0.cell 10 _ rfl
       have c11 := r0.cell 11 _ rfl
       have c12 := r0.cell 12 _ rfl
       have c13 := r0.cell 13 _ rfl
       have fr := r0.free
       have R := row_all (Pk.cells ⟨1, Ip.sizeH s, Ip.sizeT s, ⟨6, src, dst, t.src, t.dst⟩, t.flags, ttl, src, dst, 0, 0⟩) r0 rfl
       have B := hbel.trans ((setRow_below (w.heap.size) (Pk.cells ⟨1, Ip.sizeH s, Ip.sizeT s, ⟨6, src, dst, t.src, t.dst⟩, t.flags, ttl, src, dst, 0, 0⟩) 0 _).mono (Nat.le_refl _))
       simp only [setRow, Nat.zero_add, Nat.reduceAdd] at R B
       have HR9 := hide (And.intro R B)
       clear R B p0 r0 hbel
       go_wp2_with fail
       obtain ⟨R, B⟩ := unhide HR9
       have z0 := R.cell 0 _ rfl
       have z1 := R.cell 1 _ rfl
       have z2 := R.cell 2 _ rfl
       have z3 := R.cell 3 _ rfl
       have z4 := R.cell 4 _ rfl
       have z5 := R.cell 5 _ rfl
       have z6 := R.cell 6 _ rfl
       have z7 := R.cell 7 _ rfl
       have z8 := R.cell 8 _ rfl
       have z9 := R.cell 9 _ rfl
       have z10 := R.cell 10 _ rfl
       have z11 := R.cell 11 _ rfl
       have z12 := R.cell 12 _ rfl
       have z13 := R.cell 13 _ rfl
       refine bodyPost_ret (v := .tuple #[Pk.val ⟨1, Ip.sizeH s, Ip.sizeT s, ⟨6, src, dst, t.src, t.dst⟩, t.flags, ttl, src, dst, 0, 0⟩, .int .i64 0]) (by simp [results, Tryz.results55, go_sem, z0, z1, z2, z3, z4, z5, z6, z7, z8, z9, z10, z11, z12, z13]) rfl ⟨ret_pe (unhide HX).1.symm (unhide HX).2.symm, B⟩
      ·have hdv : (Ps.verE 6 src dst body != 0) = true := by simpa using hv
       have HX := hide (HNO.out hv)
       clear hv
       have c0 := r0.cell 0 _ rfl
       have c1 := r0.cell 1 _ rfl
       have c2 := r0.cell 2 _ rfl
       have c3 := r0.cell 3 _ rfl
       have c4 := r0.cell 4 _ rfl
       have c5 := r0.cell 5 _ rfl
       have c6 := r0.cell 6 _ rfl
       have c7 := r0.cell 7 _ rfl
       have c8 := r0.cell 8 _ rfl
       have c9 := r0.cell 9 _ rfl
       have c10 := r0.cell 10 _ rfl
       have c11 := r0.cell 11 _ rfl
       have c12 := r0.cell 12 _ rfl
       have c13 := r0.cell 13 _ rfl
       have fr := r0.free
       have R := row_all zeroPk.cells r0 rfl
       have B := hbel.trans ((setRow_below (w.heap.size) zeroPk.cells 0 _).mono (Nat.le_refl _))
       simp only [setRow, zeroPk, zeroTp, Nat.zero_add, Nat.reduceAdd] at R B
       have HR9 := hide (And.intro R B)
       clear R B r0 hh p0 hbel
       go_wp2_with fail
       obtain ⟨R, B⟩ := unhide HR9
       have z0 := R.cell 0 _ rfl
       have z1 := R.cell 1 _ rfl
       have z2 := R.cell 2 _ rfl
       have z3 := R.cell 3 _ rfl
       have z4 := R.cell 4 _ rfl
       have z5 := R.cell 5 _ rfl
       have z6 := R.cell 6 _ rfl
       have z7 := R.cell 7 _ rfl
       have z8 := R.cell 8 _ rfl
       have z9 := R.cell 9 _ rfl
       have z10 := R.cell 10 _ rfl
       have z11 := R.cell 11 _ rfl
       have z12 := R.cell 12 _ rfl
       have z13 := R.cell 13 _ rfl
       refine bodyPost_ret (v := .tuple #[zeroPk.val, .int .i64 (Ps.verE 6 src dst body)]) (by simp [results, Tryz.results55, go_sem, zeroPk, zeroTp, z0, z1, z2, z3, z4, z5, z6, z7, z8, z9, z10, z11, z12, z13]) rfl ⟨ret_pe (unhide HX).1.symm (unhide HX).2.symm, B⟩
     ·have hdt : (TE != 0) = true := by simpa using hte
      have HX := hide (HC1.out hte)
      clear hte HOK HNO HC1
      have c0 := r0.cell 0 _ rfl
      have c1 := r0.cell 1 _ rfl
      have c2 := r0.cell 2 _ rfl
      have c3 := r0.cell 3 _ rfl
      have c4 := r0.cell 4 _ rfl
      have c5 := r0.cell 5 _ rfl
      have c6 := r0.cell 6 _ rfl
      have c7 := r0.cell 7 _ rfl
      have c8 := r0.cell 8 _ rfl
      have c9 := r0.cell 9 _ rfl
      have c10 := r0.cell 10 _ rfl
      have c11 := r0.cell 11 _ rfl
      have c12 := r0.cell 12 _ rfl
      have c13 := r0.cell 13 _ rfl
      have fr := r0.free
      have R := row_all zeroPk.cells r0 rfl
      have B := hbel.trans ((setRow_below (w.heap.size) zeroPk.cells 0 _).mono (Nat.le_refl _))
      simp only [setRow, zeroPk, zeroTp, Nat.zero_add, Nat.reduceAdd] at R B
      have HR9 := hide (And.intro R B)
      clear R B r0 p0 hh ht hbel
      go_wp2_with fail
      obtain ⟨R, B⟩ := unhide HR9
      have z0 := R.cell 0 _ rfl
      have z1 := R.cell 1 _ rfl
      have z2 := R.cell 2 _ rfl
      have z3 := R.cell 3 _ rfl
      have z4 := R.cell 4 _ rfl
      have z5 := R.cell 5 _ rfl
      have z6 := R.cell 6 _ rfl
      have z7 := R.cell 7 _ rfl
      have z8 := R.cell 8 _ rfl
      have z9 := R.cell 9 _ rfl
      have z10 := R.cell 10 _ rfl
      have z11 := R.cell 11 _ rfl
      have z12 := R.cell 12 _ rfl
      have z13 := R.cell 13 _ rfl
      refine bodyPost_ret (v := .tuple #[zeroPk.val, .int .i64 (TE)]) (by simp [results, Tryz.results55, go_sem, zeroPk, zeroTp, z0, z1, z2, z3, z4, z5, z6, z7, z8, z9, z10, z11, z12, z13]) rfl ⟨ret_pe (unhide HX).1.symm (unhide HX).2.symm, B⟩
    ·exact absurd (unhide HK).2.2 p6
end Go.Proofs.YtpjaajeojiaeiaaGreatDoor

/- What Classify of the reference of chapter 9 computes, one way of it. -/
namespace Go.Proofs.YtpjaajeojiaeiaaGreatDoor
open Go.ChangeShapes Go.WideShapes Go.ChangeAt Go.RowKit

set_option maxRecDepth 100000 in
set_option maxHeartbeats 8000000 in
theorem rclassify_u (s : ByteArray) (w : World) (hs : s.size ≤ 140737488360000) (hK : Ip.parseE s = 0 ∧ frgE s = 0 ∧ (Ip.parseH s).proto = 17) :
  Calls Tryz.prog 55 #[.string s] w fun e w' => e = .returned (.tuple #[(clsP s).val, .int .i64 (clsE s)]) ∧ Below w.heap.size w w' := by
 have hbz := parseS_1500 s
 obtain ⟨⟨fl0, fl1⟩, u1, u2⟩ := parseH_rng s
 obtain ⟨sz0, sz1⟩ := sizeH_rng s
 have HB : Hid (frgE s = 0 → ¬ fragB (Ip.parseH s) = true) := fun h0 hf => by unfold frgE at h0; rw [if_pos hf] at h0; exact absurd h0 (by decide)
 have HK := hide hK
 clear hK
 have HPar := hide (fun u => Ip.rparse_any s u (by omega))
 have HSz := hide (fun u => Ip.rsizes_any s u (by omega))
 have HTc := hide (fun u => Tc.rparse_any (Ip.parseS s) u (by omega))
 have HUd := hide (fun u => Ps.rparse_any (Ip.parseS s) u (by omega))
 have HV6 := hide (fun u => Ps.rpverify_any 6 (Ip.parseH s).src (Ip.parseH s).dst (Ip.parseS s) u u1 u2 (by omega))
 have HV17 := hide (fun u => Ps.rpverify_any 17 (Ip.parseH s).src (Ip.parseH s).dst (Ip.parseS s) u u1 u2 (by omega))
 have HAb : Hid (Ip.parseE s = 0 → frgE s = 0 → (Ip.parseH s).proto = 1 → ∀ u, Calls Tryz.prog 90 #[Pk.val ⟨1, Ip.sizeH s, Ip.sizeT s, ⟨1, (Ip.parseH s).src, (Ip.parseH s).dst, 0, 0⟩, 0, (Ip.parseH s).ttl, (Ip.parseH s).src, (Ip.parseH s).dst, 0, 0⟩, .string (Ip.parseS s)] u fun e w' => e = .returned (.tuple #[(clsP s).val, .int .i64 (clsE s)]) ∧ Below u.heap.size u w') := fun h1 h2 h3 u => by
  have hh := rabout_any ⟨1, Ip.sizeH s, Ip.sizeT s, ⟨1, (Ip.parseH s).src, (Ip.parseH s).dst, 0, 0⟩, 0, (Ip.parseH s).ttl, (Ip.parseH s).src, (Ip.parseH s).dst, 0, 0⟩ (Ip.parseS s) u (by omega) sz0 sz1
  rw [msgP_of ⟨1, Ip.sizeH s, Ip.sizeT s, ⟨1, (Ip.parseH s).src, (Ip.parseH s).dst, 0, 0⟩, 0, (Ip.parseH s).ttl, (Ip.parseH s).src, (Ip.parseH s).dst, 0, 0⟩ (outP s (Ip.parseH s)) (Ip.parseS s) rfl rfl rfl rfl rfl rfl] at hh
  rw [(cls_1 h1 h2 h3).1, (cls_1 h1 h2 h3).2]
  exact hh
 have E0 : Hid (¬ Ip.parseE s = 0 → clsP s = zeroPk ∧ clsE s = Ip.parseE s) := fun h => ⟨by unfold clsP; rw [if_neg (fun h' => h h'.1)], by unfold clsE; rw [first1 h]⟩
 have E1 : Hid (Ip.parseE s = 0 → fragB (Ip.parseH s) = true → clsP s = zeroPk ∧ clsE s = 8) := fun h hf => by
  have h8 : frgE s = 8 := by unfold frgE; rw [if_pos hf]
  exact ⟨by unfold clsP; rw [if_neg (fun h' => by have := h'.2; rw [h8] at this; exact absurd this (by decide))], by unfold clsE; rw [first3' h (by rw [h8]; decide), h8]⟩
 have F0 : Hid (fragB (Ip.parseH s) = false → frgE s = 0) := fun hf => by unfold frgE; rw [if_neg (by rw [hf]; decide)]
 have E6 := hide (fun a b c => cls_6 (s := s) a b c)
 have E17 := hide (fun a b c => cls_17 (s := s) a b c)
 have EM := hide (fun a b c => cls_1 (s := s) a b c)
 have EO := hide (fun a b c d e => cls_o (s := s) a b c d e)
 have HFb : Hid (fragB (Ip.parseH s) = (((Ip.parseH s).flags % 2 != 0) || ((Ip.parseH s).frag != 0))) := rfl
 have kfl : (Ip.parseH s).flags.tmod 2 = (Ip.parseH s).flags % 2 := Int.tmod_eq_emod_of_nonneg fl0
 generalize clsP s = CP at *
 generalize clsE s = CE at *
 generalize hPE : Ip.parseE s = PE at *
 generalize hhd : Ip.parseH s = h at *
 generalize Ip.parseS s = body at *
 obtain ⟨tos, id, fl, fg, ttl, proto, src, dst, opts⟩ := h
 simp only at *
 go_enter Tryz.func55, Tryz.ntmps55
 go_wp2_with fail
 refine (unhide HPar _).mono ?_
 rintro e w1 ⟨rfl, hb⟩
 have r0 : Row w1 (w.heap.size) zeroPk.cells := (row_new w zeroPk.cells 62).on' hb
 have hbel : Below w.heap.size w w1 := Below.then (alloc_on w (.cells zeroPk.cells.toArray 62)) hb
 have hn := alloc_on w1 (.cells #[.int .i64 tos, .int .i64 id, .int .i64 fl, .int .i64 fg, .int .i64 ttl, .int .i64 proto, .int .u32 src, .int .u32 dst, .string opts] 54)
 have hh := row_new w1 [.int .i64 tos, .int .i64 id, .int .i64 fl, .int .i64 fg, .int .i64 ttl, .int .i64 proto, .int .u32 src, .int .u32 dst, .string opts] 54
 have hlt0 := r0.lt
 obtain ⟨WW, eW⟩ : ∃ V, w1.alloc (.cells #[.int .i64 tos, .int .i64 id, .int .i64 fl, .int .i64 fg, .int .i64 ttl, .int .i64 proto, .int .u32 src, .int .u32 dst, .string opts] 54) = V := ⟨_, rfl⟩
 rw [eW] at hn hh
 replace r0 := r0.on' hn
 replace hbel := Below.then hbel hn
 obtain ⟨bh, hbh⟩ : ∃ bh, w1.heap.size = bh := ⟨_, rfl⟩
 rw [hbh] at hh hlt0
 have HR := hide (And.intro hh (And.intro r0 hbel))
 have c2 := hh.cell 2 _ rfl
 have c3 := hh.cell 3 _ rfl
 have c4 := hh.cell 4 _ rfl
 have c5 := hh.cell 5 _ rfl
 have c6 := hh.cell 6 _ rfl
 have c7 := hh.cell 7 _ rfl
 clear hh r0 hbel hb hn HPar
 by_cases hpe : PE = 0
 case neg =>
  exact absurd (unhide HK).1 hpe
 case pos =>
  have hd : (PE != 0) = false := by rw [hpe]; rfl
  cases t1 : (fl % 2 == 1) with
  | true =>
   have hf : fragB ⟨tos, id, fl, fg, ttl, proto, src, dst, opts⟩ = true := by
    have e : fl % 2 = 1 := by simpa using t1
    rw [HFb.out]; simp [e]
   exact absurd hf (HB.out (unhide HK).2.1)
  | false =>
   cases t2 : (fg != 0) with
   | true =>
    have hf : fragB ⟨tos, id, fl, fg, ttl, proto, src, dst, opts⟩ = true := by
     rw [HFb.out, t2]; simp
    exact absurd hf (HB.out (unhide HK).2.1)
   | false =>
    have hf : fragB ⟨tos, id, fl, fg, ttl, proto, src, dst, opts⟩ = false := by
     have e : ¬ fl % 2 = 1 := by simpa using t1
     have e2 : fl % 2 = 0 := by omega
     rw [HFb.out, t2, e2]; rfl
    have HF0 := hide (F0.out hf)
    have HPE := hide hpe
    clear E0 E1 F0 hf hpe HFb
    go_wp2_with fail
    refine (unhide HSz _).mono ?_
    rintro e WW ⟨rfl, rfl⟩
    obtain ⟨hh, r0, hbel⟩ := unhide HR
    clear HR
    have hlt1 := hh.lt
    by_cases p6 : proto = 6
    ·exact absurd (p6.symm.trans (unhide HK).2.2) (by decide)
    ·have t6 : (proto == 6) = false := by simpa using p6
     by_cases p17 : proto = 17
     ·subst p17
      have HC := hide (unhide E17 (unhide HPE) (unhide HF0) rfl)
      have HC1 : Hid (¬ Ps.measE body = 0 → CP = zeroPk ∧ CE = Ps.measE body) := fun hh => by
       have e : datE (outP s ⟨tos, id, fl, fg, ttl, 17, src, dst, opts⟩) body = Ps.measE body := by unfold datE; rw [first1 hh]
       exact ⟨(unhide HC).2.trans (datP_no (by rw [e]; exact hh)), (unhide HC).1.trans e⟩
      have HOK : Hid (Ps.measE body = 0 → Ps.verE 17 src dst body = 0 → CP = ⟨1, Ip.sizeH s, Ip.sizeT s, ⟨17, src, dst, Ps.parA body, Ps.parB body⟩, 0, ttl, src, dst, 0, 0⟩ ∧ CE = 0) := fun h1 h2 => by
       have e : datE (outP s ⟨tos, id, fl, fg, ttl, 17, src, dst, opts⟩) body = 0 := by unfold datE; rw [first2 h1]; exact h2
       exact ⟨(unhide HC).2.trans (datP_yes e), (unhide HC).1.trans e⟩
      have HNO : Hid (Ps.measE body = 0 → ¬ Ps.verE 17 src dst body = 0 → CP = zeroPk ∧ CE = Ps.verE 17 src dst body) := fun h1 h2 => by
       have e : datE (outP s ⟨tos, id, fl, fg, ttl, 17, src, dst, opts⟩) body = Ps.verE 17 src dst body := by unfold datE; rw [first2 h1]; rfl
       exact ⟨(unhide HC).2.trans (datP_no (by rw [e]; exact h2)), (unhide HC).1.trans e⟩
      clear E6 E17 EM EO HV6 HAb HTc HC
      generalize Ps.parA body = ua at *
      generalize Ps.parB body = ub at *
      generalize Ps.parC body = ud at *
      generalize Ps.measE body = UE at *
      have hn := alloc_on WW (.cells zeroPk.cells.toArray 62)
      have pz := row_new WW zeroPk.cells 62
      obtain ⟨WZ, eZ⟩ : ∃ V, WW.alloc (.cells zeroPk.cells.toArray 62) = V := ⟨_, rfl⟩
      rw [eZ] at hn pz
      simp only [zeroPk, zeroTp] at eZ
      replace hh := hh.on' hn
      replace r0 := r0.on' hn
      replace hbel := Below.then hbel hn
      obtain ⟨bp, hbp⟩ : ∃ bp, WW.heap.size = bp := ⟨_, rfl⟩
      rw [hbp] at pz hlt1
      have e4 := hh.cell 4 _ rfl
      have e5 := hh.cell 5 _ rfl
      have e6 := hh.cell 6 _ rfl
      have e7 := hh.cell 7 _ rfl
      have zc0 := pz.cell 0 _ rfl
      have zc1 := pz.cell 1 _ rfl
      have zc2 := pz.cell 2 _ rfl
      have zc3 := pz.cell 3 _ rfl
      have zc4 := pz.cell 4 _ rfl
      have zc5 := pz.cell 5 _ rfl
      have zc6 := pz.cell 6 _ rfl
      have zc7 := pz.cell 7 _ rfl
      have zc8 := pz.cell 8 _ rfl
      have zc9 := pz.cell 9 _ rfl
      have zc10 := pz.cell 10 _ rfl
      have zc11 := pz.cell 11 _ rfl
      have zc12 := pz.cell 12 _ rfl
      have zc13 := pz.cell 13 _ rfl
      have zf := pz.free
      have p0 := row_all (Pk.cells ⟨1, Ip.sizeH s, Ip.sizeT s, ⟨17, src, dst, 0, 0⟩, 0, ttl, src, dst, 0, 0⟩) pz rfl
      replace hh := hh.of_block (W' := setRow WZ bp 0 (Pk.cells ⟨1, Ip.sizeH s, Ip.sizeT s, ⟨17, src, dst, 0, 0⟩, 0, ttl, src, dst, 0, 0⟩)) (setRow_heap _ _ (by omega) _ _ _)
      replace r0 := r0.of_block (W' := setRow WZ bp 0 (Pk.cells ⟨1, Ip.sizeH s, Ip.sizeT s, ⟨17, src, dst, 0, 0⟩, 0, ttl, src, dst, 0, 0⟩)) (setRow_heap _ _ (by omega) _ _ _)
      replace hbel := hbel.trans ((setRow_below bp (Pk.cells ⟨1, Ip.sizeH s, Ip.sizeT s, ⟨17, src, dst, 0, 0⟩, 0, ttl, src, dst, 0, 0⟩) 0 WZ).mono (by omega))
      obtain ⟨W3, eP⟩ : ∃ V, setRow WZ bp 0 (Pk.cells ⟨1, Ip.sizeH s, Ip.sizeT s, ⟨17, src, dst, 0, 0⟩, 0, ttl, src, dst, 0, 0⟩) = V := ⟨_, rfl⟩
      rw [eP] at p0 hh r0 hbel
      simp only [setRow, Nat.zero_add, Nat.reduceAdd] at eP
      have d5 := hh.cell 5 _ rfl
      have d6 := hh.cell 6 _ rfl
      have d7 := hh.cell 7 _ rfl
      clear hn pz
      have HR := hide (And.intro p0 (And.intro r0 (And.intro hh hbel)))
      clear p0 r0 hh hbel
      go_wp2_with fail
      refine (unhide HUd _).mono ?_
      rintro e w4 ⟨rfl, hb⟩
      obtain ⟨p0, r0, hh, hbel⟩ := unhide HR
      replace p0 := p0.on' hb
      replace r0 := r0.on' hb
      replace hh := hh.on' hb
      replace hbel := Below.then hbel hb
      clear hb HR d5 d6 d7
      by_cases hte : UE = 0
      ·have hdt : (UE != 0) = false := by rw [hte]; rfl
       have HOK : Hid (Ps.verE 17 src dst body = 0 → CP = ⟨1, Ip.sizeH s, Ip.sizeT s, ⟨17, src, dst, ua, ub⟩, 0, ttl, src, dst, 0, 0⟩ ∧ CE = 0) := fun h2 => HOK.out hte h2
       have HNO : Hid (¬ Ps.verE 17 src dst body = 0 → CP = zeroPk ∧ CE = Ps.verE 17 src dst body) := fun h2 => HNO.out hte h2
       clear hte
       have s1 := p0.cell 6 _ rfl
       have f1 := p0.free 6
       replace p0 := p0.set 6 (.int .i64 ua)
       replace r0 := r0.other (b := bp) (by omega) 6 (.int .i64 ua)
       replace hh := hh.other (b := bp) (by omega) 6 (.int .i64 ua)
       replace hbel := hbel.setCell (p := ⟨bp, 6, none⟩) (by show w.heap.size ≤ bp; omega) (.int .i64 ua)
       obtain ⟨V1, eV1⟩ : ∃ V, w4.setCell ⟨bp, 6, none⟩ (.int .i64 ua) = V := ⟨_, rfl⟩
       rw [eV1] at hbel p0 r0 hh
       have s2 := p0.cell 7 _ rfl
       have f2 := p0.free 7
       replace p0 := p0.set 7 (.int .i64 ub)
       replace r0 := r0.other (b := bp) (by omega) 7 (.int .i64 ub)
       replace hh := hh.other (b := bp) (by omega) 7 (.int .i64 ub)
       replace hbel := hbel.setCell (p := ⟨bp, 7, none⟩) (by show w.heap.size ≤ bp; omega) (.int .i64 ub)
       obtain ⟨V2, eV2⟩ : ∃ V, V1.setCell ⟨bp, 7, none⟩ (.int .i64 ub) = V := ⟨_, rfl⟩
       rw [eV2] at hbel p0 r0 hh
       have HRv := hide (And.intro p0 (And.intro r0 (And.intro hh hbel)))
       have g5 := hh.cell 5 _ rfl
       have g6 := hh.cell 6 _ rfl
       have g7 := hh.cell 7 _ rfl
       clear p0 r0 hh hbel 
       go_wp2_with fail
       refine (unhide HV17 _).mono ?_
       rintro e w8 ⟨rfl, hb⟩
       obtain ⟨p0, r0, hh, hbel⟩ := unhide HRv
       replace p0 := p0.on' hb
       replace r0 := r0.on' hb
       replace hh := hh.on' hb
       replace hbel := Below.then hbel hb
       clear hb HRv g5 g6 g7
       by_cases hv : Ps.verE 17 src dst body = 0
       ·have hdv : (Ps.verE 17 src dst body != 0) = false := by rw [hv]; rfl
        have HX := hide (HOK.out hv)
        clear hh hv
        replace p0 : Row _ bp (Pk.cells ⟨1, Ip.sizeH s, Ip.sizeT s, ⟨17, src, dst, ua, ub⟩, 0, ttl, src, dst, 0, 0⟩) := p0
        have pp0 := p0.cell 0 _ rfl
        have pp1 := p0.cell 1 _ rfl
        have pp2 := p0.cell 2 _ rfl
        have pp3 := p0.cell 3 _ rfl
        have pp4 := p0.cell 4 _ rfl
        have pp5 := p0.cell 5 _ rfl
        have pp6 := p0.cell 6 _ rfl
        have pp7 := p0.cell 7 _ rfl
        have pp8 := p0.cell 8 _ rfl
        have pp9 := p0.cell 9 _ rfl
        have pp10 := p0.cell 10 _ rfl
        have pp11 := p0.cell 11 _ rfl
        have pp12 := p0.cell 12 _ rfl
        have pp13 := p0.cell 13 _ rfl
        have c0 := r0.cell 0 _ rfl
        have c1 := r0.cell 1 _ rfl
        have c2 := r0.cell 2 _ rfl
        have c3 := r0.cell 3 _ rfl
        have c4 := r0.cell 4 _ rfl
        have c5 := r0.cell 5 _ rfl
        have c6 := r0.cell 6 _ rfl
        have c7 := r0.cell 7 _ rfl
        have c8 := r0.cell 8 _ rfl
        have c9 := r0.cell 9 _ rfl
        have c10 := r0.cell 10 _ rfl
        have c11 := r0.cell 11 _ rfl
        have c12 := r0.cell 12 _ rfl
        have c13 := r0.cell 13 _ rfl
        have fr := r0.free
        have R := row_all (Pk.cells ⟨1, Ip.sizeH s, Ip.sizeT s, ⟨17, src, dst, ua, ub⟩, 0, ttl, src, dst, 0, 0⟩) r0 rfl
        have B := hbel.trans ((setRow_below (w.heap.size) (Pk.cells ⟨1, Ip.sizeH s, Ip.sizeT s, ⟨17, src, dst, ua, ub⟩, 0, ttl, src, dst, 0, 0⟩) 0 _).mono (Nat.le_refl _))
        simp only [setRow, Nat.zero_add, Nat.reduceAdd] at R B
        have HR9 := hide (And.intro R B)
        clear R B p0 r0 hbel
        go_wp2_with fail
        obtain ⟨R, B⟩ := unhide HR9
        have z0 := R.cell 0 _ rfl
        have z1 := R.cell 1 _ rfl
        have z2 := R.cell 2 _ rfl
        have z3 := R.cell 3 _ rfl
        have z4 := R.cell 4 _ rfl
        have z5 := R.cell 5 _ rfl
        have z6 := R.cell 6 _ rfl
        have z7 := R.cell 7 _ rfl
        have z8 := R.cell 8 _ rfl
        have z9 := R.cell 9 _ rfl
        have z10 := R.cell 10 _ rfl
        have z11 := R.cell 11 _ rfl
        have z12 := R.cell 12 _ rfl
        have z13 := R.cell 13 _ rfl
        refine bodyPost_ret (v := .tuple #[Pk.val ⟨1, Ip.sizeH s, Ip.sizeT s, ⟨17, src, dst, ua, ub⟩, 0, ttl, src, dst, 0, 0⟩, .int .i64 0]) (by simp [results, Tryz.results55, go_sem, z0, z1, z2, z3, z4, z5, z6, z7, z8, z9, z10, z11, z12, z13]) rfl ⟨ret_pe (unhide HX).1.symm (unhide HX).2.symm, B⟩
       ·have hdv : (Ps.verE 17 src dst body != 0) = true := by simpa using hv
        have HX := hide (HNO.out hv)
        clear hv
        have c0 := r0.cell 0 _ rfl
        have c1 := r0.cell 1 _ rfl
        have c2 := r0.cell 2 _ rfl
        have c3 := r0.cell 3 _ rfl
        have c4 := r0.cell 4 _ rfl
        have c5 := r0.cell 5 _ rfl
        have c6 := r0.cell 6 _ rfl
        have c7 := r0.cell 7 _ rfl
        have c8 := r0.cell 8 _ rfl
        have c9 := r0.cell 9 _ rfl
        have c10 := r0.cell 10 _ rfl
        have c11 := r0.cell 11 _ rfl
        have c12 := r0.cell 12 _ rfl
        have c13 := r0.cell 13 _ rfl
        have fr := r0.free
        have R := row_all zeroPk.cells r0 rfl
        have B := hbel.trans ((setRow_below (w.heap.size) zeroPk.cells 0 _).mono (Nat.le_refl _))
        simp only [setRow, zeroPk, zeroTp, Nat.zero_add, Nat.reduceAdd] at R B
        have HR9 := hide (And.intro R B)
        clear R B r0 hh p0 hbel
        go_wp2_with fail
        obtain ⟨R, B⟩ := unhide HR9
        have z0 := R.cell 0 _ rfl
        have z1 := R.cell 1 _ rfl
        have z2 := R.cell 2 _ rfl
        have z3 := R.cell 3 _ rfl
        have z4 := R.cell 4 _ rfl
        have z5 := R.cell 5 _ rfl
        have z6 := R.cell 6 _ rfl
        have z7 := R.cell 7 _ rfl
        have z8 := R.cell 8 _ rfl
        have z9 := R.cell 9 _ rfl
        have z10 := R.cell 10 _ rfl
        have z11 := R.cell 11 _ rfl
        have z12 := R.cell 12 _ rfl
        have z13 := R.cell 13 _ rfl
        refine bodyPost_ret (v := .tuple #[zeroPk.val, .int .i64 (Ps.verE 17 src dst body)]) (by simp [results, Tryz.results55, go_sem, zeroPk, zeroTp, z0, z1, z2, z3, z4, z5, z6, z7, z8, z9, z10, z11, z12, z13]) rfl ⟨ret_pe (unhide HX).1.symm (unhide HX).2.symm, B⟩
      ·have hdt : (UE != 0) = true := by simpa using hte
       have HX := hide (HC1.out hte)
       clear hte HOK HNO HC1
       have c0 := r0.cell 0 _ rfl
       have c1 := r0.cell 1 _ rfl
       have c2 := r0.cell 2 _ rfl
       have c3 := r0.cell 3 _ rfl
       have c4 := r0.cell 4 _ rfl
       have c5 := r0.cell 5 _ rfl
       have c6 := r0.cell 6 _ rfl
       have c7 := r0.cell 7 _ rfl
       have c8 := r0.cell 8 _ rfl
       have c9 := r0.cell 9 _ rfl
       have c10 := r0.cell 10 _ rfl
       have c11 := r0.cell 11 _ rfl
       have c12 := r0.cell 12 _ rfl
       have c13 := r0.cell 13 _ rfl
       have fr := r0.free
       have R := row_all zeroPk.cells r0 rfl
       have B := hbel.trans ((setRow_below (w.heap.size) zeroPk.cells 0 _).mono (Nat.le_refl _))
       simp only [setRow, zeroPk, zeroTp, Nat.zero_add, Nat.reduceAdd] at R B
       have HR9 := hide (And.intro R B)
       clear R B r0 p0 hh hbel
       go_wp2_with fail
       obtain ⟨R, B⟩ := unhide HR9
       have z0 := R.cell 0 _ rfl
       have z1 := R.cell 1 _ rfl
       have z2 := R.cell 2 _ rfl
       have z3 := R.cell 3 _ rfl
       have z4 := R.cell 4 _ rfl
       have z5 := R.cell 5 _ rfl
       have z6 := R.cell 6 _ rfl
       have z7 := R.cell 7 _ rfl
       have z8 := R.cell 8 _ rfl
       have z9 := R.cell 9 _ rfl
       have z10 := R.cell 10 _ rfl
       have z11 := R.cell 11 _ rfl
       have z12 := R.cell 12 _ rfl
       have z13 := R.cell 13 _ rfl
       refine bodyPost_ret (v := .tuple #[zeroPk.val, .int .i64 (UE)]) (by simp [results, Tryz.results55, go_sem, zeroPk, zeroTp, z0, z1, z2, z3, z4, z5, z6, z7, z8, z9, z10, z11, z12, z13]) rfl ⟨ret_pe (unhide HX).1.symm (unhide HX).2.symm, B⟩
     ·exact absurd (unhide HK).2.2 p17
end Go.Proofs.YtpjaajeojiaeiaaGreatDoor

/- What Classify of the reference of chapter 9 computes, one way of it. -/
namespace Go.Proofs.YtpjaajeojiaeiaaGreatDoor
open Go.ChangeShapes Go.WideShapes Go.ChangeAt Go.RowKit

set_option maxRecDepth 100000 in
set_option maxHeartbeats 8000000 in
theorem rclassify_i (s : ByteArray) (w : World) (hs : s.size ≤ 140737488360000) (hK : Ip.parseE s = 0 ∧ frgE s = 0 ∧ (Ip.parseH s).proto = 1) :
  Calls Tryz.prog 55 #[.string s] w fun e w' => e = .returned (.tuple #[(clsP s).val, .int .i64 (clsE s)]) ∧ Below w.heap.size w w' := by
 have hbz := parseS_1500 s
 obtain ⟨⟨fl0, fl1⟩, u1, u2⟩ := parseH_rng s
 obtain ⟨sz0, sz1⟩ := sizeH_rng s
 have HB : Hid (frgE s = 0 → ¬ fragB (Ip.parseH s) = true) := fun h0 hf => by unfold frgE at h0; rw [if_pos hf] at h0; exact absurd h0 (by decide)
 have HK := hide hK
 clear hK
 have HPar := hide (fun u => Ip.rparse_any s u (by omega))
 have HSz := hide (fun u => Ip.rsizes_any s u (by omega))
 have HTc := hide (fun u => Tc.rparse_any (Ip.parseS s) u (by omega))
 have HUd := hide (fun u => Ps.rparse_any (Ip.parseS s) u (by omega))
 have HV6 := hide (fun u => Ps.rpverify_any 6 (Ip.parseH s).src (Ip.parseH s).dst (Ip.parseS s) u u1 u2 (by omega))
 have HV17 := hide (fun u => Ps.rpverify_any 17 (Ip.parseH s).src (Ip.parseH s).dst (Ip.parseS s) u u1 u2 (by omega))
 have HAb : Hid (Ip.parseE s = 0 → frgE s = 0 → (Ip.parseH s).proto = 1 → ∀ u, Calls Tryz.prog 90 #[Pk.val ⟨1, Ip.sizeH s, Ip.sizeT s, ⟨1, (Ip.parseH s).src, (Ip.parseH s).dst, 0, 0⟩, 0, (Ip.parseH s).ttl, (Ip.parseH s).src, (Ip.parseH s).dst, 0, 0⟩, .string (Ip.parseS s)] u fun e w' => e = .returned (.tuple #[(clsP s).val, .int .i64 (clsE s)]) ∧ Below u.heap.size u w') := fun h1 h2 h3 u => by
  have hh := rabout_any ⟨1, Ip.sizeH s, Ip.sizeT s, ⟨1, (Ip.parseH s).src, (Ip.parseH s).dst, 0, 0⟩, 0, (Ip.parseH s).ttl, (Ip.parseH s).src, (Ip.parseH s).dst, 0, 0⟩ (Ip.parseS s) u (by omega) sz0 sz1
  rw [msgP_of ⟨1, Ip.sizeH s, Ip.sizeT s, ⟨1, (Ip.parseH s).src, (Ip.parseH s).dst, 0, 0⟩, 0, (Ip.parseH s).ttl, (Ip.parseH s).src, (Ip.parseH s).dst, 0, 0⟩ (outP s (Ip.parseH s)) (Ip.parseS s) rfl rfl rfl rfl rfl rfl] at hh
  rw [(cls_1 h1 h2 h3).1, (cls_1 h1 h2 h3).2]
  exact hh
 have E0 : Hid (¬ Ip.parseE s = 0 → clsP s = zeroPk ∧ clsE s = Ip.parseE s) := fun h => ⟨by unfold clsP; rw [if_neg (fun h' => h h'.1)], by unfold clsE; rw [first1 h]⟩
 have E1 : Hid (Ip.parseE s = 0 → fragB (Ip.parseH s) = true → clsP s = zeroPk ∧ clsE s = 8) := fun h hf => by
  have h8 : frgE s = 8 := by unfold frgE; rw [if_pos hf]
  exact ⟨by unfold clsP; rw [if_neg (fun h' => by have := h'.2; rw [h8] at this; exact absurd this (by decide))], by unfold clsE; rw [first3' h (by rw [h8]; decide), h8]⟩
 have F0 : Hid (fragB (Ip.parseH s) = false → frgE s = 0) := fun hf => by unfold frgE; rw [if_neg (by rw [hf]; decide)]
 have E6 := hide (fun a b c => cls_6 (s := s) a b c)
 have E17 := hide (fun a b c => cls_17 (s := s) a b c)
 have EM := hide (fun a b c => cls_1 (s := s) a b c)
 have EO := hide (fun a b c d e => cls_o (s := s) a b c d e)
 have HFb : Hid (fragB (Ip.parseH s) = (((Ip.parseH s).flags % 2 != 0) || ((Ip.parseH s).frag != 0))) := rfl
 have kfl : (Ip.parseH s).flags.tmod 2 = (Ip.parseH s).flags % 2 := Int.tmod_eq_emod_of_nonneg fl0
 generalize clsP s = CP at *
 generalize clsE s = CE at *
 generalize hPE : Ip.parseE s = PE at *
 generalize hhd : Ip.parseH s = h at *
 generalize Ip.parseS s = body at *
 obtain ⟨tos, id, fl, fg, ttl, proto, src, dst, opts⟩ := h
 simp only at *
 go_enter Tryz.func55, Tryz.ntmps55
 go_wp2_with fail
 refine (unhide HPar _).mono ?_
 rintro e w1 ⟨rfl, hb⟩
 have r0 : Row w1 (w.heap.size) zeroPk.cells := (row_new w zeroPk.cells 62).on' hb
 have hbel : Below w.heap.size w w1 := Below.then (alloc_on w (.cells zeroPk.cells.toArray 62)) hb
 have hn := alloc_on w1 (.cells #[.int .i64 tos, .int .i64 id, .int .i64 fl, .int .i64 fg, .int .i64 ttl, .int .i64 proto, .int .u32 src, .int .u32 dst, .string opts] 54)
 have hh := row_new w1 [.int .i64 tos, .int .i64 id, .int .i64 fl, .int .i64 fg, .int .i64 ttl, .int .i64 proto, .int .u32 src, .int .u32 dst, .string opts] 54
 have hlt0 := r0.lt
 obtain ⟨WW, eW⟩ : ∃ V, w1.alloc (.cells #[.int .i64 tos, .int .i64 id, .int .i64 fl, .int .i64 fg, .int .i64 ttl, .int .i64 proto, .int .u32 src, .int .u32 dst, .string opts] 54) = V := ⟨_, rfl⟩
 rw [eW] at hn hh
 replace r0 := r0.on' hn
 replace hbel := Below.then hbel hn
 obtain ⟨bh, hbh⟩ : ∃ bh, w1.heap.size = bh := ⟨_, rfl⟩
 rw [hbh] at hh hlt0
 have HR := hide (And.intro hh (And.intro r0 hbel))
 have c2 := hh.cell 2 _ rfl
 have c3 := hh.cell 3 _ rfl
 have c4 := hh.cell 4 _ rfl
 have c5 := hh.cell 5 _ rfl
 have c6 := hh.cell 6 _ rfl
 have c7 := hh.cell 7 _ rfl
 clear hh r0 hbel hb hn HPar
 by_cases hpe : PE = 0
 case neg =>
  exact absurd (unhide HK).1 hpe
 case pos =>
  have hd : (PE != 0) = false := by rw [hpe]; rfl
  cases t1 : (fl % 2 == 1) with
  | true =>
   have hf : fragB ⟨tos, id, fl, fg, ttl, proto, src, dst, opts⟩ = true := by
    have e : fl % 2 = 1 := by simpa using t1
    rw [HFb.out]; simp [e]
   exact absurd hf (HB.out (unhide HK).2.1)
  | false =>
   cases t2 : (fg != 0) with
   | true =>
    have hf : fragB ⟨tos, id, fl, fg, ttl, proto, src, dst, opts⟩ = true := by
     rw [HFb.out, t2]; simp
    exact absurd hf (HB.out (unhide HK).2.1)
   | false =>
    have hf : fragB ⟨tos, id, fl, fg, ttl, proto, src, dst, opts⟩ = false := by
     have e : ¬ fl % 2 = 1 := by simpa using t1
     have e2 : fl % 2 = 0 := by omega
     rw [HFb.out, t2, e2]; rfl
    have HF0 := hide (F0.out hf)
    have HPE := hide hpe
    clear E0 E1 F0 hf hpe HFb
    go_wp2_with fail
    refine (unhide HSz _).mono ?_
    rintro e WW ⟨rfl, rfl⟩
    obtain ⟨hh, r0, hbel⟩ := unhide HR
    clear HR
    have hlt1 := hh.lt
    by_cases p6 : proto = 6
    ·exact absurd (p6.symm.trans (unhide HK).2.2) (by decide)
    ·have t6 : (proto == 6) = false := by simpa using p6
     by_cases p17 : proto = 17
     ·exact absurd (p17.symm.trans (unhide HK).2.2) (by decide)
     ·have t17 : (proto == 17) = false := by simpa using p17
      by_cases p1 : proto = 1
      ·subst p1
       have HAb2 := hide (unhide HAb (unhide HPE) (unhide HF0) rfl)
       clear HAb
       clear E6 E17 EM EO HV6 HV17 HTc HUd
       have hn := alloc_on WW (.cells zeroPk.cells.toArray 62)
       have pz := row_new WW zeroPk.cells 62
       obtain ⟨WZ, eZ⟩ : ∃ V, WW.alloc (.cells zeroPk.cells.toArray 62) = V := ⟨_, rfl⟩
       rw [eZ] at hn pz
       simp only [zeroPk, zeroTp] at eZ
       replace hh := hh.on' hn
       replace r0 := r0.on' hn
       replace hbel := Below.then hbel hn
       obtain ⟨bp, hbp⟩ : ∃ bp, WW.heap.size = bp := ⟨_, rfl⟩
       rw [hbp] at pz hlt1
       have e4 := hh.cell 4 _ rfl
       have e5 := hh.cell 5 _ rfl
       have e6 := hh.cell 6 _ rfl
       have e7 := hh.cell 7 _ rfl
       have zc0 := pz.cell 0 _ rfl
       have zc1 := pz.cell 1 _ rfl
       have zc2 := pz.cell 2 _ rfl
       have zc3 := pz.cell 3 _ rfl
       have zc4 := pz.cell 4 _ rfl
       have zc5 := pz.cell 5 _ rfl
       have zc6 := pz.cell 6 _ rfl
       have zc7 := pz.cell 7 _ rfl
       have zc8 := pz.cell 8 _ rfl
       have zc9 := pz.cell 9 _ rfl
       have zc10 := pz.cell 10 _ rfl
       have zc11 := pz.cell 11 _ rfl
       have zc12 := pz.cell 12 _ rfl
       have zc13 := pz.cell 13 _ rfl
       have zf := pz.free
       have p0 := row_all (Pk.cells ⟨1, Ip.sizeH s, Ip.sizeT s, ⟨1, src, dst, 0, 0⟩, 0, ttl, src, dst, 0, 0⟩) pz rfl
       replace hh := hh.of_block (W' := setRow WZ bp 0 (Pk.cells ⟨1, Ip.sizeH s, Ip.sizeT s, ⟨1, src, dst, 0, 0⟩, 0, ttl, src, dst, 0, 0⟩)) (setRow_heap _ _ (by omega) _ _ _)
       replace r0 := r0.of_block (W' := setRow WZ bp 0 (Pk.cells ⟨1, Ip.sizeH s, Ip.sizeT s, ⟨1, src, dst, 0, 0⟩, 0, ttl, src, dst, 0, 0⟩)) (setRow_heap _ _ (by omega) _ _ _)
       replace hbel := hbel.trans ((setRow_below bp (Pk.cells ⟨1, Ip.sizeH s, Ip.sizeT s, ⟨1, src, dst, 0, 0⟩, 0, ttl, src, dst, 0, 0⟩) 0 WZ).mono (by omega))
       obtain ⟨W3, eP⟩ : ∃ V, setRow WZ bp 0 (Pk.cells ⟨1, Ip.sizeH s, Ip.sizeT s, ⟨1, src, dst, 0, 0⟩, 0, ttl, src, dst, 0, 0⟩) = V := ⟨_, rfl⟩
       rw [eP] at p0 hh r0 hbel
       simp only [setRow, Nat.zero_add, Nat.reduceAdd] at eP
       have d5 := hh.cell 5 _ rfl
       have d6 := hh.cell 6 _ rfl
       have d7 := hh.cell 7 _ rfl
       clear hn pz
       have pp0 := p0.cell 0 _ rfl
       have pp1 := p0.cell 1 _ rfl
       have pp2 := p0.cell 2 _ rfl
       have pp3 := p0.cell 3 _ rfl
       have pp4 := p0.cell 4 _ rfl
       have pp5 := p0.cell 5 _ rfl
       have pp6 := p0.cell 6 _ rfl
       have pp7 := p0.cell 7 _ rfl
       have pp8 := p0.cell 8 _ rfl
       have pp9 := p0.cell 9 _ rfl
       have pp10 := p0.cell 10 _ rfl
       have pp11 := p0.cell 11 _ rfl
       have pp12 := p0.cell 12 _ rfl
       have pp13 := p0.cell 13 _ rfl
       have HR := hide (And.intro r0 hbel)
       clear p0 r0 hh hbel
       go_wp2_with fail
       refine (unhide HAb2 _).mono ?_
       rintro e w4 ⟨rfl, hb⟩
       obtain ⟨r0, hbel⟩ := unhide HR
       replace r0 := r0.on' hb
       replace hbel := Below.then hbel hb
       clear hb HR pp0 pp1 pp2 pp3 pp4 pp5 pp6 pp7 pp8 pp9 pp10 pp11 pp12 pp13
       have c0 := r0.cell 0 _ rfl
       have c1 := r0.cell 1 _ rfl
       have c2 := r0.cell 2 _ rfl
       have c3 := r0.cell 3 _ rfl
       have c4 := r0.cell 4 _ rfl
       have c5 := r0.cell 5 _ rfl
       have c6 := r0.cell 6 _ rfl
       have c7 := r0.cell 7 _ rfl
       have c8 := r0.cell 8 _ rfl
       have c9 := r0.cell 9 _ rfl
       have c10 := r0.cell 10 _ rfl
       have c11 := r0.cell 11 _ rfl
       have c12 := r0.cell 12 _ rfl
       have c13 := r0.cell 13 _ rfl
       have fr := r0.free
       have R := row_all CP.cells r0 rfl
       have B := hbel.trans ((setRow_below (w.heap.size) CP.cells 0 w4).mono (Nat.le_refl _))
       simp only [setRow, Nat.zero_add, Nat.reduceAdd] at R B
       have HR9 := hide (And.intro R B)
       clear R B r0 hbel
       go_wp2_with fail
       obtain ⟨R, B⟩ := unhide HR9
       have z0 := R.cell 0 _ rfl
       have z1 := R.cell 1 _ rfl
       have z2 := R.cell 2 _ rfl
       have z3 := R.cell 3 _ rfl
       have z4 := R.cell 4 _ rfl
       have z5 := R.cell 5 _ rfl
       have z6 := R.cell 6 _ rfl
       have z7 := R.cell 7 _ rfl
       have z8 := R.cell 8 _ rfl
       have z9 := R.cell 9 _ rfl
       have z10 := R.cell 10 _ rfl
       have z11 := R.cell 11 _ rfl
       have z12 := R.cell 12 _ rfl
       have z13 := R.cell 13 _ rfl
       refine bodyPost_ret (v := .tuple #[CP.val, .int .i64 CE]) (by simp [results, Tryz.results55, go_sem, z0, z1, z2, z3, z4, z5, z6, z7, z8, z9, z10, z11, z12, z13]) rfl ⟨rfl, B⟩
      ·exact absurd (unhide HK).2.2 p1
end Go.Proofs.YtpjaajeojiaeiaaGreatDoor

/- What Classify of the reference of chapter 9 computes, one way of it. -/
namespace Go.Proofs.YtpjaajeojiaeiaaGreatDoor
open Go.ChangeShapes Go.WideShapes Go.ChangeAt Go.RowKit

set_option maxRecDepth 100000 in
set_option maxHeartbeats 8000000 in
theorem rclassify_o (s : ByteArray) (w : World) (hs : s.size ≤ 140737488360000) (hK : Ip.parseE s = 0 ∧ frgE s = 0 ∧ ¬ (Ip.parseH s).proto = 6 ∧ ¬ (Ip.parseH s).proto = 17 ∧ ¬ (Ip.parseH s).proto = 1) :
  Calls Tryz.prog 55 #[.string s] w fun e w' => e = .returned (.tuple #[(clsP s).val, .int .i64 (clsE s)]) ∧ Below w.heap.size w w' := by
 have hbz := parseS_1500 s
 obtain ⟨⟨fl0, fl1⟩, u1, u2⟩ := parseH_rng s
 obtain ⟨sz0, sz1⟩ := sizeH_rng s
 have HB : Hid (frgE s = 0 → ¬ fragB (Ip.parseH s) = true) := fun h0 hf => by unfold frgE at h0; rw [if_pos hf] at h0; exact absurd h0 (by decide)
 have HK := hide hK
 clear hK
 have HPar := hide (fun u => Ip.rparse_any s u (by omega))
 have HSz := hide (fun u => Ip.rsizes_any s u (by omega))
 have HTc := hide (fun u => Tc.rparse_any (Ip.parseS s) u (by omega))
 have HUd := hide (fun u => Ps.rparse_any (Ip.parseS s) u (by omega))
 have HV6 := hide (fun u => Ps.rpverify_any 6 (Ip.parseH s).src (Ip.parseH s).dst (Ip.parseS s) u u1 u2 (by omega))
 have HV17 := hide (fun u => Ps.rpverify_any 17 (Ip.parseH s).src (Ip.parseH s).dst (Ip.parseS s) u u1 u2 (by omega))
 have HAb : Hid (Ip.parseE s = 0 → frgE s = 0 → (Ip.parseH s).proto = 1 → ∀ u, Calls Tryz.prog 90 #[Pk.val ⟨1, Ip.sizeH s, Ip.sizeT s, ⟨1, (Ip.parseH s).src, (Ip.parseH s).dst, 0, 0⟩, 0, (Ip.parseH s).ttl, (Ip.parseH s).src, (Ip.parseH s).dst, 0, 0⟩, .string (Ip.parseS s)] u fun e w' => e = .returned (.tuple #[(clsP s).val, .int .i64 (clsE s)]) ∧ Below u.heap.size u w') := fun h1 h2 h3 u => by
  have hh := rabout_any ⟨1, Ip.sizeH s, Ip.sizeT s, ⟨1, (Ip.parseH s).src, (Ip.parseH s).dst, 0, 0⟩, 0, (Ip.parseH s).ttl, (Ip.parseH s).src, (Ip.parseH s).dst, 0, 0⟩ (Ip.parseS s) u (by omega) sz0 sz1
  rw [msgP_of ⟨1, Ip.sizeH s, Ip.sizeT s, ⟨1, (Ip.parseH s).src, (Ip.parseH s).dst, 0, 0⟩, 0, (Ip.parseH s).ttl, (Ip.parseH s).src, (Ip.parseH s).dst, 0, 0⟩ (outP s (Ip.parseH s)) (Ip.parseS s) rfl rfl rfl rfl rfl rfl] at hh
  rw [(cls_1 h1 h2 h3).1, (cls_1 h1 h2 h3).2]
  exact hh
 have E0 : Hid (¬ Ip.parseE s = 0 → clsP s = zeroPk ∧ clsE s = Ip.parseE s) := fun h => ⟨by unfold clsP; rw [if_neg (fun h' => h h'.1)], by unfold clsE; rw [first1 h]⟩
 have E1 : Hid (Ip.parseE s = 0 → fragB (Ip.parseH s) = true → clsP s = zeroPk ∧ clsE s = 8) := fun h hf => by
  have h8 : frgE s = 8 := by unfold frgE; rw [if_pos hf]
  exact ⟨by unfold clsP; rw [if_neg (fun h' => by have := h'.2; rw [h8] at this; exact absurd this (by decide))], by unfold clsE; rw [first3' h (by rw [h8]; decide), h8]⟩
 have F0 : Hid (fragB (Ip.parseH s) = false → frgE s = 0) := fun hf => by unfold frgE; rw [if_neg (by rw [hf]; decide)]
 have E6 := hide (fun a b c => cls_6 (s := s) a b c)
 have E17 := hide (fun a b c => cls_17 (s := s) a b c)
 have EM := hide (fun a b c => cls_1 (s := s) a b c)
 have EO := hide (fun a b c d e => cls_o (s := s) a b c d e)
 have HFb : Hid (fragB (Ip.parseH s) = (((Ip.parseH s).flags % 2 != 0) || ((Ip.parseH s).frag != 0))) := rfl
 have kfl : (Ip.parseH s).flags.tmod 2 = (Ip.parseH s).flags % 2 := Int.tmod_eq_emod_of_nonneg fl0
 generalize clsP s = CP at *
 generalize clsE s = CE at *
 generalize hPE : Ip.parseE s = PE at *
 generalize hhd : Ip.parseH s = h at *
 generalize Ip.parseS s = body at *
 obtain ⟨tos, id, fl, fg, ttl, proto, src, dst, opts⟩ := h
 simp only at *
 go_enter Tryz.func55, Tryz.ntmps55
 go_wp2_with fail
 refine (unhide HPar _).mono ?_
 rintro e w1 ⟨rfl, hb⟩
 have r0 : Row w1 (w.heap.size) zeroPk.cells := (row_new w zeroPk.cells 62).on' hb
 have hbel : Below w.heap.size w w1 := Below.then (alloc_on w (.cells zeroPk.cells.toArray 62)) hb
 have hn := alloc_on w1 (.cells #[.int .i64 tos, .int .i64 id, .int .i64 fl, .int .i64 fg, .int .i64 ttl, .int .i64 proto, .int .u32 src, .int .u32 dst, .string opts] 54)
 have hh := row_new w1 [.int .i64 tos, .int .i64 id, .int .i64 fl, .int .i64 fg, .int .i64 ttl, .int .i64 proto, .int .u32 src, .int .u32 dst, .string opts] 54
 have hlt0 := r0.lt
 obtain ⟨WW, eW⟩ : ∃ V, w1.alloc (.cells #[.int .i64 tos, .int .i64 id, .int .i64 fl, .int .i64 fg, .int .i64 ttl, .int .i64 proto, .int .u32 src, .int .u32 dst, .string opts] 54) = V := ⟨_, rfl⟩
 rw [eW] at hn hh
 replace r0 := r0.on' hn
 replace hbel := Below.then hbel hn
 obtain ⟨bh, hbh⟩ : ∃ bh, w1.heap.size = bh := ⟨_, rfl⟩
 rw [hbh] at hh hlt0
 have HR := hide (And.intro hh (And.intro r0 hbel))
 have c2 := hh.cell 2 _ rfl
 have c3 := hh.cell 3 _ rfl
 have c4 := hh.cell 4 _ rfl
 have c5 := hh.cell 5 _ rfl
 have c6 := hh.cell 6 _ rfl
 have c7 := hh.cell 7 _ rfl
 clear hh r0 hbel hb hn HPar
 by_cases hpe : PE = 0
 case neg =>
  exact absurd (unhide HK).1 hpe
 case pos =>
  have hd : (PE != 0) = false := by rw [hpe]; rfl
  cases t1 : (fl % 2 == 1) with
  | true =>
   have hf : fragB ⟨tos, id, fl, fg, ttl, proto, src, dst, opts⟩ = true := by
    have e : fl % 2 = 1 := by simpa using t1
    rw [HFb.out]; simp [e]
   exact absurd hf (HB.out (unhide HK).2.1)
  | false =>
   cases t2 : (fg != 0) with
   | true =>
    have hf : fragB ⟨tos, id, fl, fg, ttl, proto, src, dst, opts⟩ = true := by
     rw [HFb.out, t2]; simp
    exact absurd hf (HB.out (unhide HK).2.1)
   | false =>
    have hf : fragB ⟨tos, id, fl, fg, ttl, proto, src, dst, opts⟩ = false := by
     have e : ¬ fl % 2 = 1 := by simpa using t1
     have e2 : fl % 2 = 0 := by omega
     rw [HFb.out, t2, e2]; rfl
    have HF0 := hide (F0.out hf)
    have HPE := hide hpe
    clear E0 E1 F0 hf hpe HFb
    go_wp2_with fail
    refine (unhide HSz _).mono ?_
    rintro e WW ⟨rfl, rfl⟩
    obtain ⟨hh, r0, hbel⟩ := unhide HR
    clear HR
    have hlt1 := hh.lt
    by_cases p6 : proto = 6
    ·exact absurd p6 (unhide HK).2.2.1
    ·have t6 : (proto == 6) = false := by simpa using p6
     by_cases p17 : proto = 17
     ·exact absurd p17 (unhide HK).2.2.2.1
     ·have t17 : (proto == 17) = false := by simpa using p17
      by_cases p1 : proto = 1
      ·exact absurd p1 (unhide HK).2.2.2.2
      ·have t1' : (proto == 1) = false := by simpa using p1
       have HX := hide (unhide EO (unhide HPE) (unhide HF0) p6 p17 p1)
       have hn := alloc_on WW (.cells zeroPk.cells.toArray 62)
       have pz := row_new WW zeroPk.cells 62
       obtain ⟨WZ, eZ⟩ : ∃ V, WW.alloc (.cells zeroPk.cells.toArray 62) = V := ⟨_, rfl⟩
       rw [eZ] at hn pz
       simp only [zeroPk, zeroTp] at eZ
       replace hh := hh.on' hn
       replace r0 := r0.on' hn
       replace hbel := Below.then hbel hn
       obtain ⟨bp, hbp⟩ : ∃ bp, WW.heap.size = bp := ⟨_, rfl⟩
       rw [hbp] at pz hlt1
       have e4 := hh.cell 4 _ rfl
       have e5 := hh.cell 5 _ rfl
       have e6 := hh.cell 6 _ rfl
       have e7 := hh.cell 7 _ rfl
       have zc0 := pz.cell 0 _ rfl
       have zc1 := pz.cell 1 _ rfl
       have zc2 := pz.cell 2 _ rfl
       have zc3 := pz.cell 3 _ rfl
       have zc4 := pz.cell 4 _ rfl
       have zc5 := pz.cell 5 _ rfl
       have zc6 := pz.cell 6 _ rfl
       have zc7 := pz.cell 7 _ rfl
       have zc8 := pz.cell 8 _ rfl
       have zc9 := pz.cell 9 _ rfl
       have zc10 := pz.cell 10 _ rfl
       have zc11 := pz.cell 11 _ rfl
       have zc12 := pz.cell 12 _ rfl
       have zc13 := pz.cell 13 _ rfl
       have zf := pz.free
       have p0 := row_all (Pk.cells ⟨1, Ip.sizeH s, Ip.sizeT s, ⟨proto, src, dst, 0, 0⟩, 0, ttl, src, dst, 0, 0⟩) pz rfl
       replace hh := hh.of_block (W' := setRow WZ bp 0 (Pk.cells ⟨1, Ip.sizeH s, Ip.sizeT s, ⟨proto, src, dst, 0, 0⟩, 0, ttl, src, dst, 0, 0⟩)) (setRow_heap _ _ (by omega) _ _ _)
       replace r0 := r0.of_block (W' := setRow WZ bp 0 (Pk.cells ⟨1, Ip.sizeH s, Ip.sizeT s, ⟨proto, src, dst, 0, 0⟩, 0, ttl, src, dst, 0, 0⟩)) (setRow_heap _ _ (by omega) _ _ _)
       replace hbel := hbel.trans ((setRow_below bp (Pk.cells ⟨1, Ip.sizeH s, Ip.sizeT s, ⟨proto, src, dst, 0, 0⟩, 0, ttl, src, dst, 0, 0⟩) 0 WZ).mono (by omega))
       obtain ⟨W3, eP⟩ : ∃ V, setRow WZ bp 0 (Pk.cells ⟨1, Ip.sizeH s, Ip.sizeT s, ⟨proto, src, dst, 0, 0⟩, 0, ttl, src, dst, 0, 0⟩) = V := ⟨_, rfl⟩
       rw [eP] at p0 hh r0 hbel
       simp only [setRow, Nat.zero_add, Nat.reduceAdd] at eP
       have d5 := hh.cell 5 _ rfl
       have d6 := hh.cell 6 _ rfl
       have d7 := hh.cell 7 _ rfl
       clear hn pz
       clear d6 d7 E6 E17 EM EO
       have c0 := r0.cell 0 _ rfl
       have c1 := r0.cell 1 _ rfl
       have c2 := r0.cell 2 _ rfl
       have c3 := r0.cell 3 _ rfl
       have c4 := r0.cell 4 _ rfl
       have c5 := r0.cell 5 _ rfl
       have c6 := r0.cell 6 _ rfl
       have c7 := r0.cell 7 _ rfl
       have c8 := r0.cell 8 _ rfl
       have c9 := r0.cell 9 _ rfl
       have c10 := r0.cell 10 _ rfl
       have c11 := r0.cell 11 _ rfl
       have c12 := r0.cell 12 _ rfl
       have c13 := r0.cell 13 _ rfl
       have fr := r0.free
       have R := row_all zeroPk.cells r0 rfl
       have B := hbel.trans ((setRow_below (w.heap.size) zeroPk.cells 0 _).mono (Nat.le_refl _))
       simp only [setRow, zeroPk, zeroTp, Nat.zero_add, Nat.reduceAdd] at R B
       have HR9 := hide (And.intro R B)
       clear R B r0 p0 hh hbel
       go_wp2_with fail
       obtain ⟨R, B⟩ := unhide HR9
       have z0 := R.cell 0 _ rfl
       have z1 := R.cell 1 _ rfl
       have z2 := R.cell 2 _ rfl
       have z3 := R.cell 3 _ rfl
       have z4 := R.cell 4 _ rfl
       have z5 := R.cell 5 _ rfl
       have z6 := R.cell 6 _ rfl
       have z7 := R.cell 7 _ rfl
       have z8 := R.cell 8 _ rfl
       have z9 := R.cell 9 _ rfl
       have z10 := R.cell 10 _ rfl
       have z11 := R.cell 11 _ rfl
       have z12 := R.cell 12 _ rfl
       have z13 := R.cell 13 _ rfl
       refine bodyPost_ret (v := .tuple #[zeroPk.val, .int .i64 (9)]) (by simp [results, Tryz.results55, go_sem, zeroPk, zeroTp, z0, z1, z2, z3, z4, z5, z6, z7, z8, z9, z10, z11, z12, z13]) rfl ⟨ret_pe (unhide HX).1.symm (unhide HX).2.symm, B⟩
end Go.Proofs.YtpjaajeojiaeiaaGreatDoor

/- What Classify of the reference of chapter 9 computes: the same as the program's. -/
namespace Go.Proofs.YtpjaajeojiaeiaaGreatDoor
open Go.ChangeShapes Go.WideShapes Go.ChangeAt Go.RowKit

theorem rclassify_any (s : ByteArray) (w : World) (hs : s.size ≤ 140737488360000) :
  Calls Tryz.prog 55 #[.string s] w fun e w' => e = .returned (.tuple #[(clsP s).val, .int .i64 (clsE s)]) ∧ Below w.heap.size w w' := by
 by_cases h0 : Ip.parseE s = 0 ∧ frgE s = 0
 ·by_cases h6 : (Ip.parseH s).proto = 6
  ·exact rclassify_t s w hs ⟨h0.1, h0.2, h6⟩
  ·by_cases h17 : (Ip.parseH s).proto = 17
   ·exact rclassify_u s w hs ⟨h0.1, h0.2, h17⟩
   ·by_cases h1 : (Ip.parseH s).proto = 1
    ·exact rclassify_i s w hs ⟨h0.1, h0.2, h1⟩
    ·exact rclassify_o s w hs ⟨h0.1, h0.2, h6, h17, h1⟩
 ·exact rclassify_a s w hs h0
end Go.Proofs.YtpjaajeojiaeiaaGreatDoor
