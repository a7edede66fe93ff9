/- What Classify of the reference of chapter 9 computes, one way of it. -/
import Derived.Test.YtpjaajeojiaeiaaGreatDoorPkRefC0
namespace Go.Proofs.YtpjaajeojiaeiaaGreatDoor
open Go.ChangeShapes Go.WideShapes Go.ChangeAt Go.RowKit

set_option maxRecDepth 100000 in
set_option maxHeartbeats 8000000 in
theorem rclassify_o (s : ByteArray) (w : World) (hs : s.size ≤ 140737488360000) (hK : Ip.parseE s = 0 ∧ frgE s = 0 ∧ ¬ (Ip.parseH s).proto = 6 ∧ ¬ (Ip.parseH s).proto = 17 ∧ ¬ (Ip.parseH s).proto = 1) :
    Calls Tryz.prog 55 #[.string s] w fun e w' => e = .returned (.tuple #[(clsP s).val, .int .i64 (clsE s)]) ∧ Below w.heap.size w w' := by
  have hbz := parseS_1500 s
  obtain ⟨⟨fl0, fl1⟩, u1, u2⟩ := parseH_rng s
  obtain ⟨sz0, sz1⟩ := sizeH_rng s
  have HB : Hid (frgE s = 0 → ¬ fragB (Ip.parseH s) = true) := fun h0 hf => by unfold frgE at h0; rw [if_pos hf] at h0; exact absurd h0 (by decide)
  have HK := hide hK
  clear hK
  have HPar := hide (fun u => Ip.rparse_any s u (by omega))
  have HSz := hide (fun u => Ip.rsizes_any s u (by omega))
  have HTc := hide (fun u => Tc.rparse_any (Ip.parseS s) u (by omega))
  have HUd := hide (fun u => Ps.rparse_any (Ip.parseS s) u (by omega))
  have HV6 := hide (fun u => Ps.rpverify_any 6 (Ip.parseH s).src (Ip.parseH s).dst (Ip.parseS s) u u1 u2 (by omega))
  have HV17 := hide (fun u => Ps.rpverify_any 17 (Ip.parseH s).src (Ip.parseH s).dst (Ip.parseS s) u u1 u2 (by omega))
  have HAb : Hid (Ip.parseE s = 0 → frgE s = 0 → (Ip.parseH s).proto = 1 → ∀ u, Calls Tryz.prog 90 #[Pk.val ⟨1, Ip.sizeH s, Ip.sizeT s, ⟨1, (Ip.parseH s).src, (Ip.parseH s).dst, 0, 0⟩, 0, (Ip.parseH s).ttl, (Ip.parseH s).src, (Ip.parseH s).dst, 0, 0⟩, .string (Ip.parseS s)] u fun e w' => e = .returned (.tuple #[(clsP s).val, .int .i64 (clsE s)]) ∧ Below u.heap.size u w') := fun h1 h2 h3 u => by
    have hh := rabout_any ⟨1, Ip.sizeH s, Ip.sizeT s, ⟨1, (Ip.parseH s).src, (Ip.parseH s).dst, 0, 0⟩, 0, (Ip.parseH s).ttl, (Ip.parseH s).src, (Ip.parseH s).dst, 0, 0⟩ (Ip.parseS s) u (by omega) sz0 sz1
    rw [msgP_of ⟨1, Ip.sizeH s, Ip.sizeT s, ⟨1, (Ip.parseH s).src, (Ip.parseH s).dst, 0, 0⟩, 0, (Ip.parseH s).ttl, (Ip.parseH s).src, (Ip.parseH s).dst, 0, 0⟩ (outP s (Ip.parseH s)) (Ip.parseS s) rfl rfl rfl rfl rfl rfl] at hh
    rw [(cls_1 h1 h2 h3).1, (cls_1 h1 h2 h3).2]
    exact hh
  have E0 : Hid (¬ Ip.parseE s = 0 → clsP s = zeroPk ∧ clsE s = Ip.parseE s) := fun h => ⟨by unfold clsP; rw [if_neg (fun h' => h h'.1)], by unfold clsE; rw [first1 h]⟩
  have E1 : Hid (Ip.parseE s = 0 → fragB (Ip.parseH s) = true → clsP s = zeroPk ∧ clsE s = 8) := fun h hf => by
    have h8 : frgE s = 8 := by unfold frgE; rw [if_pos hf]
    exact ⟨by unfold clsP; rw [if_neg (fun h' => by have := h'.2; rw [h8] at this; exact absurd this (by decide))], by unfold clsE; rw [first3' h (by rw [h8]; decide), h8]⟩
  have F0 : Hid (fragB (Ip.parseH s) = false → frgE s = 0) := fun hf => by unfold frgE; rw [if_neg (by rw [hf]; decide)]
  have E6 := hide (fun a b c => cls_6 (s := s) a b c)
  have E17 := hide (fun a b c => cls_17 (s := s) a b c)
  have EM := hide (fun a b c => cls_1 (s := s) a b c)
  have EO := hide (fun a b c d e => cls_o (s := s) a b c d e)
  have HFb : Hid (fragB (Ip.parseH s) = (((Ip.parseH s).flags % 2 != 0) || ((Ip.parseH s).frag != 0))) := rfl
  have kfl : (Ip.parseH s).flags.tmod 2 = (Ip.parseH s).flags % 2 := Int.tmod_eq_emod_of_nonneg fl0
  generalize clsP s = CP at *
  generalize clsE s = CE at *
  generalize hPE : Ip.parseE s = PE at *
  generalize hhd : Ip.parseH s = h at *
  generalize Ip.parseS s = body at *
  obtain ⟨tos, id, fl, fg, ttl, proto, src, dst, opts⟩ := h
  simp only at *
  go_enter Tryz.func55, Tryz.ntmps55
  go_wp2_with fail
  refine (unhide HPar _).mono ?_
  rintro e w1 ⟨rfl, hb⟩
  have r0 : Row w1 (w.heap.size) zeroPk.cells := (row_new w zeroPk.cells 62).on' hb
  have hbel : Below w.heap.size w w1 := Below.then (alloc_on w (.cells zeroPk.cells.toArray 62)) hb
  have hn := alloc_on w1 (.cells #[.int .i64 tos, .int .i64 id, .int .i64 fl, .int .i64 fg, .int .i64 ttl, .int .i64 proto, .int .u32 src, .int .u32 dst, .string opts] 54)
  have hh := row_new w1 [.int .i64 tos, .int .i64 id, .int .i64 fl, .int .i64 fg, .int .i64 ttl, .int .i64 proto, .int .u32 src, .int .u32 dst, .string opts] 54
  have hlt0 := r0.lt
  obtain ⟨WW, eW⟩ : ∃ V, w1.alloc (.cells #[.int .i64 tos, .int .i64 id, .int .i64 fl, .int .i64 fg, .int .i64 ttl, .int .i64 proto, .int .u32 src, .int .u32 dst, .string opts] 54) = V := ⟨_, rfl⟩
  rw [eW] at hn hh
  replace r0 := r0.on' hn
  replace hbel := Below.then hbel hn
  obtain ⟨bh, hbh⟩ : ∃ bh, w1.heap.size = bh := ⟨_, rfl⟩
  rw [hbh] at hh hlt0
  have HR := hide (And.intro hh (And.intro r0 hbel))
  have c2 := hh.cell 2 _ rfl
  have c3 := hh.cell 3 _ rfl
  have c4 := hh.cell 4 _ rfl
  have c5 := hh.cell 5 _ rfl
  have c6 := hh.cell 6 _ rfl
  have c7 := hh.cell 7 _ rfl
  clear hh r0 hbel hb hn HPar
  by_cases hpe : PE = 0
  case neg =>
    exact absurd (unhide HK).1 hpe
  case pos =>
    have hd : (PE != 0) = false := by rw [hpe]; rfl
    cases t1 : (fl % 2 == 1) with
    | true =>
      have hf : fragB ⟨tos, id, fl, fg, ttl, proto, src, dst, opts⟩ = true := by
        have e : fl % 2 = 1 := by simpa using t1
        rw [HFb.out]; simp [e]
      exact absurd hf (HB.out (unhide HK).2.1)
    | false =>
      cases t2 : (fg != 0) with
      | true =>
        have hf : fragB ⟨tos, id, fl, fg, ttl, proto, src, dst, opts⟩ = true := by
          rw [HFb.out, t2]; simp
        exact absurd hf (HB.out (unhide HK).2.1)
      | false =>
        have hf : fragB ⟨tos, id, fl, fg, ttl, proto, src, dst, opts⟩ = false := by
          have e : ¬ fl % 2 = 1 := by simpa using t1
          have e2 : fl % 2 = 0 := by omega
          rw [HFb.out, t2, e2]; rfl
        have HF0 := hide (F0.out hf)
        have HPE := hide hpe
        clear E0 E1 F0 hf hpe HFb
        go_wp2_with fail
        refine (unhide HSz _).mono ?_
        rintro e WW ⟨rfl, rfl⟩
        obtain ⟨hh, r0, hbel⟩ := unhide HR
        clear HR
        have hlt1 := hh.lt
        by_cases p6 : proto = 6
        · exact absurd p6 (unhide HK).2.2.1
        · have t6 : (proto == 6) = false := by simpa using p6
          by_cases p17 : proto = 17
          · exact absurd p17 (unhide HK).2.2.2.1
          · have t17 : (proto == 17) = false := by simpa using p17
            by_cases p1 : proto = 1
            · exact absurd p1 (unhide HK).2.2.2.2
            · have t1' : (proto == 1) = false := by simpa using p1
              have HX := hide (unhide EO (unhide HPE) (unhide HF0) p6 p17 p1)
              have hn := alloc_on WW (.cells zeroPk.cells.toArray 62)
              have pz := row_new WW zeroPk.cells 62
              obtain ⟨WZ, eZ⟩ : ∃ V, WW.alloc (.cells zeroPk.cells.toArray 62) = V := ⟨_, rfl⟩
              rw [eZ] at hn pz
              simp only [zeroPk, zeroTp] at eZ
              replace hh := hh.on' hn
              replace r0 := r0.on' hn
              replace hbel := Below.then hbel hn
              obtain ⟨bp, hbp⟩ : ∃ bp, WW.heap.size = bp := ⟨_, rfl⟩
              rw [hbp] at pz hlt1
              have e4 := hh.cell 4 _ rfl
              have e5 := hh.cell 5 _ rfl
              have e6 := hh.cell 6 _ rfl
              have e7 := hh.cell 7 _ rfl
              have zc0 := pz.cell 0 _ rfl
              have zc1 := pz.cell 1 _ rfl
              have zc2 := pz.cell 2 _ rfl
              have zc3 := pz.cell 3 _ rfl
              have zc4 := pz.cell 4 _ rfl
              have zc5 := pz.cell 5 _ rfl
              have zc6 := pz.cell 6 _ rfl
              have zc7 := pz.cell 7 _ rfl
              have zc8 := pz.cell 8 _ rfl
              have zc9 := pz.cell 9 _ rfl
              have zc10 := pz.cell 10 _ rfl
              have zc11 := pz.cell 11 _ rfl
              have zc12 := pz.cell 12 _ rfl
              have zc13 := pz.cell 13 _ rfl
              have zf := pz.free
              have p0 := row_all (Pk.cells ⟨1, Ip.sizeH s, Ip.sizeT s, ⟨proto, src, dst, 0, 0⟩, 0, ttl, src, dst, 0, 0⟩) pz rfl
              replace hh := hh.of_block (W' := setRow WZ bp 0 (Pk.cells ⟨1, Ip.sizeH s, Ip.sizeT s, ⟨proto, src, dst, 0, 0⟩, 0, ttl, src, dst, 0, 0⟩)) (setRow_heap _ _ (by omega) _ _ _)
              replace r0 := r0.of_block (W' := setRow WZ bp 0 (Pk.cells ⟨1, Ip.sizeH s, Ip.sizeT s, ⟨proto, src, dst, 0, 0⟩, 0, ttl, src, dst, 0, 0⟩)) (setRow_heap _ _ (by omega) _ _ _)
              replace hbel := hbel.trans ((setRow_below bp (Pk.cells ⟨1, Ip.sizeH s, Ip.sizeT s, ⟨proto, src, dst, 0, 0⟩, 0, ttl, src, dst, 0, 0⟩) 0 WZ).mono (by omega))
              obtain ⟨W3, eP⟩ : ∃ V, setRow WZ bp 0 (Pk.cells ⟨1, Ip.sizeH s, Ip.sizeT s, ⟨proto, src, dst, 0, 0⟩, 0, ttl, src, dst, 0, 0⟩) = V := ⟨_, rfl⟩
              rw [eP] at p0 hh r0 hbel
              simp only [setRow, Nat.zero_add, Nat.reduceAdd] at eP
              have d5 := hh.cell 5 _ rfl
              have d6 := hh.cell 6 _ rfl
              have d7 := hh.cell 7 _ rfl
              clear hn pz
              clear d6 d7 E6 E17 EM EO
              have c0 := r0.cell 0 _ rfl
              have c1 := r0.cell 1 _ rfl
              have c2 := r0.cell 2 _ rfl
              have c3 := r0.cell 3 _ rfl
              have c4 := r0.cell 4 _ rfl
              have c5 := r0.cell 5 _ rfl
              have c6 := r0.cell 6 _ rfl
              have c7 := r0.cell 7 _ rfl
              have c8 := r0.cell 8 _ rfl
              have c9 := r0.cell 9 _ rfl
              have c10 := r0.cell 10 _ rfl
              have c11 := r0.cell 11 _ rfl
              have c12 := r0.cell 12 _ rfl
              have c13 := r0.cell 13 _ rfl
              have fr := r0.free
              have R := row_all zeroPk.cells r0 rfl
              have B := hbel.trans ((setRow_below (w.heap.size) zeroPk.cells 0 _).mono (Nat.le_refl _))
              simp only [setRow, zeroPk, zeroTp, Nat.zero_add, Nat.reduceAdd] at R B
              have HR9 := hide (And.intro R B)
              clear R B r0 p0 hh hbel
              go_wp2_with fail
              obtain ⟨R, B⟩ := unhide HR9
              have z0 := R.cell 0 _ rfl
              have z1 := R.cell 1 _ rfl
              have z2 := R.cell 2 _ rfl
              have z3 := R.cell 3 _ rfl
              have z4 := R.cell 4 _ rfl
              have z5 := R.cell 5 _ rfl
              have z6 := R.cell 6 _ rfl
              have z7 := R.cell 7 _ rfl
              have z8 := R.cell 8 _ rfl
              have z9 := R.cell 9 _ rfl
              have z10 := R.cell 10 _ rfl
              have z11 := R.cell 11 _ rfl
              have z12 := R.cell 12 _ rfl
              have z13 := R.cell 13 _ rfl
              refine bodyPost_ret (v := .tuple #[zeroPk.val, .int .i64 (9)]) (by simp [results, Tryz.results55, go_sem, zeroPk, zeroTp, z0, z1, z2, z3, z4, z5, z6, z7, z8, z9, z10, z11, z12, z13]) rfl ⟨ret_pe (unhide HX).1.symm (unhide HX).2.symm, B⟩
end Go.Proofs.YtpjaajeojiaeiaaGreatDoor
