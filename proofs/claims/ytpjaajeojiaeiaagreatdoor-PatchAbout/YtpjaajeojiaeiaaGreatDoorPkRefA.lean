/- What num and about of the reference of chapter 9 compute: the same as the program's. -/
import Derived.Test.YtpjaajeojiaeiaaGreatDoorPkMsg
import Derived.Test.YtpjaajeojiaeiaaGreatDoorIcC
namespace Go.Proofs.YtpjaajeojiaeiaaGreatDoor
open Go.ChangeShapes Go.WideShapes Go.ChangeAt Go.RowKit

set_option maxHeartbeats 400000 in
theorem rnum9_any (q : ByteArray) (p k : Int) (w : World) (hq : q.size ≤ maxLen) :
  Calls Tryz.prog 128 #[.string q, .int .i64 p, .int .i64 k] w fun e w' => e = .returned (.int .i64 (got q p k)) ∧ w' = w := by
 go_enter Tryz.func128, Tryz.ntmps128
 go_wp2_with fail
 refine (rget_any _ _ _ _ hq).mono ?_
 rintro e w1 ⟨rfl, rfl⟩
 go_wp2_with fail
 go_ret
 exact ⟨rfl, rfl⟩
theorem got_byte0 (q : ByteArray) (p : Nat) (h : p < q.size) : ((q[p]'h).toNat : Int) = got q p 1 := (Ic.got_byte q p h).symm

/-- The first error of a quote, one test behind the other. -/
theorem qE_1 {q : ByteArray} (h : decide ((q.size : Int) < 20) = true) : qE q = 2 := by unfold qE; rw [if_pos h]
theorem qE_2 {q : ByteArray} (h : decide ((q.size : Int) < 20) = false) (h3 : qB3 q = true) : qE q = 3 := by unfold qE; rw [if_neg (by rw [h]; decide), if_pos h3]
theorem qE_3 {q : ByteArray} (h : decide ((q.size : Int) < 20) = false) (h3 : qB3 q = false) (h4 : qB4 q = true) : qE q = 4 := by unfold qE; rw [if_neg (by rw [h]; decide), if_neg (by rw [h3]; decide), if_pos h4]
theorem qE_4 {q : ByteArray} (h : decide ((q.size : Int) < 20) = false) (h3 : qB3 q = false) (h4 : qB4 q = false) (h5 : qB5 q = true) : qE q = 8 := by unfold qE; rw [if_neg (by rw [h]; decide), if_neg (by rw [h3]; decide), if_neg (by rw [h4]; decide), if_pos h5]
theorem qE_5 {q : ByteArray} (h : decide ((q.size : Int) < 20) = false) (h3 : qB3 q = false) (h4 : qB4 q = false) (h5 : qB5 q = false) (h6 : qB6 q = true) : qE q = 9 := by unfold qE; rw [if_neg (by rw [h]; decide), if_neg (by rw [h3]; decide), if_neg (by rw [h4]; decide), if_neg (by rw [h5]; decide), if_pos h6]
theorem qE_6 {q : ByteArray} (h : decide ((q.size : Int) < 20) = false) (h3 : qB3 q = false) (h4 : qB4 q = false) (h5 : qB5 q = false) (h6 : qB6 q = false) (h7 : qB7 q = true) : qE q = 2 := by unfold qE; rw [if_neg (by rw [h]; decide), if_neg (by rw [h3]; decide), if_neg (by rw [h4]; decide), if_neg (by rw [h5]; decide), if_neg (by rw [h6]; decide), if_pos h7]
theorem qE_7 {q : ByteArray} (h : decide ((q.size : Int) < 20) = false) (h3 : qB3 q = false) (h4 : qB4 q = false) (h5 : qB5 q = false) (h6 : qB6 q = false) (h7 : qB7 q = false) : qE q = 0 := by unfold qE; rw [if_neg (by rw [h]; decide), if_neg (by rw [h3]; decide), if_neg (by rw [h4]; decide), if_neg (by rw [h5]; decide), if_neg (by rw [h6]; decide), if_neg (by rw [h7]; decide)]

set_option maxRecDepth 100000 in
set_option maxHeartbeats 8000000 in
theorem rabout_any (p : Pk) (body : ByteArray) (w : World) (hs : body.size ≤ 1048000) (h0 : 0 ≤ p.pos) (h1 : p.pos ≤ 1000) :
  Calls Tryz.prog 90 #[p.val, .string body] w fun e w' => e = .returned (.tuple #[(msgP p body).val, .int .i64 (msgE body)]) ∧ Below w.heap.size w w' := by
 have HPar := hide (fun u => Ic.rparse_any body u (by omega))
 have hqz := parseH_body body
 have HE0 : Hid (¬ Ic.parseE body = 0 → msgP p body = zeroPk ∧ msgE body = Ic.parseE body) := fun h => by
  have e : msgE body = Ic.parseE body := by unfold msgE; rw [first1 h]
  exact ⟨msgP_no (by rw [e]; exact h), e⟩
 have HE1 : Hid (Ic.parseE body = 0 → Ic.errB (Ic.parseH body).kind = false → msgP p body = zeroPk ∧ msgE body = 10) := fun h h2 => by
  have t : typE body = 10 := by unfold typE; rw [h2]; rfl
  have e : msgE body = 10 := by unfold msgE; rw [first3' h (by rw [t]; decide), t]
  exact ⟨msgP_no (by rw [e]; decide), e⟩
 have HE2 : Hid (Ic.parseE body = 0 → Ic.errB (Ic.parseH body).kind = true → msgE body = qE (Ic.parseH body).body) := fun h h2 => by
  have t : typE body = 0 := by unfold typE; rw [h2]; rfl
  unfold msgE; rw [first3 h t]
 have HN := hide (fun h => msgP_no (p := p) (body := body) h)
 have HY := hide (fun h => msgP_yes (p := p) (body := body) h)
 generalize msgP p body = MP at *
 generalize msgE body = ME at *
 generalize Ic.parseE body = PE at *
 generalize Ic.parseH body = h at *
 go_enter Tryz.func90, Tryz.ntmps90
 go_wp2_with fail
 refine (unhide HPar _).mono ?_
 rintro e w1 ⟨rfl, hb⟩
 have p0 : Row w1 (w.heap.size) p.cells := (allocs_row [(p.cells, 62), (zeroPk.cells, 62)] w 0 _ _ rfl).on' hb
 have r0 : Row w1 (w.heap.size + 1) zeroPk.cells := (allocs_row [(p.cells, 62), (zeroPk.cells, 62)] w 1 _ _ rfl).on' hb
 have hbel : Below w.heap.size w w1 := Below.then (allocs_below [(p.cells, 62), (zeroPk.cells, 62)] w) hb
 have hn := alloc_on w1 (.cells #[.int .i64 h.kind, .int .i64 h.code, .int .u32 h.rest, .string h.body] 58)
 have rm := row_new w1 [.int .i64 h.kind, .int .i64 h.code, .int .u32 h.rest, .string h.body] 58
 obtain ⟨WW, eW⟩ : ∃ V, w1.alloc (.cells #[.int .i64 h.kind, .int .i64 h.code, .int .u32 h.rest, .string h.body] 58) = V := ⟨_, rfl⟩
 rw [eW] at hn rm
 replace p0 := p0.on' hn
 replace r0 := r0.on' hn
 replace hbel := Below.then hbel hn
 have m0 := rm.cell 0 _ rfl
 have m3 := rm.cell 3 _ rfl
 have HR := hide (And.intro p0 (And.intro r0 hbel))
 clear p0 r0 hbel hb hn rm HPar
 by_cases hpe : PE = 0
 case neg =>
  have HX := hide (HE0.out hpe)
  have hd : (PE != 0) = true := by simpa using hpe
  obtain ⟨p0, r0, hbel⟩ := unhide HR
  clear HE0 HE1 HE2 HN HY hpe
  have c0 := r0.cell 0 _ rfl
  have c1 := r0.cell 1 _ rfl
  have c2 := r0.cell 2 _ rfl
  have c3 := r0.cell 3 _ rfl
  have c4 := r0.cell 4 _ rfl
  have c5 := r0.cell 5 _ rfl
  have c6 := r0.cell 6 _ rfl
  have c7 := r0.cell 7 _ rfl
  have c8 := r0.cell 8 _ rfl
  have c9 := r0.cell 9 _ rfl
  have c10 := r0.cell 10 _ rfl
  have c11 := r0.cell 11 _ rfl
  have c12 := r0.cell 12 _ rfl
  have c13 := r0.cell 13 _ rfl
  have fr := r0.free
  have R := row_all zeroPk.cells r0 rfl
  have B := hbel.trans ((setRow_below (w.heap.size + 1) zeroPk.cells 0 WW).mono (by omega))
  simp only [setRow, zeroPk, zeroTp, Nat.zero_add, Nat.reduceAdd] at R B
  have HR9 := hide (And.intro R B)
  clear R B r0 p0 hbel
  go_wp2_with fail
  obtain ⟨R, B⟩ := unhide HR9
  have z0 := R.cell 0 _ rfl
  have z1 := R.cell 1 _ rfl
  have z2 := R.cell 2 _ rfl
  have z3 := R.cell 3 _ rfl
  have z4 := R.cell 4 _ rfl
  have z5 := R.cell 5 _ rfl
  have z6 := R.cell 6 _ rfl
  have z7 := R.cell 7 _ rfl
  have z8 := R.cell 8 _ rfl
  have z9 := R.cell 9 _ rfl
  have z10 := R.cell 10 _ rfl
  have z11 := R.cell 11 _ rfl
  have z12 := R.cell 12 _ rfl
  have z13 := R.cell 13 _ rfl
  refine bodyPost_ret (v := .tuple #[zeroPk.val, .int .i64 (PE)]) (by simp [results, Tryz.results90, go_sem, zeroPk, zeroTp, z0, z1, z2, z3, z4, z5, z6, z7, z8, z9, z10, z11, z12, z13]) rfl ⟨ret_pe (unhide HX).1.symm (unhide HX).2.symm, B⟩
 case pos =>
  have hd : (PE != 0) = false := by rw [hpe]; rfl
  have HErr := hide (fun u => Ic.rerror_any h.kind u)
  go_wp2_with fail
  refine (unhide HErr _).mono ?_
  rintro e WW ⟨rfl, rfl⟩
  cases he : Ic.errB h.kind with
  | false =>
   have HX := hide (HE1.out hpe he)
   obtain ⟨p0, r0, hbel⟩ := unhide HR
   clear HE0 HE1 HE2 HN HY hpe
   have c0 := r0.cell 0 _ rfl
   have c1 := r0.cell 1 _ rfl
   have c2 := r0.cell 2 _ rfl
   have c3 := r0.cell 3 _ rfl
   have c4 := r0.cell 4 _ rfl
   have c5 := r0.cell 5 _ rfl
   have c6 := r0.cell 6 _ rfl
   have c7 := r0.cell 7 _ rfl
   have c8 := r0.cell 8 _ rfl
   have c9 := r0.cell 9 _ rfl
   have c10 := r0.cell 10 _ rfl
   have c11 := r0.cell 11 _ rfl
   have c12 := r0.cell 12 _ rfl
   have c13 := r0.cell 13 _ rfl
   have fr := r0.free
   have R := row_all zeroPk.cells r0 rfl
   have B := hbel.trans ((setRow_below (w.heap.size + 1) zeroPk.cells 0 WW).mono (by omega))
   simp only [setRow, zeroPk, zeroTp, Nat.zero_add, Nat.reduceAdd] at R B
   have HR9 := hide (And.intro R B)
   clear R B r0 p0 hbel
   go_wp2_with fail
   obtain ⟨R, B⟩ := unhide HR9
   have z0 := R.cell 0 _ rfl
   have z1 := R.cell 1 _ rfl
   have z2 := R.cell 2 _ rfl
   have z3 := R.cell 3 _ rfl
   have z4 := R.cell 4 _ rfl
   have z5 := R.cell 5 _ rfl
   have z6 := R.cell 6 _ rfl
   have z7 := R.cell 7 _ rfl
   have z8 := R.cell 8 _ rfl
   have z9 := R.cell 9 _ rfl
   have z10 := R.cell 10 _ rfl
   have z11 := R.cell 11 _ rfl
   have z12 := R.cell 12 _ rfl
   have z13 := R.cell 13 _ rfl
   refine bodyPost_ret (v := .tuple #[zeroPk.val, .int .i64 (10)]) (by simp [results, Tryz.results90, go_sem, zeroPk, zeroTp, z0, z1, z2, z3, z4, z5, z6, z7, z8, z9, z10, z11, z12, z13]) rfl ⟨ret_pe (unhide HX).1.symm (unhide HX).2.symm, B⟩
  | true =>
   have HM := hide (HE2.out hpe he)
   clear HE0 HE1 HE2 hpe
   obtain ⟨q, hq⟩ : ∃ q, h.body = q := ⟨_, rfl⟩
   rw [hq] at m3 hqz HM
   have HY2 : Hid (qE q = 0 → MP = ⟨2, p.pos, p.total, qT q, p.flags, p.ttl, p.src, p.dst, p.pos + 8, p.pos + 8 + qN q⟩) := fun hh => by
    have := unhide HY (by rw [unhide HM]; exact hh)
    rw [hq] at this; exact this
   have HN2 : Hid (¬ qE q = 0 → MP = zeroPk) := fun hh => unhide HN (by rw [unhide HM]; exact hh)
   clear HY HN
   cases q1 : decide ((q.size : Int) < 20) with
   | true =>
    have HX := hide (And.intro (HN2.out (by rw [qE_1 q1]; decide)) ((unhide HM).trans (qE_1 q1)))
    obtain ⟨p0, r0, hbel⟩ := unhide HR
    have c0 := r0.cell 0 _ rfl
    have c1 := r0.cell 1 _ rfl
    have c2 := r0.cell 2 _ rfl
    have c3 := r0.cell 3 _ rfl
    have c4 := r0.cell 4 _ rfl
    have c5 := r0.cell 5 _ rfl
    have c6 := r0.cell 6 _ rfl
    have c7 := r0.cell 7 _ rfl
    have c8 := r0.cell 8 _ rfl
    have c9 := r0.cell 9 _ rfl
    have c10 := r0.cell 10 _ rfl
    have c11 := r0.cell 11 _ rfl
    have c12 := r0.cell 12 _ rfl
    have c13 := r0.cell 13 _ rfl
    have fr := r0.free
    have R := row_all zeroPk.cells r0 rfl
    have B := hbel.trans ((setRow_below (w.heap.size + 1) zeroPk.cells 0 WW).mono (by omega))
    simp only [setRow, zeroPk, zeroTp, Nat.zero_add, Nat.reduceAdd] at R B
    have HR9 := hide (And.intro R B)
    clear R B r0 p0 hbel
    go_wp2_with fail
    obtain ⟨R, B⟩ := unhide HR9
    have z0 := R.cell 0 _ rfl
    have z1 := R.cell 1 _ rfl
    have z2 := R.cell 2 _ rfl
    have z3 := R.cell 3 _ rfl
    have z4 := R.cell 4 _ rfl
    have z5 := R.cell 5 _ rfl
    have z6 := R.cell 6 _ rfl
    have z7 := R.cell 7 _ rfl
    have z8 := R.cell 8 _ rfl
    have z9 := R.cell 9 _ rfl
    have z10 := R.cell 10 _ rfl
    have z11 := R.cell 11 _ rfl
    have z12 := R.cell 12 _ rfl
    have z13 := R.cell 13 _ rfl
    refine bodyPost_ret (v := .tuple #[zeroPk.val, .int .i64 (2)]) (by simp [results, Tryz.results90, go_sem, zeroPk, zeroTp, z0, z1, z2, z3, z4, z5, z6, z7, z8, z9, z10, z11, z12, z13]) rfl ⟨ret_pe (unhide HX).1.symm (unhide HX).2.symm, B⟩
   | false =>
    have hq20 : 20 ≤ q.size := by simp at q1; omega
    have g0 := got_byte0 q 0 (by omega)
    have g9 := got_byte0 q 9 (by omega)
    obtain ⟨⟨a0, a1⟩, -⟩ := got_rng q 0
    have HZ : Hid (qSize q = got q 0 1 % 16 * 4) := rfl
    have H3 : Hid (qB3 q = (got q 0 1 / 16 != 4)) := rfl
    have H4 : Hid (qB4 q = (decide (qSize q < 20) || decide ((q.size : Int) < qSize q))) := rfl
    have H5 : Hid (qB5 q = (got q 6 2 % 8192 != 0)) := rfl
    have H6 : Hid (qB6 q = ((got q 9 1 != 6) && (got q 9 1 != 17))) := rfl
    have H7 : Hid (qB7 q = decide ((q.size : Int) - qSize q < 8)) := rfl
    have e7 : (decide ((q.size : Int) - qSize q < 8)) = decide ((q.size : Int) < qSize q + 8) := by congr 1; apply propext; omega
    have s0 : 0 ≤ qSize q := by unfold qSize; omega
    have s1 : qSize q ≤ 60 := by unfold qSize; omega
    have k1 : (got q 0 1).tmod 16 = got q 0 1 % 16 := Int.tmod_eq_emod_of_nonneg a0
    have k2 : IntKind.u8.wrap (got q 0 1 % 16) = got q 0 1 % 16 := by rw [IntKind.wrap_u8]; omega
    have k3 : IntKind.i64.wrap (got q 0 1 % 16) = got q 0 1 % 16 := Oct.wraps_i64 _ (by omega) (by omega)
    have k4 : 4 * (got q 0 1 % 16) = qSize q := by unfold qSize; omega
    have k5 : (got q 0 1).tdiv 16 = got q 0 1 / 16 := Int.tdiv_eq_ediv_of_nonneg a0
    have k6 : IntKind.u8.wrap (got q 0 1 / 16) = got q 0 1 / 16 := by rw [IntKind.wrap_u8]; omega
    have k7 : (got q 6 2).tmod 8192 = got q 6 2 % 8192 := Int.tmod_eq_emod_of_nonneg (got_rng q 6).2.1.1
    have k9 : IntKind.i64.wrap (got q 9 1) = got q 9 1 := Oct.wraps_i64 _ (got_rng q 9).1.1 (by have := (got_rng q 9).1.2; omega)
    have hlt0 : (0 : Int) < q.size := by omega
    have hlt9 : (9 : Int) < q.size := by omega
    have HNum := hide (fun a b u => rnum9_any q a b u (by unfold maxLen; omega))
    have hfa : ∀ {x : Int} (hh : qE q = x) (hx : x ≠ 0), MP = zeroPk ∧ ME = x := fun hh hx => ⟨HN2.out (by rw [hh]; exact hx), (unhide HM).trans hh⟩
    have HFA := hide (fun x (hh : qE q = x) (hx : x ≠ 0) => hfa hh hx)
    clear hfa HN2 HZ
    cases h3 : qB3 q with
    | true =>
     have t3 : (got q 0 1 / 16 != 4) = true := H3.out.symm.trans h3
     have HX := hide (unhide HFA 3 (qE_2 q1 h3) (by decide))
     obtain ⟨p0, r0, hbel⟩ := unhide HR
     clear h3
     have c0 := r0.cell 0 _ rfl
     have c1 := r0.cell 1 _ rfl
     have c2 := r0.cell 2 _ rfl
     have c3 := r0.cell 3 _ rfl
     have c4 := r0.cell 4 _ rfl
     have c5 := r0.cell 5 _ rfl
     have c6 := r0.cell 6 _ rfl
     have c7 := r0.cell 7 _ rfl
     have c8 := r0.cell 8 _ rfl
     have c9 := r0.cell 9 _ rfl
     have c10 := r0.cell 10 _ rfl
     have c11 := r0.cell 11 _ rfl
     have c12 := r0.cell 12 _ rfl
     have c13 := r0.cell 13 _ rfl
     have fr := r0.free
     have R := row_all zeroPk.cells r0 rfl
     have B := hbel.trans ((setRow_below (w.heap.size + 1) zeroPk.cells 0 WW).mono (by omega))
     simp only [setRow, zeroPk, zeroTp, Nat.zero_add, Nat.reduceAdd] at R B
     have HR9 := hide (And.intro R B)
     clear R B r0 p0 hbel
     go_wp2_with fail
     obtain ⟨R, B⟩ := unhide HR9
     have z0 := R.cell 0 _ rfl
     have z1 := R.cell 1 _ rfl
     have z2 := R.cell 2 _ rfl
     have z3 := R.cell 3 _ rfl
     have z4 := R.cell 4 _ rfl
     have z5 := R.cell 5 _ rfl
     have z6 := R.cell 6 _ rfl
     have z7 := R.cell 7 _ rfl
     have z8 := R.cell 8 _ rfl
     have z9 := R.cell 9 _ rfl
     have z10 := R.cell 10 _ rfl
     have z11 := R.cell 11 _ rfl
     have z12 := R.cell 12 _ rfl
     have z13 := R.cell 13 _ rfl
     refine bodyPost_ret (v := .tuple #[zeroPk.val, .int .i64 (3)]) (by simp [results, Tryz.results90, go_sem, zeroPk, zeroTp, z0, z1, z2, z3, z4, z5, z6, z7, z8, z9, z10, z11, z12, z13]) rfl ⟨ret_pe (unhide HX).1.symm (unhide HX).2.symm, B⟩
    | false =>
     have t3 : (got q 0 1 / 16 != 4) = false := H3.out.symm.trans h3
     by_cases z1 : qSize q < 20
     ·have h4 : qB4 q = true := by rw [H4.out, decide_eq_true z1]; rfl
      have t4 : decide (qSize q < 20) = true := decide_eq_true z1
      have HX := hide (unhide HFA 4 (qE_3 q1 h3 h4) (by decide))
      obtain ⟨p0, r0, hbel⟩ := unhide HR
      clear h3 h4 z1
      have c0 := r0.cell 0 _ rfl
      have c1 := r0.cell 1 _ rfl
      have c2 := r0.cell 2 _ rfl
      have c3 := r0.cell 3 _ rfl
      have c4 := r0.cell 4 _ rfl
      have c5 := r0.cell 5 _ rfl
      have c6 := r0.cell 6 _ rfl
      have c7 := r0.cell 7 _ rfl
      have c8 := r0.cell 8 _ rfl
      have c9 := r0.cell 9 _ rfl
      have c10 := r0.cell 10 _ rfl
      have c11 := r0.cell 11 _ rfl
      have c12 := r0.cell 12 _ rfl
      have c13 := r0.cell 13 _ rfl
      have fr := r0.free
      have R := row_all zeroPk.cells r0 rfl
      have B := hbel.trans ((setRow_below (w.heap.size + 1) zeroPk.cells 0 WW).mono (by omega))
      simp only [setRow, zeroPk, zeroTp, Nat.zero_add, Nat.reduceAdd] at R B
      have HR9 := hide (And.intro R B)
      clear R B r0 p0 hbel
      go_wp2_with fail
      obtain ⟨R, B⟩ := unhide HR9
      have z0 := R.cell 0 _ rfl
      have z1 := R.cell 1 _ rfl
      have z2 := R.cell 2 _ rfl
      have z3 := R.cell 3 _ rfl
      have z4 := R.cell 4 _ rfl
      have z5 := R.cell 5 _ rfl
      have z6 := R.cell 6 _ rfl
      have z7 := R.cell 7 _ rfl
      have z8 := R.cell 8 _ rfl
      have z9 := R.cell 9 _ rfl
      have z10 := R.cell 10 _ rfl
      have z11 := R.cell 11 _ rfl
      have z12 := R.cell 12 _ rfl
      have z13 := R.cell 13 _ rfl
      refine bodyPost_ret (v := .tuple #[zeroPk.val, .int .i64 (4)]) (by simp [results, Tryz.results90, go_sem, zeroPk, zeroTp, z0, z1, z2, z3, z4, z5, z6, z7, z8, z9, z10, z11, z12, z13]) rfl ⟨ret_pe (unhide HX).1.symm (unhide HX).2.symm, B⟩
     ·have t4 : decide (qSize q < 20) = false := decide_eq_false z1
      by_cases z2 : (q.size : Int) < qSize q
      ·have h4 : qB4 q = true := by rw [H4.out, t4, decide_eq_true z2]; rfl
       have t4b : decide ((q.size : Int) < qSize q) = true := decide_eq_true z2
       have HX := hide (unhide HFA 4 (qE_3 q1 h3 h4) (by decide))
       obtain ⟨p0, r0, hbel⟩ := unhide HR
       clear h3 h4 z1 z2
       have c0 := r0.cell 0 _ rfl
       have c1 := r0.cell 1 _ rfl
       have c2 := r0.cell 2 _ rfl
       have c3 := r0.cell 3 _ rfl
       have c4 := r0.cell 4 _ rfl
       have c5 := r0.cell 5 _ rfl
       have c6 := r0.cell 6 _ rfl
       have c7 := r0.cell 7 _ rfl
       have c8 := r0.cell 8 _ rfl
       have c9 := r0.cell 9 _ rfl
       have c10 := r0.cell 10 _ rfl
       have c11 := r0.cell 11 _ rfl
       have c12 := r0.cell 12 _ rfl
       have c13 := r0.cell 13 _ rfl
       have fr := r0.free
       have R := row_all zeroPk.cells r0 rfl
       have B := hbel.trans ((setRow_below (w.heap.size + 1) zeroPk.cells 0 WW).mono (by omega))
       simp only [setRow, zeroPk, zeroTp, Nat.zero_add, Nat.reduceAdd] at R B
       have HR9 := hide (And.intro R B)
       clear R B r0 p0 hbel
       go_wp2_with fail
       obtain ⟨R, B⟩ := unhide HR9
       have z0 := R.cell 0 _ rfl
       have z1 := R.cell 1 _ rfl
       have z2 := R.cell 2 _ rfl
       have z3 := R.cell 3 _ rfl
       have z4 := R.cell 4 _ rfl
       have z5 := R.cell 5 _ rfl
       have z6 := R.cell 6 _ rfl
       have z7 := R.cell 7 _ rfl
       have z8 := R.cell 8 _ rfl
       have z9 := R.cell 9 _ rfl
       have z10 := R.cell 10 _ rfl
       have z11 := R.cell 11 _ rfl
       have z12 := R.cell 12 _ rfl
       have z13 := R.cell 13 _ rfl
       refine bodyPost_ret (v := .tuple #[zeroPk.val, .int .i64 (4)]) (by simp [results, Tryz.results90, go_sem, zeroPk, zeroTp, z0, z1, z2, z3, z4, z5, z6, z7, z8, z9, z10, z11, z12, z13]) rfl ⟨ret_pe (unhide HX).1.symm (unhide HX).2.symm, B⟩
      ·have h4 : qB4 q = false := by rw [H4.out, t4, decide_eq_false z2]; rfl
       have t4b : decide ((q.size : Int) < qSize q) = false := decide_eq_false z2
       have HQ := hide (And.intro q1 (And.intro h3 h4))
       have HZ2 := hide (And.intro z1 z2)
       clear h3 h4 z1 z2
       go_wp2_with fail
       refine (unhide HNum _ _ _).mono ?_
       rintro e WW ⟨rfl, rfl⟩
       obtain ⟨-, h3, h4⟩ := unhide HQ
       cases h5 : qB5 q with
       | true =>
        have t5 : (got q 6 2 % 8192 != 0) = true := H5.out.symm.trans h5
        have HX := hide (unhide HFA 8 (qE_4 q1 h3 h4 h5) (by decide))
        obtain ⟨p0, r0, hbel⟩ := unhide HR
        clear h3 h4 h5
        have c0 := r0.cell 0 _ rfl
        have c1 := r0.cell 1 _ rfl
        have c2 := r0.cell 2 _ rfl
        have c3 := r0.cell 3 _ rfl
        have c4 := r0.cell 4 _ rfl
        have c5 := r0.cell 5 _ rfl
        have c6 := r0.cell 6 _ rfl
        have c7 := r0.cell 7 _ rfl
        have c8 := r0.cell 8 _ rfl
        have c9 := r0.cell 9 _ rfl
        have c10 := r0.cell 10 _ rfl
        have c11 := r0.cell 11 _ rfl
        have c12 := r0.cell 12 _ rfl
        have c13 := r0.cell 13 _ rfl
        have fr := r0.free
        have R := row_all zeroPk.cells r0 rfl
        have B := hbel.trans ((setRow_below (w.heap.size + 1) zeroPk.cells 0 WW).mono (by omega))
        simp only [setRow, zeroPk, zeroTp, Nat.zero_add, Nat.reduceAdd] at R B
        have HR9 := hide (And.intro R B)
        clear R B r0 p0 hbel
        go_wp2_with fail
        obtain ⟨R, B⟩ := unhide HR9
        have z0 := R.cell 0 _ rfl
        have z1 := R.cell 1 _ rfl
        have z2 := R.cell 2 _ rfl
        have z3 := R.cell 3 _ rfl
        have z4 := R.cell 4 _ rfl
        have z5 := R.cell 5 _ rfl
        have z6 := R.cell 6 _ rfl
        have z7 := R.cell 7 _ rfl
        have z8 := R.cell 8 _ rfl
        have z9 := R.cell 9 _ rfl
        have z10 := R.cell 10 _ rfl
        have z11 := R.cell 11 _ rfl
        have z12 := R.cell 12 _ rfl
        have z13 := R.cell 13 _ rfl
        refine bodyPost_ret (v := .tuple #[zeroPk.val, .int .i64 (8)]) (by simp [results, Tryz.results90, go_sem, zeroPk, zeroTp, z0, z1, z2, z3, z4, z5, z6, z7, z8, z9, z10, z11, z12, z13]) rfl ⟨ret_pe (unhide HX).1.symm (unhide HX).2.symm, B⟩
       | false =>
        have t5 : (got q 6 2 % 8192 != 0) = false := H5.out.symm.trans h5
        cases h6 : qB6 q with
        | true =>
         have t6 : ((got q 9 1 != 6) && (got q 9 1 != 17)) = true := H6.out.symm.trans h6
         have t6a : (got q 9 1 != 6) = true := by revert t6; cases (got q 9 1 != 6) <;> simp
         have t6b : (got q 9 1 != 17) = true := by revert t6; cases (got q 9 1 != 6) <;> simp
         have HX := hide (unhide HFA 9 (qE_5 q1 h3 h4 h5 h6) (by decide))
         obtain ⟨p0, r0, hbel⟩ := unhide HR
         clear h3 h4 h5 h6 t6
         have c0 := r0.cell 0 _ rfl
         have c1 := r0.cell 1 _ rfl
         have c2 := r0.cell 2 _ rfl
         have c3 := r0.cell 3 _ rfl
         have c4 := r0.cell 4 _ rfl
         have c5 := r0.cell 5 _ rfl
         have c6 := r0.cell 6 _ rfl
         have c7 := r0.cell 7 _ rfl
         have c8 := r0.cell 8 _ rfl
         have c9 := r0.cell 9 _ rfl
         have c10 := r0.cell 10 _ rfl
         have c11 := r0.cell 11 _ rfl
         have c12 := r0.cell 12 _ rfl
         have c13 := r0.cell 13 _ rfl
         have fr := r0.free
         have R := row_all zeroPk.cells r0 rfl
         have B := hbel.trans ((setRow_below (w.heap.size + 1) zeroPk.cells 0 WW).mono (by omega))
         simp only [setRow, zeroPk, zeroTp, Nat.zero_add, Nat.reduceAdd] at R B
         have HR9 := hide (And.intro R B)
         clear R B r0 p0 hbel
         go_wp2_with fail
         obtain ⟨R, B⟩ := unhide HR9
         have z0 := R.cell 0 _ rfl
         have z1 := R.cell 1 _ rfl
         have z2 := R.cell 2 _ rfl
         have z3 := R.cell 3 _ rfl
         have z4 := R.cell 4 _ rfl
         have z5 := R.cell 5 _ rfl
         have z6 := R.cell 6 _ rfl
         have z7 := R.cell 7 _ rfl
         have z8 := R.cell 8 _ rfl
         have z9 := R.cell 9 _ rfl
         have z10 := R.cell 10 _ rfl
         have z11 := R.cell 11 _ rfl
         have z12 := R.cell 12 _ rfl
         have z13 := R.cell 13 _ rfl
         refine bodyPost_ret (v := .tuple #[zeroPk.val, .int .i64 (9)]) (by simp [results, Tryz.results90, go_sem, zeroPk, zeroTp, z0, z1, z2, z3, z4, z5, z6, z7, z8, z9, z10, z11, z12, z13]) rfl ⟨ret_pe (unhide HX).1.symm (unhide HX).2.symm, B⟩
        | false =>
         have t6 : ((got q 9 1 != 6) && (got q 9 1 != 17)) = false := H6.out.symm.trans h6
         cases h7 : qB7 q with
         | true =>
          have t7 : decide ((q.size : Int) < qSize q + 8) = true := e7.symm.trans (H7.out.symm.trans h7)
          have HX := hide (unhide HFA 2 (qE_6 q1 h3 h4 h5 h6 h7) (by decide))
          have HRR := hide (unhide HR)
          clear h3 h4 h5 h6 h7 e7
          cases t6a : (got q 9 1 != 6) with
          | false =>
           obtain ⟨p0, r0, hbel⟩ := unhide HRR
           clear t6
           have c0 := r0.cell 0 _ rfl
           have c1 := r0.cell 1 _ rfl
           have c2 := r0.cell 2 _ rfl
           have c3 := r0.cell 3 _ rfl
           have c4 := r0.cell 4 _ rfl
           have c5 := r0.cell 5 _ rfl
           have c6 := r0.cell 6 _ rfl
           have c7 := r0.cell 7 _ rfl
           have c8 := r0.cell 8 _ rfl
           have c9 := r0.cell 9 _ rfl
           have c10 := r0.cell 10 _ rfl
           have c11 := r0.cell 11 _ rfl
           have c12 := r0.cell 12 _ rfl
           have c13 := r0.cell 13 _ rfl
           have fr := r0.free
           have R := row_all zeroPk.cells r0 rfl
           have B := hbel.trans ((setRow_below (w.heap.size + 1) zeroPk.cells 0 WW).mono (by omega))
           simp only [setRow, zeroPk, zeroTp, Nat.zero_add, Nat.reduceAdd] at R B
           have HR9 := hide (And.intro R B)
           clear R B r0 p0 hbel
           go_wp2_with fail
           obtain ⟨R, B⟩ := unhide HR9
           have z0 := R.cell 0 _ rfl
           have z1 := R.cell 1 _ rfl
           have z2 := R.cell 2 _ rfl
           have z3 := R.cell 3 _ rfl
           have z4 := R.cell 4 _ rfl
           have z5 := R.cell 5 _ rfl
           have z6 := R.cell 6 _ rfl
           have z7 := R.cell 7 _ rfl
           have z8 := R.cell 8 _ rfl
           have z9 := R.cell 9 _ rfl
           have z10 := R.cell 10 _ rfl
           have z11 := R.cell 11 _ rfl
           have z12 := R.cell 12 _ rfl
           have z13 := R.cell 13 _ rfl
           refine bodyPost_ret (v := .tuple #[zeroPk.val, .int .i64 (2)]) (by simp [results, Tryz.results90, go_sem, zeroPk, zeroTp, z0, z1, z2, z3, z4, z5, z6, z7, z8, z9, z10, z11, z12, z13]) rfl ⟨ret_pe (unhide HX).1.symm (unhide HX).2.symm, B⟩
          | true =>
           have t6b : (got q 9 1 != 17) = false := by rw [t6a] at t6; simpa using t6
           obtain ⟨p0, r0, hbel⟩ := unhide HRR
           clear t6
           have c0 := r0.cell 0 _ rfl
           have c1 := r0.cell 1 _ rfl
           have c2 := r0.cell 2 _ rfl
           have c3 := r0.cell 3 _ rfl
           have c4 := r0.cell 4 _ rfl
           have c5 := r0.cell 5 _ rfl
           have c6 := r0.cell 6 _ rfl
           have c7 := r0.cell 7 _ rfl
           have c8 := r0.cell 8 _ rfl
           have c9 := r0.cell 9 _ rfl
           have c10 := r0.cell 10 _ rfl
           have c11 := r0.cell 11 _ rfl
           have c12 := r0.cell 12 _ rfl
           have c13 := r0.cell 13 _ rfl
           have fr := r0.free
           have R := row_all zeroPk.cells r0 rfl
           have B := hbel.trans ((setRow_below (w.heap.size + 1) zeroPk.cells 0 WW).mono (by omega))
           simp only [setRow, zeroPk, zeroTp, Nat.zero_add, Nat.reduceAdd] at R B
           have HR9 := hide (And.intro R B)
           clear R B r0 p0 hbel
           go_wp2_with fail
           obtain ⟨R, B⟩ := unhide HR9
           have z0 := R.cell 0 _ rfl
           have z1 := R.cell 1 _ rfl
           have z2 := R.cell 2 _ rfl
           have z3 := R.cell 3 _ rfl
           have z4 := R.cell 4 _ rfl
           have z5 := R.cell 5 _ rfl
           have z6 := R.cell 6 _ rfl
           have z7 := R.cell 7 _ rfl
           have z8 := R.cell 8 _ rfl
           have z9 := R.cell 9 _ rfl
           have z10 := R.cell 10 _ rfl
           have z11 := R.cell 11 _ rfl
           have z12 := R.cell 12 _ rfl
           have z13 := R.cell 13 _ rfl
           refine bodyPost_ret (v := .tuple #[zeroPk.val, .int .i64 (2)]) (by simp [results, Tryz.results90, go_sem, zeroPk, zeroTp, z0, z1, z2, z3, z4, z5, z6, z7, z8, z9, z10, z11, z12, z13]) rfl ⟨ret_pe (unhide HX).1.symm (unhide HX).2.symm, B⟩
         | false =>
          have t7 : decide ((q.size : Int) < qSize q + 8) = false := e7.symm.trans (H7.out.symm.trans h7)
          have hE := qE_7 q1 h3 h4 h5 h6 h7
          obtain ⟨u1, u2⟩ := qE_yes hE
          have HX : Hid (MP = ⟨2, p.pos, p.total, ⟨got q 9 1, got q 12 4, got q 16 4, got q (qSize q) 2, got q (qSize q + 2) 2⟩, p.flags, p.ttl, p.src, p.dst, p.pos + 8, p.pos + 8 + qSize q⟩ ∧ ME = 0) := ⟨by rw [HY2.out hE, u1, u2], (unhide HM).trans hE⟩
          have HRR := hide (unhide HR)
          clear h3 h4 h5 h6 h7 e7 hE u1 u2 HY2
          cases t6a : (got q 9 1 != 6) with
          | false =>
           clear t6
           obtain ⟨p0, r0, hbel⟩ := unhide HRR
           have l1 := p0.cell 1 _ rfl
           have s1 := p0.cell 0 _ rfl
           have f1 := p0.free 0
           replace p0 := p0.set 0 (.int .i64 2)
           replace r0 := r0.other (b := w.heap.size) (by omega) 0 (.int .i64 2)
           replace hbel := hbel.setCell (p := ⟨w.heap.size, 0, none⟩) (Nat.le_refl _) (.int .i64 2)
           obtain ⟨V1, eV1⟩ : ∃ V, WW.setCell ⟨w.heap.size, 0, none⟩ (.int .i64 2) = V := ⟨_, rfl⟩
           rw [eV1] at hbel p0 r0
           have l2 := p0.cell 1 _ rfl
           have s2 := p0.cell 12 _ rfl
           have f2 := p0.free 12
           replace p0 := p0.set 12 (.int .i64 (p.pos + 8))
           replace r0 := r0.other (b := w.heap.size) (by omega) 12 (.int .i64 (p.pos + 8))
           replace hbel := hbel.setCell (p := ⟨w.heap.size, 12, none⟩) (Nat.le_refl _) (.int .i64 (p.pos + 8))
           obtain ⟨V2, eV2⟩ : ∃ V, V1.setCell ⟨w.heap.size, 12, none⟩ (.int .i64 (p.pos + 8)) = V := ⟨_, rfl⟩
           rw [eV2] at hbel p0 r0
           have l3 := p0.cell 12 _ rfl
           have s3 := p0.cell 13 _ rfl
           have f3 := p0.free 13
           replace p0 := p0.set 13 (.int .i64 (p.pos + 8 + qSize q))
           replace r0 := r0.other (b := w.heap.size) (by omega) 13 (.int .i64 (p.pos + 8 + qSize q))
           replace hbel := hbel.setCell (p := ⟨w.heap.size, 13, none⟩) (Nat.le_refl _) (.int .i64 (p.pos + 8 + qSize q))
           obtain ⟨V3, eV3⟩ : ∃ V, V2.setCell ⟨w.heap.size, 13, none⟩ (.int .i64 (p.pos + 8 + qSize q)) = V := ⟨_, rfl⟩
           rw [eV3] at hbel p0 r0
           replace p0 : Row V3 w.heap.size (Pk.cells ⟨2, p.pos, p.total, p.tup, p.flags, p.ttl, p.src, p.dst, p.pos + 8, p.pos + 8 + qSize q⟩) := p0
           have HR3 := hide (And.intro p0 (And.intro r0 hbel))
           clear p0 r0 hbel
           go_wp2_with fail
           obtain ⟨p0, r0, hbel⟩ := unhide HR3
           clear l1 l2 l3 s1 s2 s3 f1 f2 f3 eV1 eV2 eV3
           obtain ⟨-, -, ⟨c0, c1⟩⟩ := got_rng q 12
           obtain ⟨-, -, ⟨d0, d1⟩⟩ := got_rng q 16
           have k12 : IntKind.u32.wrap (got q 12 4) = got q 12 4 := Ck.wraps_u32 _ c0 (by omega)
           have k16 : IntKind.u32.wrap (got q 16 4) = got q 16 4 := Ck.wraps_u32 _ d0 (by omega)
           have kz : IntKind.i64.wrap (qSize q + 2) = qSize q + 2 := Oct.wraps_i64 _ (by omega) (by omega)
           have hi9 : ¬ ((q.size : Int) ≤ 9) := by omega
           have up : ∀ x, Below V3.heap.size V3.drew x → Row x w.heap.size (Pk.cells ⟨2, p.pos, p.total, p.tup, p.flags, p.ttl, p.src, p.dst, p.pos + 8, p.pos + 8 + qSize q⟩) := fun x hb => (p0.of_block (W' := V3.drew) rfl).on hb p0.lt
           have Q4 : ∀ (a b : Int) (u : World), Calls Tryz.prog 128 #[.string q, .int .i64 a, .int .i64 b] u fun e u' => e = .returned (.int .i64 (got q a b)) ∧ Below u.heap.size u u' := fun a b u => (unhide HNum a b u).mono fun _ _ ⟨h1, h2⟩ => ⟨h1, by rw [h2]; exact Below.refl _ _⟩
           refine wp_region_grow_store (by kernel_rfl) [.string q, .int .u8 (got q 9 1), .int .i64 (got q 9 1), .string q, .int .i64 (got q 12 4), .int .u32 (got q 12 4), .string q, .int .i64 (got q 16 4), .int .u32 (got q 16 4), .string q, .int .i64 (qSize q), .int .i64 (got q (qSize q) 2), .string q, .int .i64 (qSize q), .int .i64 (qSize q + 2), .int .i64 (got q (qSize q + 2) 2), .agg #[.int .i64 (got q 9 1), .int .u32 (got q 12 4), .int .u32 (got q 16 4), .int .i64 (got q (qSize q) 2), .int .i64 (got q (qSize q + 2) 2)], .pointer (some ⟨w.heap.size, 3, none⟩), undef] 18 (fun v => setRow v w.heap.size 3 [.int .i64 (got q 9 1), .int .u32 (got q 12 4), .int .u32 (got q 16 4), .int .i64 (got q (qSize q) 2), .int .i64 (got q (qSize q + 2) 2)]) (by kernel_rfl) (by decide) rfl ?op ?store ?fin
           case op =>
            intro i o bx u ho hne hbel hS
            match i, ho with
            | 0, ho =>
             obtain rfl := Option.some.inj ho
             have d8 : bx.tmps.getD 8 undef = .string q := hS.base 8
             refine .inl ⟨rfl, ends_value (c := .string q) ?_⟩
             simp [execOp, Act.eval, d8]
            | 1, ho =>
             obtain rfl := Option.some.inj ho
             have d86 : bx.tmps.getD 86 undef = .string q := hS.dep 0 86
             refine .inl ⟨rfl, ends_value (c := .int .u8 (got q 9 1)) ?_⟩
             simp [Act.eval, d86, go_sem, hlt9, g9]
            | 2, ho =>
             obtain rfl := Option.some.inj ho
             have d87 : bx.tmps.getD 87 undef = .int .u8 (got q 9 1) := hS.dep 1 87
             refine .inl ⟨rfl, ends_value (c := .int .i64 (got q 9 1)) ?_⟩
             simp [Act.eval, d87, go_sem, k9]
            | 3, ho =>
             obtain rfl := Option.some.inj ho
             have d8 : bx.tmps.getD 8 undef = .string q := hS.base 8
             refine .inl ⟨rfl, ends_value (c := .string q) ?_⟩
             simp [execOp, Act.eval, d8]
            | 4, ho =>
             obtain rfl := Option.some.inj ho
             have d89 : bx.tmps.getD 89 undef = .string q := hS.dep 3 89
             refine .inl ⟨rfl, ends_call (c := .int .i64 (got q 12 4)) (by kernel_rfl) (f := 128) (args := #[.string q, .int .i64 12, .int .i64 4]) ?_ (Q4 12 4 u)⟩
             simp [Act.eval, d89, go_sem]
            | 5, ho =>
             obtain rfl := Option.some.inj ho
             have d90 : bx.tmps.getD 90 undef = .int .i64 (got q 12 4) := hS.dep 4 90
             refine .inl ⟨rfl, ends_value (c := .int .u32 (got q 12 4)) ?_⟩
             simp [Act.eval, d90, go_sem, k12]
            | 6, ho =>
             obtain rfl := Option.some.inj ho
             have d8 : bx.tmps.getD 8 undef = .string q := hS.base 8
             refine .inl ⟨rfl, ends_value (c := .string q) ?_⟩
             simp [execOp, Act.eval, d8]
            | 7, ho =>
             obtain rfl := Option.some.inj ho
             have d92 : bx.tmps.getD 92 undef = .string q := hS.dep 6 92
             refine .inl ⟨rfl, ends_call (c := .int .i64 (got q 16 4)) (by kernel_rfl) (f := 128) (args := #[.string q, .int .i64 16, .int .i64 4]) ?_ (Q4 16 4 u)⟩
             simp [Act.eval, d92, go_sem]
            | 8, ho =>
             obtain rfl := Option.some.inj ho
             have d93 : bx.tmps.getD 93 undef = .int .i64 (got q 16 4) := hS.dep 7 93
             refine .inl ⟨rfl, ends_value (c := .int .u32 (got q 16 4)) ?_⟩
             simp [Act.eval, d93, go_sem, k16]
            | 9, ho =>
             obtain rfl := Option.some.inj ho
             have d8 : bx.tmps.getD 8 undef = .string q := hS.base 8
             refine .inl ⟨rfl, ends_value (c := .string q) ?_⟩
             simp [execOp, Act.eval, d8]
            | 10, ho =>
             obtain rfl := Option.some.inj ho
             have d9 : bx.tmps.getD 9 undef = .int .i64 (qSize q) := hS.base 9
             refine .inl ⟨rfl, ends_value (c := .int .i64 (qSize q)) ?_⟩
             simp [execOp, Act.eval, d9]
            | 11, ho =>
             obtain rfl := Option.some.inj ho
             have d95 : bx.tmps.getD 95 undef = .string q := hS.dep 9 95
             have d96 : bx.tmps.getD 96 undef = .int .i64 (qSize q) := hS.dep 10 96
             refine .inl ⟨rfl, ends_call (c := .int .i64 (got q (qSize q) 2)) (by kernel_rfl) (f := 128) (args := #[.string q, .int .i64 (qSize q), .int .i64 2]) ?_ (Q4 (qSize q) 2 u)⟩
             simp [Act.eval, d95, d96, go_sem]
            | 12, ho =>
             obtain rfl := Option.some.inj ho
             have d8 : bx.tmps.getD 8 undef = .string q := hS.base 8
             refine .inl ⟨rfl, ends_value (c := .string q) ?_⟩
             simp [execOp, Act.eval, d8]
            | 13, ho =>
             obtain rfl := Option.some.inj ho
             have d9 : bx.tmps.getD 9 undef = .int .i64 (qSize q) := hS.base 9
             refine .inl ⟨rfl, ends_value (c := .int .i64 (qSize q)) ?_⟩
             simp [execOp, Act.eval, d9]
            | 14, ho =>
             obtain rfl := Option.some.inj ho
             have d99 : bx.tmps.getD 99 undef = .int .i64 (qSize q) := hS.dep 13 99
             refine .inl ⟨rfl, ends_value (c := .int .i64 (qSize q + 2)) ?_⟩
             simp [Act.eval, d99, go_sem, kz]
            | 15, ho =>
             obtain rfl := Option.some.inj ho
             have d98 : bx.tmps.getD 98 undef = .string q := hS.dep 12 98
             have d100 : bx.tmps.getD 100 undef = .int .i64 (qSize q + 2) := hS.dep 14 100
             refine .inl ⟨rfl, ends_call (c := .int .i64 (got q (qSize q + 2) 2)) (by kernel_rfl) (f := 128) (args := #[.string q, .int .i64 (qSize q + 2), .int .i64 2]) ?_ (Q4 (qSize q + 2) 2 u)⟩
             simp [Act.eval, d98, d100, go_sem]
            | 16, ho =>
             obtain rfl := Option.some.inj ho
             have d88 : bx.tmps.getD 88 undef = .int .i64 (got q 9 1) := hS.dep 2 88
             have q88 : bx.tmps[88]?.getD undef = .int .i64 (got q 9 1) := by rw [← Array.getD_eq_getD_getElem?]; exact d88
             have d91 : bx.tmps.getD 91 undef = .int .u32 (got q 12 4) := hS.dep 5 91
             have q91 : bx.tmps[91]?.getD undef = .int .u32 (got q 12 4) := by rw [← Array.getD_eq_getD_getElem?]; exact d91
             have d94 : bx.tmps.getD 94 undef = .int .u32 (got q 16 4) := hS.dep 8 94
             have q94 : bx.tmps[94]?.getD undef = .int .u32 (got q 16 4) := by rw [← Array.getD_eq_getD_getElem?]; exact d94
             have d97 : bx.tmps.getD 97 undef = .int .i64 (got q (qSize q) 2) := hS.dep 11 97
             have q97 : bx.tmps[97]?.getD undef = .int .i64 (got q (qSize q) 2) := by rw [← Array.getD_eq_getD_getElem?]; exact d97
             have d101 : bx.tmps.getD 101 undef = .int .i64 (got q (qSize q + 2) 2) := hS.dep 15 101
             have q101 : bx.tmps[101]?.getD undef = .int .i64 (got q (qSize q + 2) 2) := by rw [← Array.getD_eq_getD_getElem?]; exact d101
             refine .inl ⟨rfl, ends_value (c := .agg #[.int .i64 (got q 9 1), .int .u32 (got q 12 4), .int .u32 (got q 16 4), .int .i64 (got q (qSize q) 2), .int .i64 (got q (qSize q + 2) 2)]) ?_⟩
             simp [Act.eval, q88, q91, q94, q97, q101, go_sem]
            | 17, ho =>
             obtain rfl := Option.some.inj ho
             have d2 : bx.tmps.getD 2 undef = .pointer (some ⟨w.heap.size, 0, none⟩) := hS.base 2
             refine .inl ⟨rfl, ends_value (c := .pointer (some ⟨w.heap.size, 3, none⟩)) ?_⟩
             simp [Act.eval, d2, go_sem]
            | 18, _ => exact absurd rfl hne
            | n + 19, ho => exact absurd ho (by simp)
           case store =>
            intro o bx u ho hbel hS
            obtain rfl := Option.some.inj ho
            have d103 : bx.tmps.getD 103 undef = .pointer (some ⟨w.heap.size, 3, none⟩) := hS.dep 17 103
            have d102 : bx.tmps.getD 102 undef = .agg #[.int .i64 (got q 9 1), .int .u32 (got q 12 4), .int .u32 (got q 16 4), .int .i64 (got q (qSize q) 2), .int .i64 (got q (qSize q + 2) 2)] := hS.dep 16 102
            have hrr := up u hbel
            have t3 := hrr.cell 3 _ rfl
            have t4 := hrr.cell 4 _ rfl
            have t5 := hrr.cell 5 _ rfl
            have t6 := hrr.cell 6 _ rfl
            have t7 := hrr.cell 7 _ rfl
            have tf := hrr.free
            refine ⟨rfl, ?_⟩
            simp [Act.eval, d103, d102, go_sem, t3, t4, t5, t6, t7, tf, setRow]
           case fin =>
            intro u hbel
            simp [putAll, dstAt, Act.put]
            have r1 : Row u (w.heap.size + 1) zeroPk.cells := (r0.of_block (W' := V3.drew) rfl).on hbel r0.lt
            have p1 := up u hbel
            have b1 : Below w.heap.size w u := Below.then (show Below w.heap.size w V3 from by assumption) (show Below V3.heap.size V3 u from ⟨hbel.os, hbel.tape, hbel.output, hbel.size, hbel.block⟩)
            have p2 := (((((p1.set 3 (.int .i64 (got q 9 1))).set 4 (.int .u32 (got q 12 4))).set 5 (.int .u32 (got q 16 4))).set 6 (.int .i64 (got q (qSize q) 2))).set 7 (.int .i64 (got q (qSize q + 2) 2)))
            have r2 : Row (setRow u w.heap.size 3 [.int .i64 (got q 9 1), .int .u32 (got q 12 4), .int .u32 (got q 16 4), .int .i64 (got q (qSize q) 2), .int .i64 (got q (qSize q + 2) 2)]) (w.heap.size + 1) zeroPk.cells := r1.of_block (setRow_heap _ _ (by omega) _ _ _)
            have b2 : Below w.heap.size w (setRow u w.heap.size 3 [.int .i64 (got q 9 1), .int .u32 (got q 12 4), .int .u32 (got q 16 4), .int .i64 (got q (qSize q) 2), .int .i64 (got q (qSize q + 2) 2)]) := b1.trans (setRow_below _ _ _ _)
            replace p2 : Row (setRow u w.heap.size 3 [.int .i64 (got q 9 1), .int .u32 (got q 12 4), .int .u32 (got q 16 4), .int .i64 (got q (qSize q) 2), .int .i64 (got q (qSize q + 2) 2)]) w.heap.size (Pk.cells ⟨2, p.pos, p.total, ⟨got q 9 1, got q 12 4, got q 16 4, got q (qSize q) 2, got q (qSize q + 2) 2⟩, p.flags, p.ttl, p.src, p.dst, p.pos + 8, p.pos + 8 + qSize q⟩) := p2
            generalize setRow u w.heap.size 3 [.int .i64 (got q 9 1), .int .u32 (got q 12 4), .int .u32 (got q 16 4), .int .i64 (got q (qSize q) 2), .int .i64 (got q (qSize q + 2) 2)] = U2 at *
            clear up p1 r1 b1 p0 r0 hbel
            have pp0 := p2.cell 0 _ rfl
            have pp1 := p2.cell 1 _ rfl
            have pp2 := p2.cell 2 _ rfl
            have pp3 := p2.cell 3 _ rfl
            have pp4 := p2.cell 4 _ rfl
            have pp5 := p2.cell 5 _ rfl
            have pp6 := p2.cell 6 _ rfl
            have pp7 := p2.cell 7 _ rfl
            have pp8 := p2.cell 8 _ rfl
            have pp9 := p2.cell 9 _ rfl
            have pp10 := p2.cell 10 _ rfl
            have pp11 := p2.cell 11 _ rfl
            have pp12 := p2.cell 12 _ rfl
            have pp13 := p2.cell 13 _ rfl
            have c0 := r2.cell 0 _ rfl
            have c1 := r2.cell 1 _ rfl
            have c2 := r2.cell 2 _ rfl
            have c3 := r2.cell 3 _ rfl
            have c4 := r2.cell 4 _ rfl
            have c5 := r2.cell 5 _ rfl
            have c6 := r2.cell 6 _ rfl
            have c7 := r2.cell 7 _ rfl
            have c8 := r2.cell 8 _ rfl
            have c9 := r2.cell 9 _ rfl
            have c10 := r2.cell 10 _ rfl
            have c11 := r2.cell 11 _ rfl
            have c12 := r2.cell 12 _ rfl
            have c13 := r2.cell 13 _ rfl
            have fr := r2.free
            have R := row_all (Pk.cells ⟨2, p.pos, p.total, ⟨got q 9 1, got q 12 4, got q 16 4, got q (qSize q) 2, got q (qSize q + 2) 2⟩, p.flags, p.ttl, p.src, p.dst, p.pos + 8, p.pos + 8 + qSize q⟩) r2 rfl
            have B := b2.trans ((setRow_below (w.heap.size + 1) (Pk.cells ⟨2, p.pos, p.total, ⟨got q 9 1, got q 12 4, got q 16 4, got q (qSize q) 2, got q (qSize q + 2) 2⟩, p.flags, p.ttl, p.src, p.dst, p.pos + 8, p.pos + 8 + qSize q⟩) 0 U2).mono (by omega))
            simp only [setRow, Nat.zero_add, Nat.reduceAdd] at R B
            have HR9 := hide (And.intro R B)
            clear R B r2 p2 b2
            go_wp2_with fail
            obtain ⟨R, B⟩ := unhide HR9
            have z0 := R.cell 0 _ rfl
            have z1 := R.cell 1 _ rfl
            have z2 := R.cell 2 _ rfl
            have z3 := R.cell 3 _ rfl
            have z4 := R.cell 4 _ rfl
            have z5 := R.cell 5 _ rfl
            have z6 := R.cell 6 _ rfl
            have z7 := R.cell 7 _ rfl
            have z8 := R.cell 8 _ rfl
            have z9 := R.cell 9 _ rfl
            have z10 := R.cell 10 _ rfl
            have z11 := R.cell 11 _ rfl
            have z12 := R.cell 12 _ rfl
            have z13 := R.cell 13 _ rfl
            refine bodyPost_ret (v := .tuple #[Pk.val ⟨2, p.pos, p.total, ⟨got q 9 1, got q 12 4, got q 16 4, got q (qSize q) 2, got q (qSize q + 2) 2⟩, p.flags, p.ttl, p.src, p.dst, p.pos + 8, p.pos + 8 + qSize q⟩, .int .i64 0]) (by simp [results, Tryz.results90, go_sem, z0, z1, z2, z3, z4, z5, z6, z7, z8, z9, z10, z11, z12, z13]) rfl ⟨ret_pe (unhide HX).1.symm (unhide HX).2.symm, B⟩
          | true =>
           have t6b : (got q 9 1 != 17) = false := by rw [t6a] at t6; simpa using t6
           clear t6
           obtain ⟨p0, r0, hbel⟩ := unhide HRR
           have l1 := p0.cell 1 _ rfl
           have s1 := p0.cell 0 _ rfl
           have f1 := p0.free 0
           replace p0 := p0.set 0 (.int .i64 2)
           replace r0 := r0.other (b := w.heap.size) (by omega) 0 (.int .i64 2)
           replace hbel := hbel.setCell (p := ⟨w.heap.size, 0, none⟩) (Nat.le_refl _) (.int .i64 2)
           obtain ⟨V1, eV1⟩ : ∃ V, WW.setCell ⟨w.heap.size, 0, none⟩ (.int .i64 2) = V := ⟨_, rfl⟩
           rw [eV1] at hbel p0 r0
           have l2 := p0.cell 1 _ rfl
           have s2 := p0.cell 12 _ rfl
           have f2 := p0.free 12
           replace p0 := p0.set 12 (.int .i64 (p.pos + 8))
           replace r0 := r0.other (b := w.heap.size) (by omega) 12 (.int .i64 (p.pos + 8))
           replace hbel := hbel.setCell (p := ⟨w.heap.size, 12, none⟩) (Nat.le_refl _) (.int .i64 (p.pos + 8))
           obtain ⟨V2, eV2⟩ : ∃ V, V1.setCell ⟨w.heap.size, 12, none⟩ (.int .i64 (p.pos + 8)) = V := ⟨_, rfl⟩
           rw [eV2] at hbel p0 r0
           have l3 := p0.cell 12 _ rfl
           have s3 := p0.cell 13 _ rfl
           have f3 := p0.free 13
           replace p0 := p0.set 13 (.int .i64 (p.pos + 8 + qSize q))
           replace r0 := r0.other (b := w.heap.size) (by omega) 13 (.int .i64 (p.pos + 8 + qSize q))
           replace hbel := hbel.setCell (p := ⟨w.heap.size, 13, none⟩) (Nat.le_refl _) (.int .i64 (p.pos + 8 + qSize q))
           obtain ⟨V3, eV3⟩ : ∃ V, V2.setCell ⟨w.heap.size, 13, none⟩ (.int .i64 (p.pos + 8 + qSize q)) = V := ⟨_, rfl⟩
           rw [eV3] at hbel p0 r0
           replace p0 : Row V3 w.heap.size (Pk.cells ⟨2, p.pos, p.total, p.tup, p.flags, p.ttl, p.src, p.dst, p.pos + 8, p.pos + 8 + qSize q⟩) := p0
           have HR3 := hide (And.intro p0 (And.intro r0 hbel))
           clear p0 r0 hbel
           go_wp2_with fail
           obtain ⟨p0, r0, hbel⟩ := unhide HR3
           clear l1 l2 l3 s1 s2 s3 f1 f2 f3 eV1 eV2 eV3
           obtain ⟨-, -, ⟨c0, c1⟩⟩ := got_rng q 12
           obtain ⟨-, -, ⟨d0, d1⟩⟩ := got_rng q 16
           have k12 : IntKind.u32.wrap (got q 12 4) = got q 12 4 := Ck.wraps_u32 _ c0 (by omega)
           have k16 : IntKind.u32.wrap (got q 16 4) = got q 16 4 := Ck.wraps_u32 _ d0 (by omega)
           have kz : IntKind.i64.wrap (qSize q + 2) = qSize q + 2 := Oct.wraps_i64 _ (by omega) (by omega)
           have hi9 : ¬ ((q.size : Int) ≤ 9) := by omega
           have up : ∀ x, Below V3.heap.size V3.drew x → Row x w.heap.size (Pk.cells ⟨2, p.pos, p.total, p.tup, p.flags, p.ttl, p.src, p.dst, p.pos + 8, p.pos + 8 + qSize q⟩) := fun x hb => (p0.of_block (W' := V3.drew) rfl).on hb p0.lt
           have Q4 : ∀ (a b : Int) (u : World), Calls Tryz.prog 128 #[.string q, .int .i64 a, .int .i64 b] u fun e u' => e = .returned (.int .i64 (got q a b)) ∧ Below u.heap.size u u' := fun a b u => (unhide HNum a b u).mono fun _ _ ⟨h1, h2⟩ => ⟨h1, by rw [h2]; exact Below.refl _ _⟩
           refine wp_region_grow_store (by kernel_rfl) [.string q, .int .u8 (got q 9 1), .int .i64 (got q 9 1), .string q, .int .i64 (got q 12 4), .int .u32 (got q 12 4), .string q, .int .i64 (got q 16 4), .int .u32 (got q 16 4), .string q, .int .i64 (qSize q), .int .i64 (got q (qSize q) 2), .string q, .int .i64 (qSize q), .int .i64 (qSize q + 2), .int .i64 (got q (qSize q + 2) 2), .agg #[.int .i64 (got q 9 1), .int .u32 (got q 12 4), .int .u32 (got q 16 4), .int .i64 (got q (qSize q) 2), .int .i64 (got q (qSize q + 2) 2)], .pointer (some ⟨w.heap.size, 3, none⟩), undef] 18 (fun v => setRow v w.heap.size 3 [.int .i64 (got q 9 1), .int .u32 (got q 12 4), .int .u32 (got q 16 4), .int .i64 (got q (qSize q) 2), .int .i64 (got q (qSize q + 2) 2)]) (by kernel_rfl) (by decide) rfl ?op ?store ?fin
           case op =>
            intro i o bx u ho hne hbel hS
            match i, ho with
            | 0, ho =>
             obtain rfl := Option.some.inj ho
             have d8 : bx.tmps.getD 8 undef = .string q := hS.base 8
             refine .inl ⟨rfl, ends_value (c := .string q) ?_⟩
             simp [execOp, Act.eval, d8]
            | 1, ho =>
             obtain rfl := Option.some.inj ho
             have d86 : bx.tmps.getD 86 undef = .string q := hS.dep 0 86
             refine .inl ⟨rfl, ends_value (c := .int .u8 (got q 9 1)) ?_⟩
             simp [Act.eval, d86, go_sem, hlt9, g9]
            | 2, ho =>
             obtain rfl := Option.some.inj ho
             have d87 : bx.tmps.getD 87 undef = .int .u8 (got q 9 1) := hS.dep 1 87
             refine .inl ⟨rfl, ends_value (c := .int .i64 (got q 9 1)) ?_⟩
             simp [Act.eval, d87, go_sem, k9]
            | 3, ho =>
             obtain rfl := Option.some.inj ho
             have d8 : bx.tmps.getD 8 undef = .string q := hS.base 8
             refine .inl ⟨rfl, ends_value (c := .string q) ?_⟩
             simp [execOp, Act.eval, d8]
            | 4, ho =>
             obtain rfl := Option.some.inj ho
             have d89 : bx.tmps.getD 89 undef = .string q := hS.dep 3 89
             refine .inl ⟨rfl, ends_call (c := .int .i64 (got q 12 4)) (by kernel_rfl) (f := 128) (args := #[.string q, .int .i64 12, .int .i64 4]) ?_ (Q4 12 4 u)⟩
             simp [Act.eval, d89, go_sem]
            | 5, ho =>
             obtain rfl := Option.some.inj ho
             have d90 : bx.tmps.getD 90 undef = .int .i64 (got q 12 4) := hS.dep 4 90
             refine .inl ⟨rfl, ends_value (c := .int .u32 (got q 12 4)) ?_⟩
             simp [Act.eval, d90, go_sem, k12]
            | 6, ho =>
             obtain rfl := Option.some.inj ho
             have d8 : bx.tmps.getD 8 undef = .string q := hS.base 8
             refine .inl ⟨rfl, ends_value (c := .string q) ?_⟩
             simp [execOp, Act.eval, d8]
            | 7, ho =>
             obtain rfl := Option.some.inj ho
             have d92 : bx.tmps.getD 92 undef = .string q := hS.dep 6 92
             refine .inl ⟨rfl, ends_call (c := .int .i64 (got q 16 4)) (by kernel_rfl) (f := 128) (args := #[.string q, .int .i64 16, .int .i64 4]) ?_ (Q4 16 4 u)⟩
             simp [Act.eval, d92, go_sem]
            | 8, ho =>
             obtain rfl := Option.some.inj ho
             have d93 : bx.tmps.getD 93 undef = .int .i64 (got q 16 4) := hS.dep 7 93
             refine .inl ⟨rfl, ends_value (c := .int .u32 (got q 16 4)) ?_⟩
             simp [Act.eval, d93, go_sem, k16]
            | 9, ho =>
             obtain rfl := Option.some.inj ho
             have d8 : bx.tmps.getD 8 undef = .string q := hS.base 8
             refine .inl ⟨rfl, ends_value (c := .string q) ?_⟩
             simp [execOp, Act.eval, d8]
            | 10, ho =>
             obtain rfl := Option.some.inj ho
             have d9 : bx.tmps.getD 9 undef = .int .i64 (qSize q) := hS.base 9
             refine .inl ⟨rfl, ends_value (c := .int .i64 (qSize q)) ?_⟩
             simp [execOp, Act.eval, d9]
            | 11, ho =>
             obtain rfl := Option.some.inj ho
             have d95 : bx.tmps.getD 95 undef = .string q := hS.dep 9 95
             have d96 : bx.tmps.getD 96 undef = .int .i64 (qSize q) := hS.dep 10 96
             refine .inl ⟨rfl, ends_call (c := .int .i64 (got q (qSize q) 2)) (by kernel_rfl) (f := 128) (args := #[.string q, .int .i64 (qSize q), .int .i64 2]) ?_ (Q4 (qSize q) 2 u)⟩
             simp [Act.eval, d95, d96, go_sem]
            | 12, ho =>
             obtain rfl := Option.some.inj ho
             have d8 : bx.tmps.getD 8 undef = .string q := hS.base 8
             refine .inl ⟨rfl, ends_value (c := .string q) ?_⟩
             simp [execOp, Act.eval, d8]
            | 13, ho =>
             obtain rfl := Option.some.inj ho
             have d9 : bx.tmps.getD 9 undef = .int .i64 (qSize q) := hS.base 9
             refine .inl ⟨rfl, ends_value (c := .int .i64 (qSize q)) ?_⟩
             simp [execOp, Act.eval, d9]
            | 14, ho =>
             obtain rfl := Option.some.inj ho
             have d99 : bx.tmps.getD 99 undef = .int .i64 (qSize q) := hS.dep 13 99
             refine .inl ⟨rfl, ends_value (c := .int .i64 (qSize q + 2)) ?_⟩
             simp [Act.eval, d99, go_sem, kz]
            | 15, ho =>
             obtain rfl := Option.some.inj ho
             have d98 : bx.tmps.getD 98 undef = .string q := hS.dep 12 98
             have d100 : bx.tmps.getD 100 undef = .int .i64 (qSize q + 2) := hS.dep 14 100
             refine .inl ⟨rfl, ends_call (c := .int .i64 (got q (qSize q + 2) 2)) (by kernel_rfl) (f := 128) (args := #[.string q, .int .i64 (qSize q + 2), .int .i64 2]) ?_ (Q4 (qSize q + 2) 2 u)⟩
             simp [Act.eval, d98, d100, go_sem]
            | 16, ho =>
             obtain rfl := Option.some.inj ho
             have d88 : bx.tmps.getD 88 undef = .int .i64 (got q 9 1) := hS.dep 2 88
             have q88 : bx.tmps[88]?.getD undef = .int .i64 (got q 9 1) := by rw [← Array.getD_eq_getD_getElem?]; exact d88
             have d91 : bx.tmps.getD 91 undef = .int .u32 (got q 12 4) := hS.dep 5 91
             have q91 : bx.tmps[91]?.getD undef = .int .u32 (got q 12 4) := by rw [← Array.getD_eq_getD_getElem?]; exact d91
             have d94 : bx.tmps.getD 94 undef = .int .u32 (got q 16 4) := hS.dep 8 94
             have q94 : bx.tmps[94]?.getD undef = .int .u32 (got q 16 4) := by rw [← Array.getD_eq_getD_getElem?]; exact d94
             have d97 : bx.tmps.getD 97 undef = .int .i64 (got q (qSize q) 2) := hS.dep 11 97
             have q97 : bx.tmps[97]?.getD undef = .int .i64 (got q (qSize q) 2) := by rw [← Array.getD_eq_getD_getElem?]; exact d97
             have d101 : bx.tmps.getD 101 undef = .int .i64 (got q (qSize q + 2) 2) := hS.dep 15 101
             have q101 : bx.tmps[101]?.getD undef = .int .i64 (got q (qSize q + 2) 2) := by rw [← Array.getD_eq_getD_getElem?]; exact d101
             refine .inl ⟨rfl, ends_value (c := .agg #[.int .i64 (got q 9 1), .int .u32 (got q 12 4), .int .u32 (got q 16 4), .int .i64 (got q (qSize q) 2), .int .i64 (got q (qSize q + 2) 2)]) ?_⟩
             simp [Act.eval, q88, q91, q94, q97, q101, go_sem]
            | 17, ho =>
             obtain rfl := Option.some.inj ho
             have d2 : bx.tmps.getD 2 undef = .pointer (some ⟨w.heap.size, 0, none⟩) := hS.base 2
             refine .inl ⟨rfl, ends_value (c := .pointer (some ⟨w.heap.size, 3, none⟩)) ?_⟩
             simp [Act.eval, d2, go_sem]
            | 18, _ => exact absurd rfl hne
            | n + 19, ho => exact absurd ho (by simp)
           case store =>
            intro o bx u ho hbel hS
            obtain rfl := Option.some.inj ho
            have d103 : bx.tmps.getD 103 undef = .pointer (some ⟨w.heap.size, 3, none⟩) := hS.dep 17 103
            have d102 : bx.tmps.getD 102 undef = .agg #[.int .i64 (got q 9 1), .int .u32 (got q 12 4), .int .u32 (got q 16 4), .int .i64 (got q (qSize q) 2), .int .i64 (got q (qSize q + 2) 2)] := hS.dep 16 102
            have hrr := up u hbel
            have t3 := hrr.cell 3 _ rfl
            have t4 := hrr.cell 4 _ rfl
            have t5 := hrr.cell 5 _ rfl
            have t6 := hrr.cell 6 _ rfl
            have t7 := hrr.cell 7 _ rfl
            have tf := hrr.free
            refine ⟨rfl, ?_⟩
            simp [Act.eval, d103, d102, go_sem, t3, t4, t5, t6, t7, tf, setRow]
           case fin =>
            intro u hbel
            simp [putAll, dstAt, Act.put]
            have r1 : Row u (w.heap.size + 1) zeroPk.cells := (r0.of_block (W' := V3.drew) rfl).on hbel r0.lt
            have p1 := up u hbel
            have b1 : Below w.heap.size w u := Below.then (show Below w.heap.size w V3 from by assumption) (show Below V3.heap.size V3 u from ⟨hbel.os, hbel.tape, hbel.output, hbel.size, hbel.block⟩)
            have p2 := (((((p1.set 3 (.int .i64 (got q 9 1))).set 4 (.int .u32 (got q 12 4))).set 5 (.int .u32 (got q 16 4))).set 6 (.int .i64 (got q (qSize q) 2))).set 7 (.int .i64 (got q (qSize q + 2) 2)))
            have r2 : Row (setRow u w.heap.size 3 [.int .i64 (got q 9 1), .int .u32 (got q 12 4), .int .u32 (got q 16 4), .int .i64 (got q (qSize q) 2), .int .i64 (got q (qSize q + 2) 2)]) (w.heap.size + 1) zeroPk.cells := r1.of_block (setRow_heap _ _ (by omega) _ _ _)
            have b2 : Below w.heap.size w (setRow u w.heap.size 3 [.int .i64 (got q 9 1), .int .u32 (got q 12 4), .int .u32 (got q 16 4), .int .i64 (got q (qSize q) 2), .int .i64 (got q (qSize q + 2) 2)]) := b1.trans (setRow_below _ _ _ _)
            replace p2 : Row (setRow u w.heap.size 3 [.int .i64 (got q 9 1), .int .u32 (got q 12 4), .int .u32 (got q 16 4), .int .i64 (got q (qSize q) 2), .int .i64 (got q (qSize q + 2) 2)]) w.heap.size (Pk.cells ⟨2, p.pos, p.total, ⟨got q 9 1, got q 12 4, got q 16 4, got q (qSize q) 2, got q (qSize q + 2) 2⟩, p.flags, p.ttl, p.src, p.dst, p.pos + 8, p.pos + 8 + qSize q⟩) := p2
            generalize setRow u w.heap.size 3 [.int .i64 (got q 9 1), .int .u32 (got q 12 4), .int .u32 (got q 16 4), .int .i64 (got q (qSize q) 2), .int .i64 (got q (qSize q + 2) 2)] = U2 at *
            clear up p1 r1 b1 p0 r0 hbel
            have pp0 := p2.cell 0 _ rfl
            have pp1 := p2.cell 1 _ rfl
            have pp2 := p2.cell 2 _ rfl
            have pp3 := p2.cell 3 _ rfl
            have pp4 := p2.cell 4 _ rfl
            have pp5 := p2.cell 5 _ rfl
            have pp6 := p2.cell 6 _ rfl
            have pp7 := p2.cell 7 _ rfl
            have pp8 := p2.cell 8 _ rfl
            have pp9 := p2.cell 9 _ rfl
            have pp10 := p2.cell 10 _ rfl
            have pp11 := p2.cell 11 _ rfl
            have pp12 := p2.cell 12 _ rfl
            have pp13 := p2.cell 13 _ rfl
            have c0 := r2.cell 0 _ rfl
            have c1 := r2.cell 1 _ rfl
            have c2 := r2.cell 2 _ rfl
            have c3 := r2.cell 3 _ rfl
            have c4 := r2.cell 4 _ rfl
            have c5 := r2.cell 5 _ rfl
            have c6 := r2.cell 6 _ rfl
            have c7 := r2.cell 7 _ rfl
            have c8 := r2.cell 8 _ rfl
            have c9 := r2.cell 9 _ rfl
            have c10 := r2.cell 10 _ rfl
            have c11 := r2.cell 11 _ rfl
            have c12 := r2.cell 12 _ rfl
            have c13 := r2.cell 13 _ rfl
            have fr := r2.free
            have R := row_all (Pk.cells ⟨2, p.pos, p.total, ⟨got q 9 1, got q 12 4, got q 16 4, got q (qSize q) 2, got q (qSize q + 2) 2⟩, p.flags, p.ttl, p.src, p.dst, p.pos + 8, p.pos + 8 + qSize q⟩) r2 rfl
            have B := b2.trans ((setRow_below (w.heap.size + 1) (Pk.cells ⟨2, p.pos, p.total, ⟨got q 9 1, got q 12 4, got q 16 4, got q (qSize q) 2, got q (qSize q + 2) 2⟩, p.flags, p.ttl, p.src, p.dst, p.pos + 8, p.pos + 8 + qSize q⟩) 0 U2).mono (by omega))
            simp only [setRow, Nat.zero_add, Nat.reduceAdd] at R B
            have HR9 := hide (And.intro R B)
            clear R B r2 p2 b2
            go_wp2_with fail
            obtain ⟨R, B⟩ := unhide HR9
            have z0 := R.cell 0 _ rfl
            have z1 := R.cell 1 _ rfl
            have z2 := R.cell 2 _ rfl
            have z3 := R.cell 3 _ rfl
            have z4 := R.cell 4 _ rfl
            have z5 := R.cell 5 _ rfl
            have z6 := R.cell 6 _ rfl
            have z7 := R.cell 7 _ rfl
            have z8 := R.cell 8 _ rfl
            have z9 := R.cell 9 _ rfl
            have z10 := R.cell 10 _ rfl
            have z11 := R.cell 11 _ rfl
            have z12 := R.cell 12 _ rfl
            have z13 := R.cell 13 _ rfl
            refine bodyPost_ret (v := .tuple #[Pk.val ⟨2, p.pos, p.total, ⟨got q 9 1, got q 12 4, got q 16 4, got q (qSize q) 2, got q (qSize q + 2) 2⟩, p.flags, p.ttl, p.src, p.dst, p.pos + 8, p.pos + 8 + qSize q⟩, .int .i64 0]) (by simp [results, Tryz.results90, go_sem, z0, z1, z2, z3, z4, z5, z6, z7, z8, z9, z10, z11, z12, z13]) rfl ⟨ret_pe (unhide HX).1.symm (unhide HX).2.symm, B⟩
end Go.Proofs.YtpjaajeojiaeiaaGreatDoor
