/- What Build computes: the packet of a header and a body. -/
import Derived.Test.YtfppjpcolohmfaaIpRight
import Derived.Test.YtfppjpcolohmfaaIpText
import Derived.Test.YtfppjpcolohmfaaCkSum
import Derived.Test.YtfppjpcolohmfaaIpGrow
import Derived.Test.YtfppjpcolohmfaaIpSetH
import Derived.Test.YtfppjpcolohmfaaIpHead
import Derived.Test.YtfppjpcolohmfaaIpRead
namespace Go.Proofs.Ytfppjpcolohmfaa
open Go.ChangeShapes Go.WideShapes Go.ChangeAt Go.RowKit

/-- A fixed part with another total, or another check. -/
theorem fix_total {W : World} {b : Nat} {h : Hd} {t t' c : Int} (hf : FixAt W b (hfix h t c)) : FixAt (W.setCell ⟨b, 3, none⟩ (.int .i64 t')) b (hfix h t' c) := by
  intro k hk
  by_cases e : k = 3
  · subst e; exact World.cell?_setCell_same _ _ _ (hf 3 hk)
  · rw [World.cell?_setCell_other _ _ _ _ (fun h => by cases h; omega), hf k hk]
    have hks : k = 0 ∨ k = 1 ∨ k = 2 ∨ k = 4 ∨ k = 5 ∨ k = 6 ∨ k = 7 ∨ k = 8 ∨ k = 9 ∨ k = 10 ∨ k = 11 := by omega
    rcases hks with rfl | rfl | rfl | rfl | rfl | rfl | rfl | rfl | rfl | rfl | rfl <;> rfl
theorem fix_check {W : World} {b : Nat} {h : Hd} {t c c' : Int} (hf : FixAt W b (hfix h t c)) : FixAt (W.setCell ⟨b, 9, none⟩ (.int .i64 c')) b (hfix h t c') := by
  intro k hk
  by_cases e : k = 9
  · subst e; exact World.cell?_setCell_same _ _ _ (hf 9 hk)
  · rw [World.cell?_setCell_other _ _ _ _ (fun h => by cases h; omega), hf k hk]
    have hks : k = 0 ∨ k = 1 ∨ k = 2 ∨ k = 3 ∨ k = 4 ∨ k = 5 ∨ k = 6 ∨ k = 7 ∨ k = 8 ∨ k = 10 ∨ k = 11 := by omega
    rcases hks with rfl | rfl | rfl | rfl | rfl | rfl | rfl | rfl | rfl | rfl | rfl <;> rfl
/-- What a right header has. -/
structure RightP (h : Hd) : Prop where
  tos : 0 ≤ h.tos ∧ h.tos ≤ 255
  ttl : 0 ≤ h.ttl ∧ h.ttl ≤ 255
  proto : 0 ≤ h.proto ∧ h.proto ≤ 255
  id : 0 ≤ h.id ∧ h.id ≤ 65535
  flags : 0 ≤ h.flags ∧ h.flags ≤ 7
  frag : 0 ≤ h.frag ∧ h.frag ≤ 8191
  o40 : h.opts.size ≤ 40
  o4 : h.opts.size % 4 = 0
  ok : optsOk h.opts.data.toList = true
theorem rightP_of {h : Hd} (hr : rightB h = true) : RightP h := by
  unfold rightB optB at hr
  simp only [Bool.and_eq_true, inB_iff, decide_eq_true_eq] at hr
  obtain ⟨⟨⟨⟨⟨⟨h1, h2⟩, h3⟩, h4⟩, h5⟩, h6⟩, ⟨h7, h8⟩, h9⟩ := hr
  exact ⟨h1, h2, h3, h4, h5, h6, h7, h8, h9⟩
theorem rightP_to {h : Hd} (hr : RightP h) : rightB h = true := by
  obtain ⟨h1, h2, h3, h4, h5, h6, h7, h8, h9⟩ := hr
  unfold rightB optB
  simp only [Bool.and_eq_true, inB_iff, decide_eq_true_eq]
  exact ⟨⟨⟨⟨⟨⟨h1, h2⟩, h3⟩, h4⟩, h5⟩, h6⟩, ⟨h7, h8⟩, h9⟩
theorem fits_of {h : Hd} (hr : RightP h) (hw : h.Wf) {t c : Int} (t0 : 0 ≤ t) (t1 : t ≤ 65535) (c0 : 0 ≤ c) (c1 : c ≤ 65535) : Fits12 (hfix h t c) := by
  have hs := hw.src
  have hd := hw.dst
  obtain ⟨h1, h2, h3, h4, h5, h6, h7, h8, h9⟩ := hr
  intro k hk
  have hks : k = 0 ∨ k = 1 ∨ k = 2 ∨ k = 3 ∨ k = 4 ∨ k = 5 ∨ k = 6 ∨ k = 7 ∨ k = 8 ∨ k = 9 ∨ k = 10 ∨ k = 11 := by omega
  rcases hks with rfl | rfl | rfl | rfl | rfl | rfl | rfl | rfl | rfl | rfl | rfl | rfl <;> simp [hfix, fx, fbits] <;> omega

/-- How many bytes all is; the check; the packet. -/
def btotal (h : Hd) (body : ByteArray) : Int := 20 + h.opts.size + body.size
def bsummed (h : Hd) (body : ByteArray) : ByteArray := ftext (hfix h (btotal h body) 0) ++ h.opts
def bcheck (h : Hd) (body : ByteArray) : Int := 65535 - Ck.sum (bsummed h body).data.toList
def bhead (h : Hd) (body : ByteArray) : ByteArray := ftext (hfix h (btotal h body) (bcheck h body)) ++ h.opts
def built (h : Hd) (body : ByteArray) : ByteArray := bhead h body ++ body
def buildE (h : Hd) (body : ByteArray) : Int := if rightB h = false then 1 else if 1500 < btotal h body then 18 else 0
def buildS (h : Hd) (body : ByteArray) : ByteArray := if buildE h body = 0 then built h body else ⟨#[]⟩
theorem bcheck_lo (h : Hd) (body : ByteArray) : 0 ≤ bcheck h body := by unfold bcheck; have := Ck.sum_hi (bsummed h body).data.toList; omega
theorem bcheck_hi (h : Hd) (body : ByteArray) : bcheck h body ≤ 65535 := by unfold bcheck; have := Ck.sum_lo (bsummed h body).data.toList; omega

theorem ret_si {a b : ByteArray} {x y : Int} (h : a = b) (h2 : x = y) : Ending.returned (.tuple #[.string a, .int .i64 x]) = .returned (.tuple #[.string b, .int .i64 y]) := by rw [h, h2]

set_option maxRecDepth 100000 in
set_option maxHeartbeats 4000000 in
theorem build_any (h : Hd) (body : ByteArray) (w : World) (hw : h.Wf) (hbody : body.size ≤ 140737488355328) :
    Calls Try.prog 11 #[h.val, .string body] w fun e w' => e = .returned (.tuple #[.string (buildS h body), .int .i64 (buildE h body)]) ∧ Below w.heap.size w w' := by
  have hos := hw.opts
  have HW := hide hw
  have hal : Below w.heap.size w (w.alloc (.cells #[.int .i64 h.tos, .int .i64 h.id, .int .i64 h.flags, .int .i64 h.frag, .int .i64 h.ttl, .int .i64 h.proto, .int .u32 h.src, .int .u32 h.dst, .string h.opts] 24)) := (Below.refl _ _).alloc (Nat.le_refl _) _
  have hbox := (newHd w h 24).at_
  clear hw
  cases hr : rightB h with
  | false =>
    have HE : Hid (buildE h body = 1) := by show _ = _; unfold buildE; rw [if_pos hr]
    have HS : Hid (buildS h body = ⟨#[]⟩) := by show _ = _; unfold buildS; rw [HE.out, if_neg (by decide)]
    go_enter Try.func11, Try.ntmps11
    go_wp2_with fail
    refine (right_any h _ (unhide HW)).mono ?_
    rintro e w1 ⟨rfl, hb1⟩
    rw [hr]
    go_wp2_with fail
    go_ret2
    exact ⟨ret_si HS.out.symm HE.out.symm, hal.trans (hb1.mono (by simp))⟩
  | true =>
    have HP := hide (rightP_of hr)
    go_enter Try.func11, Try.ntmps11
    go_wp2_with fail
    refine (right_any h _ (unhide HW)).mono ?_
    rintro e w1 ⟨rfl, hb1⟩
    have hbox1 := hbox.on hb1 (by simp)
    have hbw1 := hal.trans (hb1.mono (by simp))
    have hs1 : w.heap.size + 1 ≤ w1.heap.size := by have := hb1.size; simp at this; omega
    rw [hr]
    clear hb1 hbox hal
    have q0 := hbox1 0 (by decide)
    have q1 := hbox1 1 (by decide)
    have q2 := hbox1 2 (by decide)
    have q3 := hbox1 3 (by decide)
    have q4 := hbox1 4 (by decide)
    have q5 := hbox1 5 (by decide)
    have q6 := hbox1 6 (by decide)
    have q7 := hbox1 7 (by decide)
    have q8 := hbox1 8 (by decide)
    simp only [hcell] at q0 q1 q2 q3 q4 q5 q6 q7 q8
    have HX := hide hbox1
    have HBW := hide hbw1
    clear hbox1 hbw1
    go_wp2_with fail
    refine (fixedOf_any h _ (unhide HW)).mono ?_
    rintro e w2 ⟨rfl, hb2⟩
    have hbox2 := (unhide HX).on hb2 (by omega)
    have hbw2 := (unhide HBW).trans (hb2.mono (by omega))
    have hs2 : w.heap.size + 1 ≤ w2.heap.size := by have := hb2.size; omega
    clear hb2 HX HBW q0 q1 q2 q3 q4 q5 q6 q7 q8 hr
    generalize hFe : hfix h 0 0 = F at *
    have hV1 := fixAt_new w2 F 55
    have hVa : Below w2.heap.size w2 (w2.alloc (.cells #[.int .i64 (F 0), .int .i64 (F 1), .int .i64 (F 2), .int .i64 (F 3), .int .i64 (F 4), .int .i64 (F 5), .int .i64 (F 6), .int .i64 (F 7), .int .i64 (F 8), .int .i64 (F 9), .int .i64 (F 10), .int .i64 (F 11)] 55)) := (Below.refl _ _).alloc (Nat.le_refl _) _
    have hVf : ∀ j, (w2.alloc (.cells #[.int .i64 (F 0), .int .i64 (F 1), .int .i64 (F 2), .int .i64 (F 3), .int .i64 (F 4), .int .i64 (F 5), .int .i64 (F 6), .int .i64 (F 7), .int .i64 (F 8), .int .i64 (F 9), .int .i64 (F 10), .int .i64 (F 11)] 55)).frozen? ⟨w2.heap.size, j, none⟩ = false := fun j => by simp [go_sem]
    have hVs : (w2.alloc (.cells #[.int .i64 (F 0), .int .i64 (F 1), .int .i64 (F 2), .int .i64 (F 3), .int .i64 (F 4), .int .i64 (F 5), .int .i64 (F 6), .int .i64 (F 7), .int .i64 (F 8), .int .i64 (F 9), .int .i64 (F 10), .int .i64 (F 11)] 55)).heap.size = w2.heap.size + 1 := by simp
    go_wp2_with fail
    generalize w2.alloc (.cells #[.int .i64 (F 0), .int .i64 (F 1), .int .i64 (F 2), .int .i64 (F 3), .int .i64 (F 4), .int .i64 (F 5), .int .i64 (F 6), .int .i64 (F 7), .int .i64 (F 8), .int .i64 (F 9), .int .i64 (F 10), .int .i64 (F 11)] 55) = V at *
    have hboxV := hbox2.on hVa (by omega)
    have hbwV := hbw2.trans (hVa.mono (by omega))
    clear hbox2 hbw2 hVa
    subst hFe
    have ho40 := (unhide HP).o40
    have ho4 := (unhide HP).o4
    have hF1 : hfix h 0 0 1 = (20 + h.opts.size) / 4 := rfl
    refine (size_any w2.heap.size (hfix h 0 0) V hV1 (by rw [hF1]; omega) (by rw [hF1]; omega)).mono ?_
    rintro e w3 ⟨rfl, he3⟩
    have he3 := he3.symm
    subst he3
    have hsum : hfix h 0 0 1 * 4 = 20 + h.opts.size := by rw [hF1]; omega
    rw [hsum]
    have ct := hV1 3 (by decide)
    have cf := hVf 3
    have hfx := fix_total (t' := btotal h body) hV1
    have hbt : (20 : Int) + h.opts.size + body.size = btotal h body := rfl
    have HV := hide hV1
    have HBX := hide hboxV
    have HBV := hide hbwV
    have HFR := hide hVf
    clear hV1 hboxV hbwV hVf hF1 hsum
    have bt0 : 0 ≤ btotal h body := by omega
    by_cases hl : 1500 < btotal h body
    · have HE : Hid (buildE h body = 18) := by show _ = _; unfold buildE; rw [if_neg (by rw [rightP_to (unhide HP)]; decide), if_pos hl]
      have HS : Hid (buildS h body = ⟨#[]⟩) := by show _ = _; unfold buildS; rw [HE.out, if_neg (by decide)]
      have hd : decide (1500 < btotal h body) = true := by simpa using hl
      go_wp2_with fail
      go_ret2
      exact ⟨ret_si HS.out.symm HE.out.symm, (unhide HBV).setCell (p := ⟨w2.heap.size, 3, none⟩) (by simp; omega) _⟩
    · have HE : Hid (buildE h body = 0) := by show _ = _; unfold buildE; rw [if_neg (by rw [rightP_to (unhide HP)]; decide), if_neg hl]
      have HS : Hid (buildS h body = built h body) := by show _ = _; unfold buildS; rw [HE.out, if_pos rfl]
      have hd : decide (1500 < btotal h body) = false := by simpa using hl
      go_wp2_with fail
      generalize hT : btotal h body = T at *
      have hbV1 := (unhide HBV).setCell (p := ⟨w2.heap.size, 3, none⟩) (by simp; omega) (.int .i64 T)
      have hbx1 : (V.setCell ⟨w2.heap.size, 3, none⟩ (.int .i64 T)).cell? ⟨w.heap.size, 8, none⟩ = some (.string h.opts) := (World.cell?_setCell_other _ _ _ _ (ne_addr (by omega))).trans ((unhide HBX) 8 (by decide))
      have hfr1 : ∀ j, (V.setCell ⟨w2.heap.size, 3, none⟩ (.int .i64 T)).frozen? ⟨w2.heap.size, j, none⟩ = false := fun j => by rw [World.frozen?_setCell]; exact (unhide HFR) j
      have hss : (V.setCell ⟨w2.heap.size, 3, none⟩ (.int .i64 T)).heap.size = w2.heap.size + 1 := by simp [World.setCell]; exact hVs
      generalize V.setCell ⟨w2.heap.size, 3, none⟩ (.int .i64 T) = V1 at *
      clear HBV HBX HFR HV ct cf hd
      have hfit : ∀ c, 0 ≤ c → c ≤ 65535 → Fits12 (hfix h T c) := fun c c0 c1 => fits_of (unhide HP) (unhide HW) bt0 (by omega) c0 c1
      have hts : (ftext (hfix h T 0)).size = 20 := ftext_size _
      have ha1 := fun (wx : World) => run_string_add_sum (P := Try.prog) (w := wx) (ftext (hfix h T 0)) h.opts (by omega)
      have hck : ∀ u, Calls Try.prog 25 #[.string (ftext (hfix h T 0) ++ h.opts)] u fun e u' => e = .returned (.int .u16 (bcheck h body)) ∧ Below u.heap.size u u' := fun u => by
        have e : bcheck h body = 65535 - Ck.sum (ftext (hfix h T 0) ++ h.opts).data.toList := by unfold bcheck bsummed; rw [hT]
        rw [e]; exact check_any _ u (by rw [ByteArray.size_append]; omega)
      have c0 := bcheck_lo h body
      have c1 := bcheck_hi h body
      have hbuilt : built h body = ftext (hfix h T (bcheck h body)) ++ h.opts ++ body := by unfold built bhead; rw [hT]
      rw [hbuilt] at HS
      clear hbuilt
      generalize bcheck h body = c at *
      have hwc := Oct.wraps_i64 c c0 (by omega)
      have htxt : ∀ c u, 0 ≤ c → c ≤ 65535 → FixAt u w2.heap.size (hfix h T c) → w2.heap.size + 1 ≤ u.heap.size → Calls Try.prog 26 #[.pointer (some ⟨w2.heap.size, 0, none⟩)] u fun e u' => e = .returned (.string (ftext (hfix h T c))) ∧ Below u.heap.size u u' :=
        fun c u c0 c1 hf hlt => text_any w2.heap.size (hfix h T c) u hf (hfit c c0 c1) (by omega)
      have hon : ∀ {u : World}, Below V1.heap.size V1.drew u → FixAt u w2.heap.size (hfix h T 0) ∧ u.cell? ⟨w.heap.size, 8, none⟩ = some (.string h.opts) ∧ w2.heap.size + 1 ≤ u.heap.size ∧ u.frozen? ⟨w2.heap.size, 9, none⟩ = false := fun {u} hb =>
        ⟨hfx.drew.on hb (by omega), (hb.cell (p := ⟨w.heap.size, 8, none⟩) (by simp; omega)).trans hbx1, by have := hb.size; rw [← hss]; exact this, (hb.frozen (p := ⟨w2.heap.size, 9, none⟩) (by simp; omega)).trans (hfr1 9)⟩
      refine wp_region_grow_store (by kernel_rfl) [.string (ftext (hfix h T 0)), .pointer (some ⟨w.heap.size, 8, none⟩), .string h.opts, .string (ftext (hfix h T 0) ++ h.opts), .int .u16 c, .int .i64 c, .pointer (some ⟨w2.heap.size, 9, none⟩), undef] 7 (fun v => v.setCell ⟨w2.heap.size, 9, none⟩ (.int .i64 c)) (by kernel_rfl) (by decide) rfl ?op ?store ?fin
      case op =>
        intro i o bx u ho hne hbel hS
        match i, ho with
        | 0, ho =>
          obtain rfl := Option.some.inj ho
          have d6 : bx.tmps.getD 6 undef = .pointer (some ⟨w2.heap.size, 0, none⟩) := hS.base 6 (by kernel_rfl)
          refine .inl ⟨rfl, ends_call (c := .string (ftext (hfix h T 0))) (by kernel_rfl) (f := 26) (args := #[.pointer (some ⟨w2.heap.size, 0, none⟩)]) ?_ (htxt 0 u (Int.le_refl 0) (by decide) (hon (hbel (by kernel_rfl))).1 (hon (hbel (by kernel_rfl))).2.2.1)⟩
          simp [Act.eval, d6, go_sem]
        | 1, ho =>
          obtain rfl := Option.some.inj ho
          have d2 : bx.tmps.getD 2 undef = .pointer (some ⟨w.heap.size, 0, none⟩) := hS.base 2 (by kernel_rfl)
          refine .inl ⟨rfl, ends_value (c := .pointer (some ⟨w.heap.size, 8, none⟩)) ?_⟩
          simp [Act.eval, d2, go_sem]
        | 2, ho =>
          obtain rfl := Option.some.inj ho
          have d21 : bx.tmps.getD 21 undef = .pointer (some ⟨w.heap.size, 8, none⟩) := hS.dep 1 21 (by kernel_rfl) (by kernel_rfl)
          have hl := (hon (hbel (by kernel_rfl))).2.1
          refine .inl ⟨rfl, ends_value (c := .string h.opts) ?_⟩
          simp [Act.eval, d21, go_sem, hl]
        | 3, ho =>
          obtain rfl := Option.some.inj ho
          have d20 : bx.tmps.getD 20 undef = .string (ftext (hfix h T 0)) := hS.dep 0 20 (by kernel_rfl) (by kernel_rfl)
          have d22 : bx.tmps.getD 22 undef = .string h.opts := hS.dep 2 22 (by kernel_rfl) (by kernel_rfl)
          refine .inl ⟨rfl, ends_value (c := .string (ftext (hfix h T 0) ++ h.opts)) ?_⟩
          simp [Act.eval, d20, d22, go_sem, ha1]
        | 4, ho =>
          obtain rfl := Option.some.inj ho
          have d23 : bx.tmps.getD 23 undef = .string (ftext (hfix h T 0) ++ h.opts) := hS.dep 3 23 (by kernel_rfl) (by kernel_rfl)
          refine .inl ⟨rfl, ends_call (c := .int .u16 c) (by kernel_rfl) (f := 25) (args := #[.string (ftext (hfix h T 0) ++ h.opts)]) ?_ (hck u)⟩
          simp [Act.eval, d23, go_sem]
        | 5, ho =>
          obtain rfl := Option.some.inj ho
          have d24 : bx.tmps.getD 24 undef = .int .u16 c := hS.dep 4 24 (by kernel_rfl) (by kernel_rfl)
          refine .inl ⟨rfl, ends_value (c := .int .i64 c) ?_⟩
          simp [Act.eval, d24, go_sem, hwc]
        | 6, ho =>
          obtain rfl := Option.some.inj ho
          have d6 : bx.tmps.getD 6 undef = .pointer (some ⟨w2.heap.size, 0, none⟩) := hS.base 6 (by kernel_rfl)
          refine .inl ⟨rfl, ends_value (c := .pointer (some ⟨w2.heap.size, 9, none⟩)) ?_⟩
          simp [Act.eval, d6, go_sem]
        | 7, _ => exact absurd rfl hne
        | n + 8, ho => exact absurd ho (by simp)
      case store =>
        intro o bx u ho hbel hS
        obtain rfl := Option.some.inj ho
        have d26 : bx.tmps.getD 26 undef = .pointer (some ⟨w2.heap.size, 9, none⟩) := hS.dep 6 26 (by kernel_rfl) (by kernel_rfl)
        have d25 : bx.tmps.getD 25 undef = .int .i64 c := hS.dep 5 25 (by kernel_rfl) (by kernel_rfl)
        have k9 := (hon hbel).1 9 (by decide)
        have k9f := (hon hbel).2.2.2
        refine ⟨rfl, ?_⟩
        simp [Act.eval, d26, d25, go_sem, k9, k9f]
      case fin =>
        intro u hbel
        simp [putAll, dstAt, Act.put]
        have hfx2 := fix_check (c' := c) (hon hbel).1
        have hbx2 : (u.setCell ⟨w2.heap.size, 9, none⟩ (.int .i64 c)).cell? ⟨w.heap.size, 8, none⟩ = some (.string h.opts) := (World.cell?_setCell_other _ _ _ _ (ne_addr (by omega))).trans (hon hbel).2.1
        have hbz : Below w.heap.size w (u.setCell ⟨w2.heap.size, 9, none⟩ (.int .i64 c)) := (hbV1.drew.trans (hbel.mono (by omega))).setCell (p := ⟨w2.heap.size, 9, none⟩) (by simp; omega) _
        have hzs : w2.heap.size + 1 ≤ (u.setCell ⟨w2.heap.size, 9, none⟩ (.int .i64 c)).heap.size := by simp [World.setCell]; exact (hon hbel).2.2.1
        generalize u.setCell ⟨w2.heap.size, 9, none⟩ (.int .i64 c) = Z at *
        have hts2 : (ftext (hfix h T c)).size = 20 := ftext_size _
        have ha2 := fun (wx : World) => run_string_add_sum (P := Try.prog) (w := wx) (ftext (hfix h T c)) h.opts (by omega)
        have ha3 := fun (wx : World) => run_string_add_sum (P := Try.prog) (w := wx) (ftext (hfix h T c) ++ h.opts) body (by rw [ByteArray.size_append]; omega)
        have hon2 : ∀ {u : World}, Below Z.heap.size Z.drew u → FixAt u w2.heap.size (hfix h T c) ∧ u.cell? ⟨w.heap.size, 8, none⟩ = some (.string h.opts) ∧ w2.heap.size + 1 ≤ u.heap.size := fun {u} hb =>
          ⟨hfx2.drew.on hb (by omega), (hb.cell (p := ⟨w.heap.size, 8, none⟩) (by simp; omega)).trans hbx2, Nat.le_trans hzs hb.size⟩
        clear hbel ha1 hck
        go_wp2_with fail
        refine wp_region_grow (by kernel_rfl) [.string (ftext (hfix h T c)), .pointer (some ⟨w.heap.size, 8, none⟩), .string h.opts, .string (ftext (hfix h T c) ++ h.opts), .string body, .string (ftext (hfix h T c) ++ h.opts ++ body), .string (ftext (hfix h T c) ++ h.opts ++ body), .int .i64 (0)] (by kernel_rfl) ?op ?fin
        case op =>
          intro i o bx u ho hbel hS
          match i, ho with
          | 0, ho =>
            obtain rfl := Option.some.inj ho
            have d6 : bx.tmps.getD 6 undef = .pointer (some ⟨w2.heap.size, 0, none⟩) := hS.base 6 (by kernel_rfl)
            refine .inl ⟨rfl, ends_call' (c := .string (ftext (hfix h T c))) (f := 26) (args := #[.pointer (some ⟨w2.heap.size, 0, none⟩)]) ?_ (htxt c u c0 c1 (hon2 hbel).1 (hon2 hbel).2.2)⟩
            simp [Act.eval, d6, go_sem]
          | 1, ho =>
            obtain rfl := Option.some.inj ho
            have d2 : bx.tmps.getD 2 undef = .pointer (some ⟨w.heap.size, 0, none⟩) := hS.base 2 (by kernel_rfl)
            refine .inl ⟨rfl, ends_value' (c := .pointer (some ⟨w.heap.size, 8, none⟩)) ?_⟩
            simp [Act.eval, d2, go_sem]
          | 2, ho =>
            obtain rfl := Option.some.inj ho
            have d28 : bx.tmps.getD 28 undef = .pointer (some ⟨w.heap.size, 8, none⟩) := hS.dep 1 28 (by kernel_rfl) (by kernel_rfl)
            have hl := (hon2 hbel).2.1
            refine .inl ⟨rfl, ends_value' (c := .string h.opts) ?_⟩
            simp [Act.eval, d28, go_sem, hl]
          | 3, ho =>
            obtain rfl := Option.some.inj ho
            have d27 : bx.tmps.getD 27 undef = .string (ftext (hfix h T c)) := hS.dep 0 27 (by kernel_rfl) (by kernel_rfl)
            have d29 : bx.tmps.getD 29 undef = .string h.opts := hS.dep 2 29 (by kernel_rfl) (by kernel_rfl)
            refine .inl ⟨rfl, ends_value' (c := .string (ftext (hfix h T c) ++ h.opts)) ?_⟩
            simp [Act.eval, d27, d29, go_sem, ha2]
          | 4, ho =>
            obtain rfl := Option.some.inj ho
            have d1 : bx.tmps.getD 1 undef = .string body := hS.base 1 (by kernel_rfl)
            refine .inl ⟨rfl, ends_value' (c := .string body) ?_⟩
            simp [execOp, Act.eval, d1]
          | 5, ho =>
            obtain rfl := Option.some.inj ho
            have d30 : bx.tmps.getD 30 undef = .string (ftext (hfix h T c) ++ h.opts) := hS.dep 3 30 (by kernel_rfl) (by kernel_rfl)
            have d31 : bx.tmps.getD 31 undef = .string body := hS.dep 4 31 (by kernel_rfl) (by kernel_rfl)
            refine .inl ⟨rfl, ends_value' (c := .string (ftext (hfix h T c) ++ h.opts ++ body)) ?_⟩
            simp [Act.eval, d30, d31, go_sem, ha3]
          | 6, ho =>
            obtain rfl := Option.some.inj ho
            have d32 : bx.tmps.getD 32 undef = .string (ftext (hfix h T c) ++ h.opts ++ body) := hS.dep 5 32 (by kernel_rfl) (by kernel_rfl)
            refine .inl ⟨rfl, ends_value' (c := .string (ftext (hfix h T c) ++ h.opts ++ body)) ?_⟩
            simp [execOp, Act.eval, d32]
          | 7, ho =>
            obtain rfl := Option.some.inj ho
            refine .inl ⟨rfl, ends_value' (c := .int .i64 (0)) ?_⟩
            simp [execOp, Act.eval]
          | n + 8, ho => exact absurd ho (by simp)
        case fin =>
          intro u hbel
          simp [putAll, dstAt, Act.put]
          go_wp2_with fail
          go_ret2
          exact ⟨ret_si HS.out.symm HE.out.symm, hbz.drew.trans (hbel.mono (by have := hbz.size; omega))⟩
end Go.Proofs.Ytfppjpcolohmfaa
