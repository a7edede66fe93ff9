/- What Build computes: the segment of a header and a body, or why there is none. -/
import Derived.Test.YtgfmpcfdggcifaaTcRight
import Derived.Test.YtgfmpcfdggcifaaTcGrow
namespace Go.Proofs.Ytgfmpcfdggcifaa
open Go.ChangeShapes Go.WideShapes Go.ChangeAt Go.RowKit

def btotal (h : Hd) (body : ByteArray) : Int := 20 + h.opts.size + body.size
/-- The word that has the header's size above the flags. -/
def hword (h : Hd) : Int := (20 + (h.opts.size : Int)) / 4 * 4096 + h.flags
def bhead (h : Hd) : ByteArray := textN 2 [h.src, h.dst] 2 ++ textN 4 [h.seq, h.ack] 2 ++ textN 2 [hword h, h.win, 0, h.urg] 4
def built (h : Hd) (body : ByteArray) : ByteArray := bhead h ++ h.opts ++ body
def buildE (h : Hd) (body : ByteArray) : Int := if rightB h = false then 1 else if 1500 < btotal h body then 18 else 0
def buildS (h : Hd) (body : ByteArray) : ByteArray := if buildE h body = 0 then built h body else ⟨#[]⟩
/-- Each field has room, the options are right. -/
structure RightP (h : Hd) : Prop where
  src : 0 ≤ h.src ∧ h.src ≤ 65535
  dst : 0 ≤ h.dst ∧ h.dst ≤ 65535
  win : 0 ≤ h.win ∧ h.win ≤ 65535
  urg : 0 ≤ h.urg ∧ h.urg ≤ 65535
  flags : 0 ≤ h.flags ∧ h.flags ≤ 4095
  o40 : h.opts.size ≤ 40
  o4 : h.opts.size % 4 = 0
  ok : optsOk h.opts.data.toList = true
theorem rightP_iff (h : Hd) : rightB h = true ↔ RightP h := by
  unfold rightB optB
  rw [portsB_in, flagsB_in]
  simp only [Bool.and_eq_true, inB_iff, decide_eq_true_eq]
  constructor
  · rintro ⟨⟨⟨⟨⟨a, b⟩, c⟩, d⟩, e⟩, ⟨f, g⟩, k⟩
    exact ⟨a, b, c, d, e, f, g, k⟩
  · rintro ⟨a, b, c, d, e, f, g, k⟩
    exact ⟨⟨⟨⟨⟨a, b⟩, c⟩, d⟩, e⟩, ⟨f, g⟩, k⟩
theorem rightP_of {h : Hd} (hr : rightB h = true) : RightP h := (rightP_iff h).1 hr
theorem rightP_to {h : Hd} (hr : RightP h) : rightB h = true := (rightP_iff h).2 hr
theorem ret_si {a b : ByteArray} {x y : Int} (h1 : a = b) (h2 : x = y) : Ending.returned (.tuple #[.string a, .int .i64 x]) = .returned (.tuple #[.string b, .int .i64 y]) := by rw [h1, h2]
theorem hcell_of {V u : World} {b k B : Nat} {v : Value} (hb : Below B V.drew u) (h : b < B) (hc : V.cell? ⟨b, k, none⟩ = some v) : u.cell? ⟨b, k, none⟩ = some v := (hb.cell (p := ⟨b, k, none⟩) h).trans hc
theorem Kept.on' {w W W' : World} {h : Hd} (k : Kept w h W) (hb : Below W.heap.size W.drew W') : Kept w h W' := k.on ⟨hb.os, hb.tape, hb.output, hb.size, hb.block⟩
theorem add_run (x y : ByteArray) (hx : x.size ≤ 140737488355328) (hy : y.size ≤ 140737488355328) : ∀ wx, (Op.stringOp .add x y).run Try.prog wx = .ok (.string (x ++ y)) wx := fun wx => run_string_add_sum (P := Try.prog) (w := wx) x y (by omega)
theorem row_cells (u : World) (t : TypeId) (vs : List Value) (j : Nat) (x : Value) (hj : vs[j]? = some x) : (u.alloc (.cells vs.toArray t)).cell? ⟨u.heap.size, j, none⟩ = some x := by
  have e : vs.toArray[j]? = some x := by simpa using hj
  simp [go_sem, hj]
theorem reads_of2 {u : World} {g : Nat} {a b : Int} (h : ∀ j x, ([.int .i64 a, .int .i64 b] : List Value)[j]? = some x → u.cell? ⟨g, j, none⟩ = some x) : Reads u g [a, b] := by
  intro i hi
  have h3 : i = 0 ∨ i = 1 := by simp at hi; omega
  rcases h3 with rfl | rfl
  · exact h 0 _ rfl
  · exact h 1 _ rfl
theorem reads_of4 {u : World} {g : Nat} {a b c d : Int} (h : ∀ j x, ([.int .i64 a, .int .i64 b, .int .i64 c, .int .i64 d] : List Value)[j]? = some x → u.cell? ⟨g, j, none⟩ = some x) : Reads u g [a, b, c, d] := by
  intro i hi
  have h3 : i = 0 ∨ i = 1 ∨ i = 2 ∨ i = 3 := by simp at hi; omega
  rcases h3 with rfl | rfl | rfl | rfl
  · exact h 0 _ rfl
  · exact h 1 _ rfl
  · exact h 2 _ rfl
  · exact h 3 _ rfl
theorem or_flags (x f : Int) (h0 : 0 ≤ x) (h1 : x ≤ 1000) (f0 : 0 ≤ f) (f1 : f ≤ 4095) : bits .or .i64 (x * 4096) f = x * 4096 + f :=
  bits_join .i64 40 (by decide) Oct.wraps_i64 12 (x * 4096) f (by omega) (by simp) (by simp; omega) f0 (by simp; omega) (by simp; omega)
theorem list29 {α : Type} {l : List α} (h : l.length = 29) : ∃ c0 c1 c2 c3 c4 c5 c6 c7 c8 c9 c10 c11 c12 c13 c14 c15 c16 c17 c18 c19 c20 c21 c22 c23 c24 c25 c26 c27 c28, l = [c0, c1, c2, c3, c4, c5, c6, c7, c8, c9, c10, c11, c12, c13, c14, c15, c16, c17, c18, c19, c20, c21, c22, c23, c24, c25, c26, c27, c28] := by
  match l, h with
  | [c0, c1, c2, c3, c4, c5, c6, c7, c8, c9, c10, c11, c12, c13, c14, c15, c16, c17, c18, c19, c20, c21, c22, c23, c24, c25, c26, c27, c28], _ => exact ⟨c0, c1, c2, c3, c4, c5, c6, c7, c8, c9, c10, c11, c12, c13, c14, c15, c16, c17, c18, c19, c20, c21, c22, c23, c24, c25, c26, c27, c28, rfl⟩
set_option maxRecDepth 100000 in
set_option maxHeartbeats 4000000 in
theorem build_any (h : Hd) (body : ByteArray) (w : World) (hw : h.Wf) (hbody : body.size ≤ 140737488355328) :
    Calls Try.prog 11 #[h.val, .string body] w fun e w' => e = .returned (.tuple #[.string (buildS h body), .int .i64 (buildE h body)]) ∧ Below w.heap.size w w' := by
  have hos := hw.opts
  have HW := hide hw
  have hk0 := kept_new w h 24
  clear hw
  go_enter Try.func11, Try.ntmps11
  go_wp2_with fail
  refine (tright_any h _ (unhide HW)).mono ?_
  rintro e w1 ⟨rfl, hb1⟩
  have hk1 := hk0.on hb1
  clear hb1 hk0
  have c0 := hk1.at_ 0 (by decide)
  have c1 := hk1.at_ 1 (by decide)
  have c2 := hk1.at_ 2 (by decide)
  have c3 := hk1.at_ 3 (by decide)
  have c4 := hk1.at_ 4 (by decide)
  have c5 := hk1.at_ 5 (by decide)
  have c6 := hk1.at_ 6 (by decide)
  have c7 := hk1.at_ 7 (by decide)
  simp only [hcell] at c0 c1 c2 c3 c4 c5 c6 c7
  have HK := hide hk1
  have hlt := hk1.size
  clear hk1
  cases hr : rightB h with
  | false =>
    have HE : Hid (buildE h body = 1) := by show _ = _; unfold buildE; rw [if_pos hr]
    have HS : Hid (buildS h body = ⟨#[]⟩) := by show _ = _; unfold buildS; rw [HE.out, if_neg (by decide)]
    go_wp2_with fail
    go_ret2
    exact ⟨ret_si HS.out.symm HE.out.symm, (unhide HK).below⟩
  | true =>
    have HP := hide (rightP_of hr)
    clear hr
    have hbt : (20 : Int) + h.opts.size + body.size = btotal h body := rfl
    by_cases hl : 1500 < btotal h body
    · have HE : Hid (buildE h body = 18) := by show _ = _; unfold buildE; rw [if_neg (by rw [rightP_to (unhide HP)]; decide), if_pos hl]
      have HS : Hid (buildS h body = ⟨#[]⟩) := by show _ = _; unfold buildS; rw [HE.out, if_neg (by decide)]
      have hd : decide (1500 < btotal h body) = true := by simpa using hl
      go_wp2_with fail
      go_ret2
      exact ⟨ret_si HS.out.symm HE.out.symm, (unhide HK).below⟩
    · have HE : Hid (buildE h body = 0) := by show _ = _; unfold buildE; rw [if_neg (by rw [rightP_to (unhide HP)]; decide), if_neg hl]
      have HS : Hid (buildS h body = built h body) := by show _ = _; unfold buildS; rw [HE.out, if_pos rfl]
      have hd : decide (1500 < btotal h body) = false := by simpa using hl
      have r := unhide HP
      obtain ⟨_, _, _, _, ⟨f0, f1⟩, o40, o4, _⟩ := r
      obtain ⟨u0, u1⟩ := (unhide HW).seq
      obtain ⟨v0, v1⟩ := (unhide HW).ack
      have hbz : body.size ≤ 1500 := by omega
      clear hbody
      go_wp2_with fail
      have k1 : (20 + (h.opts.size : Int)).tdiv 4 = (20 + (h.opts.size : Int)) / 4 := Int.tdiv_eq_ediv_of_nonneg (by omega)
      have k1w := Oct.wraps_i64 ((20 + (h.opts.size : Int)) / 4) (by omega) (by omega)
      have k2 := Oct.wraps_i64 ((20 + (h.opts.size : Int)) / 4 * 4096) (by omega) (by omega)
      have k3 : bits .or .i64 ((20 + (h.opts.size : Int)) / 4 * 4096) h.flags = hword h := or_flags _ _ (by omega) (by omega) f0 f1
      have k6 := Oct.wraps_i64 h.seq u0 (by omega)
      have k7 := Oct.wraps_i64 h.ack v0 (by omega)
      have hA : ∀ (u : World) (g : Nat), Reads u g [h.src, h.dst] → Calls Try.prog 22 #[.int .i64 2, .slice (some ⟨g, 0, none⟩) 2 2] u fun e u' => e = .returned (.string (textN 2 [h.src, h.dst] 2)) ∧ Below u.heap.size u u' := fun u g hr => text_any 2 _ 2 g u rfl (by decide) hr
      have hB : ∀ (u : World) (g : Nat), Reads u g [h.seq, h.ack] → Calls Try.prog 22 #[.int .i64 4, .slice (some ⟨g, 0, none⟩) 2 2] u fun e u' => e = .returned (.string (textN 4 [h.seq, h.ack] 2)) ∧ Below u.heap.size u u' := fun u g hr => text_any 4 _ 2 g u rfl (by decide) hr
      have hC : ∀ (u : World) (g : Nat), Reads u g [hword h, h.win, 0, h.urg] → Calls Try.prog 22 #[.int .i64 2, .slice (some ⟨g, 0, none⟩) 4 4] u fun e u' => e = .returned (.string (textN 2 [hword h, h.win, 0, h.urg] 4)) ∧ Below u.heap.size u u' := fun u g hr => text_any 2 _ 4 g u rfl (by decide) hr
      have sA := textN_size 2 [h.src, h.dst] 2
      have sB := textN_size 4 [h.seq, h.ack] 2
      have sC := textN_size 2 [hword h, h.win, 0, h.urg] 4
      have HX : Hid (built h body = textN 2 [h.src, h.dst] 2 ++ textN 4 [h.seq, h.ack] 2 ++ textN 2 [hword h, h.win, 0, h.urg] 4 ++ h.opts ++ body) := rfl
      generalize textN 2 [h.src, h.dst] 2 = TA at *
      generalize textN 4 [h.seq, h.ack] 2 = TB at *
      generalize textN 2 [hword h, h.win, 0, h.urg] 4 = TC at *
      have ha1 := add_run TA TB (by omega) (by omega)
      have ha2 := add_run (TA ++ TB) TC (by rw [ByteArray.size_append]; omega) (by omega)
      have ha3 := add_run (TA ++ TB ++ TC) h.opts (by rw [ByteArray.size_append, ByteArray.size_append]; omega) (by omega)
      have ha4 := add_run (TA ++ TB ++ TC ++ h.opts) body (by rw [ByteArray.size_append, ByteArray.size_append, ByteArray.size_append]; omega) (by omega)
      refine wp_region_vals (by kernel_rfl) [.inl (.pointer (some ⟨w.heap.size, 0, none⟩)), .inl (.int .i64 h.src), .inl (.pointer (some ⟨w.heap.size, 1, none⟩)), .inl (.int .i64 h.dst), .inr [.int .i64 h.src, .int .i64 h.dst], .inl (.string TA), .inl (.pointer (some ⟨w.heap.size, 2, none⟩)), .inl (.int .u32 h.seq), .inl (.int .i64 h.seq), .inl (.pointer (some ⟨w.heap.size, 3, none⟩)), .inl (.int .u32 h.ack), .inl (.int .i64 h.ack), .inr [.int .i64 h.seq, .int .i64 h.ack], .inl (.string TB), .inl (.string (TA ++ TB)), .inl (.int .i64 (20 + (h.opts.size : Int))), .inl (.int .i64 ((20 + (h.opts.size : Int)) / 4)), .inl (.int .i64 ((20 + (h.opts.size : Int)) / 4 * 4096)), .inl (.pointer (some ⟨w.heap.size, 4, none⟩)), .inl (.int .i64 h.flags), .inl (.int .i64 (hword h)), .inl (.pointer (some ⟨w.heap.size, 5, none⟩)), .inl (.int .i64 h.win), .inl (.pointer (some ⟨w.heap.size, 6, none⟩)), .inl (.int .i64 h.urg), .inr [.int .i64 (hword h), .int .i64 h.win, .int .i64 0, .int .i64 h.urg], .inl (.string TC), .inl (.string (TA ++ TB ++ TC)), .inl (.string (TA ++ TB ++ TC))] (by kernel_rfl) ?op ?fin
      case op =>
        intro i o bx u ho hbel hold hdeps
        match i, ho with
        | 0, ho =>
          obtain rfl := Option.some.inj ho
          have d2 : bx.tmps.getD 2 undef = .pointer (some ⟨w.heap.size, 0, none⟩) := hold 2 (base_of (by kernel_rfl))
          refine .inl ⟨rfl, yields_value (v := .pointer (some ⟨w.heap.size, 0, none⟩)) (u' := u) ?_ (Below.refl _ _) (valIs_inl (by kernel_rfl))⟩
          simp [Act.eval, d2, go_sem]
        | 1, ho =>
          obtain rfl := Option.some.inj ho
          have d20 : bx.tmps.getD 20 undef = .pointer (some ⟨w.heap.size, 0, none⟩) := of_inl (hdeps 0 20 (by kernel_rfl) (by kernel_rfl)) (by kernel_rfl)
          have hl := hcell_of hbel hlt c0
          refine .inl ⟨rfl, yields_value (v := .int .i64 h.src) (u' := u) ?_ (Below.refl _ _) (valIs_inl (by kernel_rfl))⟩
          simp [Act.eval, d20, go_sem, hl]
        | 2, ho =>
          obtain rfl := Option.some.inj ho
          have d2 : bx.tmps.getD 2 undef = .pointer (some ⟨w.heap.size, 0, none⟩) := hold 2 (base_of (by kernel_rfl))
          refine .inl ⟨rfl, yields_value (v := .pointer (some ⟨w.heap.size, 1, none⟩)) (u' := u) ?_ (Below.refl _ _) (valIs_inl (by kernel_rfl))⟩
          simp [Act.eval, d2, go_sem]
        | 3, ho =>
          obtain rfl := Option.some.inj ho
          have d22 : bx.tmps.getD 22 undef = .pointer (some ⟨w.heap.size, 1, none⟩) := of_inl (hdeps 2 22 (by kernel_rfl) (by kernel_rfl)) (by kernel_rfl)
          have hl := hcell_of hbel hlt c1
          refine .inl ⟨rfl, yields_value (v := .int .i64 h.dst) (u' := u) ?_ (Below.refl _ _) (valIs_inl (by kernel_rfl))⟩
          simp [Act.eval, d22, go_sem, hl]
        | 4, ho =>
          obtain rfl := Option.some.inj ho
          have d21 : bx.tmps.getD 21 undef = .int .i64 h.src := of_inl (hdeps 1 21 (by kernel_rfl) (by kernel_rfl)) (by kernel_rfl)
          have q21 : bx.tmps[21]?.getD undef = .int .i64 h.src := by rw [← Array.getD_eq_getD_getElem?]; exact d21
          have d23 : bx.tmps.getD 23 undef = .int .i64 h.dst := of_inl (hdeps 3 23 (by kernel_rfl) (by kernel_rfl)) (by kernel_rfl)
          have q23 : bx.tmps[23]?.getD undef = .int .i64 h.dst := by rw [← Array.getD_eq_getD_getElem?]; exact d23
          refine .inl ⟨rfl, yields_value (v := .slice (some ⟨u.heap.size, 0, none⟩) 2 2) (u' := u.alloc (.cells #[.int .i64 h.src, .int .i64 h.dst] 3)) ?_ ((Below.refl _ _).alloc (Nat.le_refl _) _) (valIs_inr (cs := [.int .i64 h.src, .int .i64 h.dst]) (by kernel_rfl) (fun j x hj => row_cells u _ [.int .i64 h.src, .int .i64 h.dst] j x hj))⟩
          simp [Act.eval, q21, q23, go_sem]
        | 5, ho =>
          obtain rfl := Option.some.inj ho
          obtain ⟨g24, d24, dc24⟩ : ∃ g, bx.tmps.getD 24 undef = .slice (some ⟨g, 0, none⟩) 2 2 ∧ ∀ j x, ([.int .i64 h.src, .int .i64 h.dst] : List Value)[j]? = some x → u.cell? ⟨g, j, none⟩ = some x := of_inr (cs := [.int .i64 h.src, .int .i64 h.dst]) (hdeps 4 24 (by kernel_rfl) (by kernel_rfl)) (by kernel_rfl)
          refine .inl ⟨rfl, yields_call (f := 22) (args := #[.int .i64 2, .slice (some ⟨g24, 0, none⟩) 2 2]) ?_ (hA u g24 (reads_of2 dc24)) (fun u' => valIs_inl (by kernel_rfl))⟩
          simp [Act.eval, d24, go_sem]
        | 6, ho =>
          obtain rfl := Option.some.inj ho
          have d2 : bx.tmps.getD 2 undef = .pointer (some ⟨w.heap.size, 0, none⟩) := hold 2 (base_of (by kernel_rfl))
          refine .inl ⟨rfl, yields_value (v := .pointer (some ⟨w.heap.size, 2, none⟩)) (u' := u) ?_ (Below.refl _ _) (valIs_inl (by kernel_rfl))⟩
          simp [Act.eval, d2, go_sem]
        | 7, ho =>
          obtain rfl := Option.some.inj ho
          have d26 : bx.tmps.getD 26 undef = .pointer (some ⟨w.heap.size, 2, none⟩) := of_inl (hdeps 6 26 (by kernel_rfl) (by kernel_rfl)) (by kernel_rfl)
          have hl := hcell_of hbel hlt c2
          refine .inl ⟨rfl, yields_value (v := .int .u32 h.seq) (u' := u) ?_ (Below.refl _ _) (valIs_inl (by kernel_rfl))⟩
          simp [Act.eval, d26, go_sem, hl]
        | 8, ho =>
          obtain rfl := Option.some.inj ho
          have d27 : bx.tmps.getD 27 undef = .int .u32 h.seq := of_inl (hdeps 7 27 (by kernel_rfl) (by kernel_rfl)) (by kernel_rfl)
          refine .inl ⟨rfl, yields_value (v := .int .i64 h.seq) (u' := u) ?_ (Below.refl _ _) (valIs_inl (by kernel_rfl))⟩
          simp [Act.eval, d27, go_sem, k6]
        | 9, ho =>
          obtain rfl := Option.some.inj ho
          have d2 : bx.tmps.getD 2 undef = .pointer (some ⟨w.heap.size, 0, none⟩) := hold 2 (base_of (by kernel_rfl))
          refine .inl ⟨rfl, yields_value (v := .pointer (some ⟨w.heap.size, 3, none⟩)) (u' := u) ?_ (Below.refl _ _) (valIs_inl (by kernel_rfl))⟩
          simp [Act.eval, d2, go_sem]
        | 10, ho =>
          obtain rfl := Option.some.inj ho
          have d29 : bx.tmps.getD 29 undef = .pointer (some ⟨w.heap.size, 3, none⟩) := of_inl (hdeps 9 29 (by kernel_rfl) (by kernel_rfl)) (by kernel_rfl)
          have hl := hcell_of hbel hlt c3
          refine .inl ⟨rfl, yields_value (v := .int .u32 h.ack) (u' := u) ?_ (Below.refl _ _) (valIs_inl (by kernel_rfl))⟩
          simp [Act.eval, d29, go_sem, hl]
        | 11, ho =>
          obtain rfl := Option.some.inj ho
          have d30 : bx.tmps.getD 30 undef = .int .u32 h.ack := of_inl (hdeps 10 30 (by kernel_rfl) (by kernel_rfl)) (by kernel_rfl)
          refine .inl ⟨rfl, yields_value (v := .int .i64 h.ack) (u' := u) ?_ (Below.refl _ _) (valIs_inl (by kernel_rfl))⟩
          simp [Act.eval, d30, go_sem, k7]
        | 12, ho =>
          obtain rfl := Option.some.inj ho
          have d28 : bx.tmps.getD 28 undef = .int .i64 h.seq := of_inl (hdeps 8 28 (by kernel_rfl) (by kernel_rfl)) (by kernel_rfl)
          have q28 : bx.tmps[28]?.getD undef = .int .i64 h.seq := by rw [← Array.getD_eq_getD_getElem?]; exact d28
          have d31 : bx.tmps.getD 31 undef = .int .i64 h.ack := of_inl (hdeps 11 31 (by kernel_rfl) (by kernel_rfl)) (by kernel_rfl)
          have q31 : bx.tmps[31]?.getD undef = .int .i64 h.ack := by rw [← Array.getD_eq_getD_getElem?]; exact d31
          refine .inl ⟨rfl, yields_value (v := .slice (some ⟨u.heap.size, 0, none⟩) 2 2) (u' := u.alloc (.cells #[.int .i64 h.seq, .int .i64 h.ack] 3)) ?_ ((Below.refl _ _).alloc (Nat.le_refl _) _) (valIs_inr (cs := [.int .i64 h.seq, .int .i64 h.ack]) (by kernel_rfl) (fun j x hj => row_cells u _ [.int .i64 h.seq, .int .i64 h.ack] j x hj))⟩
          simp [Act.eval, q28, q31, go_sem]
        | 13, ho =>
          obtain rfl := Option.some.inj ho
          obtain ⟨g32, d32, dc32⟩ : ∃ g, bx.tmps.getD 32 undef = .slice (some ⟨g, 0, none⟩) 2 2 ∧ ∀ j x, ([.int .i64 h.seq, .int .i64 h.ack] : List Value)[j]? = some x → u.cell? ⟨g, j, none⟩ = some x := of_inr (cs := [.int .i64 h.seq, .int .i64 h.ack]) (hdeps 12 32 (by kernel_rfl) (by kernel_rfl)) (by kernel_rfl)
          refine .inl ⟨rfl, yields_call (f := 22) (args := #[.int .i64 4, .slice (some ⟨g32, 0, none⟩) 2 2]) ?_ (hB u g32 (reads_of2 dc32)) (fun u' => valIs_inl (by kernel_rfl))⟩
          simp [Act.eval, d32, go_sem]
        | 14, ho =>
          obtain rfl := Option.some.inj ho
          have d25 : bx.tmps.getD 25 undef = .string TA := of_inl (hdeps 5 25 (by kernel_rfl) (by kernel_rfl)) (by kernel_rfl)
          have d33 : bx.tmps.getD 33 undef = .string TB := of_inl (hdeps 13 33 (by kernel_rfl) (by kernel_rfl)) (by kernel_rfl)
          refine .inl ⟨rfl, yields_value (v := .string (TA ++ TB)) (u' := u) ?_ (Below.refl _ _) (valIs_inl (by kernel_rfl))⟩
          simp [Act.eval, d25, d33, go_sem, ha1]
        | 15, ho =>
          obtain rfl := Option.some.inj ho
          have d6 : bx.tmps.getD 6 undef = .int .i64 (20 + (h.opts.size : Int)) := hold 6 (base_of (by kernel_rfl))
          refine .inl ⟨rfl, yields_value (v := .int .i64 (20 + (h.opts.size : Int))) (u' := u) ?_ (Below.refl _ _) (valIs_inl (by kernel_rfl))⟩
          simp [execOp, Act.eval, d6]
        | 16, ho =>
          obtain rfl := Option.some.inj ho
          have d35 : bx.tmps.getD 35 undef = .int .i64 (20 + (h.opts.size : Int)) := of_inl (hdeps 15 35 (by kernel_rfl) (by kernel_rfl)) (by kernel_rfl)
          refine .inl ⟨rfl, yields_value (v := .int .i64 ((20 + (h.opts.size : Int)) / 4)) (u' := u) ?_ (Below.refl _ _) (valIs_inl (by kernel_rfl))⟩
          simp [Act.eval, d35, go_sem, k1, k1w]
        | 17, ho =>
          obtain rfl := Option.some.inj ho
          have d36 : bx.tmps.getD 36 undef = .int .i64 ((20 + (h.opts.size : Int)) / 4) := of_inl (hdeps 16 36 (by kernel_rfl) (by kernel_rfl)) (by kernel_rfl)
          refine .inl ⟨rfl, yields_value (v := .int .i64 ((20 + (h.opts.size : Int)) / 4 * 4096)) (u' := u) ?_ (Below.refl _ _) (valIs_inl (by kernel_rfl))⟩
          simp [Act.eval, d36, go_sem, k2]
        | 18, ho =>
          obtain rfl := Option.some.inj ho
          have d2 : bx.tmps.getD 2 undef = .pointer (some ⟨w.heap.size, 0, none⟩) := hold 2 (base_of (by kernel_rfl))
          refine .inl ⟨rfl, yields_value (v := .pointer (some ⟨w.heap.size, 4, none⟩)) (u' := u) ?_ (Below.refl _ _) (valIs_inl (by kernel_rfl))⟩
          simp [Act.eval, d2, go_sem]
        | 19, ho =>
          obtain rfl := Option.some.inj ho
          have d38 : bx.tmps.getD 38 undef = .pointer (some ⟨w.heap.size, 4, none⟩) := of_inl (hdeps 18 38 (by kernel_rfl) (by kernel_rfl)) (by kernel_rfl)
          have hl := hcell_of hbel hlt c4
          refine .inl ⟨rfl, yields_value (v := .int .i64 h.flags) (u' := u) ?_ (Below.refl _ _) (valIs_inl (by kernel_rfl))⟩
          simp [Act.eval, d38, go_sem, hl]
        | 20, ho =>
          obtain rfl := Option.some.inj ho
          have d37 : bx.tmps.getD 37 undef = .int .i64 ((20 + (h.opts.size : Int)) / 4 * 4096) := of_inl (hdeps 17 37 (by kernel_rfl) (by kernel_rfl)) (by kernel_rfl)
          have d39 : bx.tmps.getD 39 undef = .int .i64 h.flags := of_inl (hdeps 19 39 (by kernel_rfl) (by kernel_rfl)) (by kernel_rfl)
          refine .inl ⟨rfl, yields_value (v := .int .i64 (hword h)) (u' := u) ?_ (Below.refl _ _) (valIs_inl (by kernel_rfl))⟩
          simp [Act.eval, d37, d39, go_sem, k3]
        | 21, ho =>
          obtain rfl := Option.some.inj ho
          have d2 : bx.tmps.getD 2 undef = .pointer (some ⟨w.heap.size, 0, none⟩) := hold 2 (base_of (by kernel_rfl))
          refine .inl ⟨rfl, yields_value (v := .pointer (some ⟨w.heap.size, 5, none⟩)) (u' := u) ?_ (Below.refl _ _) (valIs_inl (by kernel_rfl))⟩
          simp [Act.eval, d2, go_sem]
        | 22, ho =>
          obtain rfl := Option.some.inj ho
          have d41 : bx.tmps.getD 41 undef = .pointer (some ⟨w.heap.size, 5, none⟩) := of_inl (hdeps 21 41 (by kernel_rfl) (by kernel_rfl)) (by kernel_rfl)
          have hl := hcell_of hbel hlt c5
          refine .inl ⟨rfl, yields_value (v := .int .i64 h.win) (u' := u) ?_ (Below.refl _ _) (valIs_inl (by kernel_rfl))⟩
          simp [Act.eval, d41, go_sem, hl]
        | 23, ho =>
          obtain rfl := Option.some.inj ho
          have d2 : bx.tmps.getD 2 undef = .pointer (some ⟨w.heap.size, 0, none⟩) := hold 2 (base_of (by kernel_rfl))
          refine .inl ⟨rfl, yields_value (v := .pointer (some ⟨w.heap.size, 6, none⟩)) (u' := u) ?_ (Below.refl _ _) (valIs_inl (by kernel_rfl))⟩
          simp [Act.eval, d2, go_sem]
        | 24, ho =>
          obtain rfl := Option.some.inj ho
          have d43 : bx.tmps.getD 43 undef = .pointer (some ⟨w.heap.size, 6, none⟩) := of_inl (hdeps 23 43 (by kernel_rfl) (by kernel_rfl)) (by kernel_rfl)
          have hl := hcell_of hbel hlt c6
          refine .inl ⟨rfl, yields_value (v := .int .i64 h.urg) (u' := u) ?_ (Below.refl _ _) (valIs_inl (by kernel_rfl))⟩
          simp [Act.eval, d43, go_sem, hl]
        | 25, ho =>
          obtain rfl := Option.some.inj ho
          have d40 : bx.tmps.getD 40 undef = .int .i64 (hword h) := of_inl (hdeps 20 40 (by kernel_rfl) (by kernel_rfl)) (by kernel_rfl)
          have q40 : bx.tmps[40]?.getD undef = .int .i64 (hword h) := by rw [← Array.getD_eq_getD_getElem?]; exact d40
          have d42 : bx.tmps.getD 42 undef = .int .i64 h.win := of_inl (hdeps 22 42 (by kernel_rfl) (by kernel_rfl)) (by kernel_rfl)
          have q42 : bx.tmps[42]?.getD undef = .int .i64 h.win := by rw [← Array.getD_eq_getD_getElem?]; exact d42
          have d44 : bx.tmps.getD 44 undef = .int .i64 h.urg := of_inl (hdeps 24 44 (by kernel_rfl) (by kernel_rfl)) (by kernel_rfl)
          have q44 : bx.tmps[44]?.getD undef = .int .i64 h.urg := by rw [← Array.getD_eq_getD_getElem?]; exact d44
          refine .inl ⟨rfl, yields_value (v := .slice (some ⟨u.heap.size, 0, none⟩) 4 4) (u' := u.alloc (.cells #[.int .i64 (hword h), .int .i64 h.win, .int .i64 0, .int .i64 h.urg] 3)) ?_ ((Below.refl _ _).alloc (Nat.le_refl _) _) (valIs_inr (cs := [.int .i64 (hword h), .int .i64 h.win, .int .i64 0, .int .i64 h.urg]) (by kernel_rfl) (fun j x hj => row_cells u _ [.int .i64 (hword h), .int .i64 h.win, .int .i64 0, .int .i64 h.urg] j x hj))⟩
          simp [Act.eval, q40, q42, q44, go_sem]
        | 26, ho =>
          obtain rfl := Option.some.inj ho
          obtain ⟨g45, d45, dc45⟩ : ∃ g, bx.tmps.getD 45 undef = .slice (some ⟨g, 0, none⟩) 4 4 ∧ ∀ j x, ([.int .i64 (hword h), .int .i64 h.win, .int .i64 0, .int .i64 h.urg] : List Value)[j]? = some x → u.cell? ⟨g, j, none⟩ = some x := of_inr (cs := [.int .i64 (hword h), .int .i64 h.win, .int .i64 0, .int .i64 h.urg]) (hdeps 25 45 (by kernel_rfl) (by kernel_rfl)) (by kernel_rfl)
          refine .inl ⟨rfl, yields_call (f := 22) (args := #[.int .i64 2, .slice (some ⟨g45, 0, none⟩) 4 4]) ?_ (hC u g45 (reads_of4 dc45)) (fun u' => valIs_inl (by kernel_rfl))⟩
          simp [Act.eval, d45, go_sem]
        | 27, ho =>
          obtain rfl := Option.some.inj ho
          have d34 : bx.tmps.getD 34 undef = .string (TA ++ TB) := of_inl (hdeps 14 34 (by kernel_rfl) (by kernel_rfl)) (by kernel_rfl)
          have d46 : bx.tmps.getD 46 undef = .string TC := of_inl (hdeps 26 46 (by kernel_rfl) (by kernel_rfl)) (by kernel_rfl)
          refine .inl ⟨rfl, yields_value (v := .string (TA ++ TB ++ TC)) (u' := u) ?_ (Below.refl _ _) (valIs_inl (by kernel_rfl))⟩
          simp [Act.eval, d34, d46, go_sem, ha2]
        | 28, ho =>
          obtain rfl := Option.some.inj ho
          have d47 : bx.tmps.getD 47 undef = .string (TA ++ TB ++ TC) := of_inl (hdeps 27 47 (by kernel_rfl) (by kernel_rfl)) (by kernel_rfl)
          refine .inl ⟨rfl, yields_value (v := .string (TA ++ TB ++ TC)) (u' := u) ?_ (Below.refl _ _) (valIs_inl (by kernel_rfl))⟩
          simp [execOp, Act.eval, d47]
        | n + 29, ho => exact absurd ho (by simp)
      case fin =>
        intro xs u hlen hbel hF
        obtain ⟨x0, x1, x2, x3, x4, x5, x6, x7, x8, x9, x10, x11, x12, x13, x14, x15, x16, x17, x18, x19, x20, x21, x22, x23, x24, x25, x26, x27, x28, rfl⟩ := list29 (l := xs) hlen
        obtain rfl : x0 = .pointer (some ⟨w.heap.size, 0, none⟩) := of_inl (hF 0 20 (by decide) (by kernel_rfl)) (by kernel_rfl)
        obtain rfl : x1 = .int .i64 h.src := of_inl (hF 1 21 (by decide) (by kernel_rfl)) (by kernel_rfl)
        obtain rfl : x2 = .pointer (some ⟨w.heap.size, 1, none⟩) := of_inl (hF 2 22 (by decide) (by kernel_rfl)) (by kernel_rfl)
        obtain rfl : x3 = .int .i64 h.dst := of_inl (hF 3 23 (by decide) (by kernel_rfl)) (by kernel_rfl)
        obtain ⟨g24, rfl, _⟩ : ∃ g, x4 = .slice (some ⟨g, 0, none⟩) 2 2 ∧ ∀ j x, ([.int .i64 h.src, .int .i64 h.dst] : List Value)[j]? = some x → u.cell? ⟨g, j, none⟩ = some x := of_inr (cs := [.int .i64 h.src, .int .i64 h.dst]) (hF 4 24 (by decide) (by kernel_rfl)) (by kernel_rfl)
        obtain rfl : x5 = .string TA := of_inl (hF 5 25 (by decide) (by kernel_rfl)) (by kernel_rfl)
        obtain rfl : x6 = .pointer (some ⟨w.heap.size, 2, none⟩) := of_inl (hF 6 26 (by decide) (by kernel_rfl)) (by kernel_rfl)
        obtain rfl : x7 = .int .u32 h.seq := of_inl (hF 7 27 (by decide) (by kernel_rfl)) (by kernel_rfl)
        obtain rfl : x8 = .int .i64 h.seq := of_inl (hF 8 28 (by decide) (by kernel_rfl)) (by kernel_rfl)
        obtain rfl : x9 = .pointer (some ⟨w.heap.size, 3, none⟩) := of_inl (hF 9 29 (by decide) (by kernel_rfl)) (by kernel_rfl)
        obtain rfl : x10 = .int .u32 h.ack := of_inl (hF 10 30 (by decide) (by kernel_rfl)) (by kernel_rfl)
        obtain rfl : x11 = .int .i64 h.ack := of_inl (hF 11 31 (by decide) (by kernel_rfl)) (by kernel_rfl)
        obtain ⟨g32, rfl, _⟩ : ∃ g, x12 = .slice (some ⟨g, 0, none⟩) 2 2 ∧ ∀ j x, ([.int .i64 h.seq, .int .i64 h.ack] : List Value)[j]? = some x → u.cell? ⟨g, j, none⟩ = some x := of_inr (cs := [.int .i64 h.seq, .int .i64 h.ack]) (hF 12 32 (by decide) (by kernel_rfl)) (by kernel_rfl)
        obtain rfl : x13 = .string TB := of_inl (hF 13 33 (by decide) (by kernel_rfl)) (by kernel_rfl)
        obtain rfl : x14 = .string (TA ++ TB) := of_inl (hF 14 34 (by decide) (by kernel_rfl)) (by kernel_rfl)
        obtain rfl : x15 = .int .i64 (20 + (h.opts.size : Int)) := of_inl (hF 15 35 (by decide) (by kernel_rfl)) (by kernel_rfl)
        obtain rfl : x16 = .int .i64 ((20 + (h.opts.size : Int)) / 4) := of_inl (hF 16 36 (by decide) (by kernel_rfl)) (by kernel_rfl)
        obtain rfl : x17 = .int .i64 ((20 + (h.opts.size : Int)) / 4 * 4096) := of_inl (hF 17 37 (by decide) (by kernel_rfl)) (by kernel_rfl)
        obtain rfl : x18 = .pointer (some ⟨w.heap.size, 4, none⟩) := of_inl (hF 18 38 (by decide) (by kernel_rfl)) (by kernel_rfl)
        obtain rfl : x19 = .int .i64 h.flags := of_inl (hF 19 39 (by decide) (by kernel_rfl)) (by kernel_rfl)
        obtain rfl : x20 = .int .i64 (hword h) := of_inl (hF 20 40 (by decide) (by kernel_rfl)) (by kernel_rfl)
        obtain rfl : x21 = .pointer (some ⟨w.heap.size, 5, none⟩) := of_inl (hF 21 41 (by decide) (by kernel_rfl)) (by kernel_rfl)
        obtain rfl : x22 = .int .i64 h.win := of_inl (hF 22 42 (by decide) (by kernel_rfl)) (by kernel_rfl)
        obtain rfl : x23 = .pointer (some ⟨w.heap.size, 6, none⟩) := of_inl (hF 23 43 (by decide) (by kernel_rfl)) (by kernel_rfl)
        obtain rfl : x24 = .int .i64 h.urg := of_inl (hF 24 44 (by decide) (by kernel_rfl)) (by kernel_rfl)
        obtain ⟨g45, rfl, _⟩ : ∃ g, x25 = .slice (some ⟨g, 0, none⟩) 4 4 ∧ ∀ j x, ([.int .i64 (hword h), .int .i64 h.win, .int .i64 0, .int .i64 h.urg] : List Value)[j]? = some x → u.cell? ⟨g, j, none⟩ = some x := of_inr (cs := [.int .i64 (hword h), .int .i64 h.win, .int .i64 0, .int .i64 h.urg]) (hF 25 45 (by decide) (by kernel_rfl)) (by kernel_rfl)
        obtain rfl : x26 = .string TC := of_inl (hF 26 46 (by decide) (by kernel_rfl)) (by kernel_rfl)
        obtain rfl : x27 = .string (TA ++ TB ++ TC) := of_inl (hF 27 47 (by decide) (by kernel_rfl)) (by kernel_rfl)
        obtain rfl : x28 = .string (TA ++ TB ++ TC) := of_inl (hF 28 7 (by decide) (by kernel_rfl)) (by kernel_rfl)
        clear hF hlen
        simp [putAll, dstAt, Act.put]
        have c7' := hcell_of hbel hlt c7
        have hk2 := (unhide HK).on' hbel
        have HK := hide hk2
        clear hk2 hbel c0 c1 c2 c3 c4 c5 c6 c7 hA hB hC ha1 ha2
        generalize TA ++ TB ++ TC = TT at *
        go_wp2_with fail
        go_ret2
        exact ⟨ret_si (by rw [HS.out, HX.out]) HE.out.symm, (unhide HK).below⟩
end Go.Proofs.Ytgfmpcfdggcifaa
