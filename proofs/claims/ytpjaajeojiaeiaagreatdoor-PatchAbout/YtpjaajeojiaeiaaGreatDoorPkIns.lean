/- What inside and Classify of package packet compute. -/
import Derived.Test.YtpjaajeojiaeiaaGreatDoorPkDat
import Derived.Test.YtpjaajeojiaeiaaGreatDoorPkMsg
namespace Go.Proofs.YtpjaajeojiaeiaaGreatDoor
open Go.ChangeShapes Go.WideShapes Go.ChangeAt Go.RowKit

/-- What the body tells, by its protocol. -/
def inE (proto : Int) (p : Pk) (body : ByteArray) : Int := if proto = 6 then segE p body else if proto = 17 then datE p body else if proto = 1 then msgE body else 9
def inP (proto : Int) (p : Pk) (body : ByteArray) : Pk := if proto = 6 then segP p body else if proto = 17 then datP p body else if proto = 1 then msgP p body else zeroPk

set_option maxRecDepth 100000 in
set_option maxHeartbeats 4000000 in
theorem inside_any (proto : Int) (p : Pk) (body : ByteArray) (w : World) (hs : body.size ≤ 140737488360000) (s1 : Ps.U32 p.src) (s2 : Ps.U32 p.dst) (hE : Ic.Env w) (h0 : 0 ≤ p.pos) (h1 : p.pos ≤ 1000) :
  Calls Tryz.prog 42 #[.int .i64 proto, p.val, .string body] w fun e w' => e = .returned (.tuple #[(inP proto p body).val, .int .i64 (inE proto p body)]) ∧ Below w.heap.size w w' := by
 have HG := hide (And.intro s1 (And.intro s2 (And.intro hE (And.intro h0 h1))))
 clear s1 s2 hE h0 h1
 by_cases h6 : proto = 6
 ·have t6 : (proto == 6) = true := by simpa using h6
  have HC := hide (fun u (hb : Below w.heap.size w u) => segment_any p body u hs (unhide HG).1 (unhide HG).2.1)
  have HP : Hid (inP proto p body = segP p body ∧ inE proto p body = segE p body) := ⟨if_pos h6, if_pos h6⟩
  generalize segE p body = x at *
  generalize segP p body = q at *
  go_enter Tryz.func42, Tryz.ntmps42
  go_wp2_with fail
  refine (unhide HC _ (allocs_below [(p.cells, 45), (zeroPk.cells, 45)] w)).mono ?_
  rintro e W1 ⟨rfl, hb⟩
  have r0 : Row W1 (w.heap.size + 1) zeroPk.cells := (allocs_row [(p.cells, 45), (zeroPk.cells, 45)] w 1 _ _ rfl).on' hb
  have hbel : Below w.heap.size w W1 := Below.then (allocs_below [(p.cells, 45), (zeroPk.cells, 45)] w) hb
  clear hb
  have c0 := r0.cell 0 _ rfl
  have c1 := r0.cell 1 _ rfl
  have c2 := r0.cell 2 _ rfl
  have c3 := r0.cell 3 _ rfl
  have c4 := r0.cell 4 _ rfl
  have c5 := r0.cell 5 _ rfl
  have c6 := r0.cell 6 _ rfl
  have c7 := r0.cell 7 _ rfl
  have c8 := r0.cell 8 _ rfl
  have c9 := r0.cell 9 _ rfl
  have c10 := r0.cell 10 _ rfl
  have c11 := r0.cell 11 _ rfl
  have c12 := r0.cell 12 _ rfl
  have c13 := r0.cell 13 _ rfl
  have fr := r0.free
  have R := row_all q.cells r0 rfl
  have B := hbel.trans ((setRow_below (w.heap.size + 1) q.cells 0 W1).mono (by omega))
  simp only [setRow, Nat.zero_add, Nat.reduceAdd] at R B
  have HR := hide (And.intro R B)
  clear R B r0 hbel
  go_wp2_with fail
  obtain ⟨R, B⟩ := unhide HR
  have z0 := R.cell 0 _ rfl
  have z1 := R.cell 1 _ rfl
  have z2 := R.cell 2 _ rfl
  have z3 := R.cell 3 _ rfl
  have z4 := R.cell 4 _ rfl
  have z5 := R.cell 5 _ rfl
  have z6 := R.cell 6 _ rfl
  have z7 := R.cell 7 _ rfl
  have z8 := R.cell 8 _ rfl
  have z9 := R.cell 9 _ rfl
  have z10 := R.cell 10 _ rfl
  have z11 := R.cell 11 _ rfl
  have z12 := R.cell 12 _ rfl
  have z13 := R.cell 13 _ rfl
  refine bodyPost_ret (v := .tuple #[q.val, .int .i64 x]) (by simp [results, Tryz.results42, go_sem, z0, z1, z2, z3, z4, z5, z6, z7, z8, z9, z10, z11, z12, z13]) rfl ⟨ret_pe HP.out.1.symm HP.out.2.symm, B⟩
 ·have t6 : (proto == 6) = false := by simpa using h6
  by_cases h17 : proto = 17
  ·have t17 : (proto == 17) = true := by simpa using h17
   have HC := hide (fun u (hb : Below w.heap.size w u) => datagram_any p body u hs (unhide HG).1 (unhide HG).2.1)
   have HP : Hid (inP proto p body = datP p body ∧ inE proto p body = datE p body) := ⟨by unfold inP; rw [if_neg h6, if_pos h17], by unfold inE; rw [if_neg h6, if_pos h17]⟩
   generalize datE p body = x at *
   generalize datP p body = q at *
   go_enter Tryz.func42, Tryz.ntmps42
   go_wp2_with fail
   refine (unhide HC _ (allocs_below [(p.cells, 45), (zeroPk.cells, 45)] w)).mono ?_
   rintro e W1 ⟨rfl, hb⟩
   have r0 : Row W1 (w.heap.size + 1) zeroPk.cells := (allocs_row [(p.cells, 45), (zeroPk.cells, 45)] w 1 _ _ rfl).on' hb
   have hbel : Below w.heap.size w W1 := Below.then (allocs_below [(p.cells, 45), (zeroPk.cells, 45)] w) hb
   clear hb
   have c0 := r0.cell 0 _ rfl
   have c1 := r0.cell 1 _ rfl
   have c2 := r0.cell 2 _ rfl
   have c3 := r0.cell 3 _ rfl
   have c4 := r0.cell 4 _ rfl
   have c5 := r0.cell 5 _ rfl
   have c6 := r0.cell 6 _ rfl
   have c7 := r0.cell 7 _ rfl
   have c8 := r0.cell 8 _ rfl
   have c9 := r0.cell 9 _ rfl
   have c10 := r0.cell 10 _ rfl
   have c11 := r0.cell 11 _ rfl
   have c12 := r0.cell 12 _ rfl
   have c13 := r0.cell 13 _ rfl
   have fr := r0.free
   have R := row_all q.cells r0 rfl
   have B := hbel.trans ((setRow_below (w.heap.size + 1) q.cells 0 W1).mono (by omega))
   simp only [setRow, Nat.zero_add, Nat.reduceAdd] at R B
   have HR := hide (And.intro R B)
   clear R B r0 hbel
   go_wp2_with fail
   obtain ⟨R, B⟩ := unhide HR
   have z0 := R.cell 0 _ rfl
   have z1 := R.cell 1 _ rfl
   have z2 := R.cell 2 _ rfl
   have z3 := R.cell 3 _ rfl
   have z4 := R.cell 4 _ rfl
   have z5 := R.cell 5 _ rfl
   have z6 := R.cell 6 _ rfl
   have z7 := R.cell 7 _ rfl
   have z8 := R.cell 8 _ rfl
   have z9 := R.cell 9 _ rfl
   have z10 := R.cell 10 _ rfl
   have z11 := R.cell 11 _ rfl
   have z12 := R.cell 12 _ rfl
   have z13 := R.cell 13 _ rfl
   refine bodyPost_ret (v := .tuple #[q.val, .int .i64 x]) (by simp [results, Tryz.results42, go_sem, z0, z1, z2, z3, z4, z5, z6, z7, z8, z9, z10, z11, z12, z13]) rfl ⟨ret_pe HP.out.1.symm HP.out.2.symm, B⟩
  ·have t17 : (proto == 17) = false := by simpa using h17
   by_cases h1 : proto = 1
   ·have t1 : (proto == 1) = true := by simpa using h1
    have HC := hide (fun u (hb : Below w.heap.size w u) => message_any p body u hs ((unhide HG).2.2.1.on hb) (unhide HG).2.2.2.1 (unhide HG).2.2.2.2)
    have HP : Hid (inP proto p body = msgP p body ∧ inE proto p body = msgE body) := ⟨by unfold inP; rw [if_neg h6, if_neg h17, if_pos h1], by unfold inE; rw [if_neg h6, if_neg h17, if_pos h1]⟩
    generalize msgE body = x at *
    generalize msgP p body = q at *
    go_enter Tryz.func42, Tryz.ntmps42
    go_wp2_with fail
    refine (unhide HC _ (allocs_below [(p.cells, 45), (zeroPk.cells, 45)] w)).mono ?_
    rintro e W1 ⟨rfl, hb⟩
    have r0 : Row W1 (w.heap.size + 1) zeroPk.cells := (allocs_row [(p.cells, 45), (zeroPk.cells, 45)] w 1 _ _ rfl).on' hb
    have hbel : Below w.heap.size w W1 := Below.then (allocs_below [(p.cells, 45), (zeroPk.cells, 45)] w) hb
    clear hb
    have c0 := r0.cell 0 _ rfl
    have c1 := r0.cell 1 _ rfl
    have c2 := r0.cell 2 _ rfl
    have c3 := r0.cell 3 _ rfl
    have c4 := r0.cell 4 _ rfl
    have c5 := r0.cell 5 _ rfl
    have c6 := r0.cell 6 _ rfl
    have c7 := r0.cell 7 _ rfl
    have c8 := r0.cell 8 _ rfl
    have c9 := r0.cell 9 _ rfl
    have c10 := r0.cell 10 _ rfl
    have c11 := r0.cell 11 _ rfl
    have c12 := r0.cell 12 _ rfl
    have c13 := r0.cell 13 _ rfl
    have fr := r0.free
    have R := row_all q.cells r0 rfl
    have B := hbel.trans ((setRow_below (w.heap.size + 1) q.cells 0 W1).mono (by omega))
    simp only [setRow, Nat.zero_add, Nat.reduceAdd] at R B
    have HR := hide (And.intro R B)
    clear R B r0 hbel
    go_wp2_with fail
    obtain ⟨R, B⟩ := unhide HR
    have z0 := R.cell 0 _ rfl
    have z1 := R.cell 1 _ rfl
    have z2 := R.cell 2 _ rfl
    have z3 := R.cell 3 _ rfl
    have z4 := R.cell 4 _ rfl
    have z5 := R.cell 5 _ rfl
    have z6 := R.cell 6 _ rfl
    have z7 := R.cell 7 _ rfl
    have z8 := R.cell 8 _ rfl
    have z9 := R.cell 9 _ rfl
    have z10 := R.cell 10 _ rfl
    have z11 := R.cell 11 _ rfl
    have z12 := R.cell 12 _ rfl
    have z13 := R.cell 13 _ rfl
    refine bodyPost_ret (v := .tuple #[q.val, .int .i64 x]) (by simp [results, Tryz.results42, go_sem, z0, z1, z2, z3, z4, z5, z6, z7, z8, z9, z10, z11, z12, z13]) rfl ⟨ret_pe HP.out.1.symm HP.out.2.symm, B⟩
   ·have t1 : (proto == 1) = false := by simpa using h1
    have HP : Hid (inP proto p body = zeroPk ∧ inE proto p body = 9) := ⟨by unfold inP; rw [if_neg h6, if_neg h17, if_neg h1], by unfold inE; rw [if_neg h6, if_neg h17, if_neg h1]⟩
    have B := hide (allocs_below [(p.cells, 45), (zeroPk.cells, 45)] w)
    go_enter Tryz.func42, Tryz.ntmps42
    go_wp2_with fail
    refine bodyPost_ret (v := .tuple #[zeroPk.val, .int .i64 9]) (by simp [results, Tryz.results42, go_sem, zeroPk, zeroTp]) rfl ⟨ret_pe HP.out.1.symm HP.out.2.symm, unhide B⟩

set_option maxRecDepth 100000 in
set_option maxHeartbeats 2000000 in
theorem cls1_any (bs bh bb : Nat) (s x : ByteArray) (z : Ip.Hd) (W : World) (hs : s.size ≤ 281474976710656) (hne : bh ≠ bb) (h0 : Row W bs [.string s]) (hh : Row W bh (Ip.cells z)) (hb : Row W bb [.string x]) :
  Calls Tryz.prog 37 #[.pointer (some ⟨bs, 0, none⟩), .pointer (some ⟨bh, 0, none⟩), .pointer (some ⟨bb, 0, none⟩)] W fun e W' => e = .returned (.int .i64 (Ip.parseE s)) ∧ Row W' bh (Ip.cells (Ip.parseH s)) ∧ Row W' bb [.string (Ip.parseS s)] ∧ But [bh, bb] W W' := by
 have c := h0.cell 0 _ rfl
 have HP := hide (Ip.parse_any s W hs)
 generalize Ip.parseH s = h at *
 generalize Ip.parseE s = x0 at *
 generalize Ip.parseS s = y at *
 clear h0
 go_enter Tryz.func37, Tryz.ntmps37
 go_wp2_with fail
 refine (unhide HP).mono ?_
 rintro e w1 ⟨rfl, hb1⟩
 replace hh := hh.on' hb1
 replace hb := hb.on' hb1
 have c0 := hh.cell 0 _ rfl
 have c1 := hh.cell 1 _ rfl
 have c2 := hh.cell 2 _ rfl
 have c3 := hh.cell 3 _ rfl
 have c4 := hh.cell 4 _ rfl
 have c5 := hh.cell 5 _ rfl
 have c6 := hh.cell 6 _ rfl
 have c7 := hh.cell 7 _ rfl
 have c8 := hh.cell 8 _ rfl
 have fr := hh.free
 have R1 := (row_all (Ip.cells h) hh rfl).other (b := bb) hne 0 (.string y)
 have z0 := hb.cell 0 _ rfl
 have zf := hb.free 0
 have R2 := (hb.of_block (W' := setRow w1 bh 0 (Ip.cells h)) (setRow_heap _ _ (Ne.symm hne) _ _ _)).set 0 (.string y)
 have B := ((But.of (S := [bh, bb]) hb1).setRow (g := bh) (by simp) 0 (Ip.cells h)).setCell (g := bb) (by simp) 0 (.string y)
 simp only [setRow, Nat.zero_add, Nat.reduceAdd] at R1 R2 B
 have HR := hide (And.intro R1 (And.intro R2 B))
 have hne2 : bb ≠ bh := Ne.symm hne
 clear R1 R2 B hh hb hb1
 go_wp2_with fail
 go_ret
 exact ⟨rfl, (unhide HR).1, (unhide HR).2.1, (unhide HR).2.2⟩

/-- Is it a part of a packet? -/
def fragB (h : Ip.Hd) : Bool := (h.flags % 2 != 0) || (h.frag != 0)
set_option maxHeartbeats 1000000 in
theorem cls2_any (bh : Nat) (h : Ip.Hd) (W : World) (f0 : 0 ≤ h.flags) (f1 : h.flags ≤ 7) (hh : Row W bh (Ip.cells h)) :
  Calls Tryz.prog 40 #[.pointer (some ⟨bh, 0, none⟩)] W fun e W' => e = .returned (.bool (fragB h)) ∧ Below W.heap.size W W' := by
 have c2 := hh.cell 2 _ rfl
 have c3 := hh.cell 3 _ rfl
 have k : bits .and .i64 h.flags 1 = h.flags % 2 := bits_mask .i64 40 (by decide) Oct.wraps_i64 1 (by decide) _ f0 (by omega)
 have HF : Hid (fragB h = ((h.flags % 2 != 0) || (h.frag != 0))) := rfl
 generalize fragB h = F at *
 clear hh
 cases hx : h.flags % 2 != 0 with
 | true =>
  go_enter Tryz.func40, Tryz.ntmps40
  go_wp2
  go_ret
  exact ⟨ret_b (by rw [HF.out, hx]; rfl), Below.refl _ _⟩
 | false =>
  go_enter Tryz.func40, Tryz.ntmps40
  go_wp2
  go_ret
  exact ⟨ret_b (by rw [HF.out, hx]; rfl), Below.refl _ _⟩

set_option maxRecDepth 100000 in
set_option maxHeartbeats 4000000 in
theorem cls3_any (bh bs bb bp : Nat) (h : Ip.Hd) (s body : ByteArray) (z : Pk) (W : World) (hs : s.size ≤ 281474976710656) (hs2 : body.size ≤ 140737488360000) (s1 : Ps.U32 h.src) (s2 : Ps.U32 h.dst) (hE : Ic.Env W) (z0 : 0 ≤ Ip.sizeH s) (z1 : Ip.sizeH s ≤ 1000)
  (hh : Row W bh (Ip.cells h)) (h0 : Row W bs [.string s]) (hb : Row W bb [.string body]) (hp : Row W bp z.cells) :
  Calls Tryz.prog 41 #[.pointer (some ⟨bh, 0, none⟩), .pointer (some ⟨bs, 0, none⟩), .pointer (some ⟨bb, 0, none⟩), .pointer (some ⟨bp, 0, none⟩)] W fun e W' =>
   e = .returned (.int .i64 (inE h.proto (outP s h) body)) ∧ Row W' bp (inP h.proto (outP s h) body).cells ∧ But [bp] W W' := by
 have HO := hide (fun u => outside_any s h u hs)
 have HI := hide (fun u hE' => inside_any h.proto (outP s h) body u hs2 s1 s2 hE' z0 z1)
 generalize inP h.proto (outP s h) body = p at *
 generalize inE h.proto (outP s h) body = x at *
 generalize outP s h = o at *
 go_enter Tryz.func41, Tryz.ntmps41
 go_wp2_with fail
 have up : ∀ u, Below W.heap.size W.drew u → ∀ {b : Nat} {l : List Value}, Row W b l → Row u b l := fun u hb b l hr => (hr.of_block (W' := W.drew) rfl).on hb hr.lt
 refine wp_region_grow_store (by kernel_rfl) [.pointer (some ⟨bh, 5, none⟩), .int .i64 h.proto, .string s, h.val, o.val, .string body, .tuple #[p.val, .int .i64 x], .tuple #[p.val, .int .i64 x], p.val, .int .i64 x, undef, .int .i64 x] 10 (fun v => setRow v bp 0 p.cells) (by kernel_rfl) (by decide) rfl ?op ?store ?fin
 case op =>
  intro i o1 b u ho hi hw hS
  match i, ho with
  | 0, ho =>
   obtain rfl := Option.some.inj ho
   have d0 : b.tmps.getD 0 undef = .pointer (some ⟨bh, 0, none⟩) := hS.base 0
   refine .inl ⟨rfl, ends_value (c := .pointer (some ⟨bh, 5, none⟩)) ?_⟩
   simp [Act.eval, d0, go_sem]
  | 1, ho =>
   obtain rfl := Option.some.inj ho
   have d6 : b.tmps.getD 6 undef = .pointer (some ⟨bh, 5, none⟩) := hS.dep 0 6
   have hl := (up u (hw (by kernel_rfl)) hh).cell 5 _ rfl
   refine .inl ⟨rfl, ends_value (c := .int .i64 h.proto) ?_⟩
   simp [Act.eval, d6, go_sem, hl]
  | 2, ho =>
   obtain rfl := Option.some.inj ho
   have d1 : b.tmps.getD 1 undef = .pointer (some ⟨bs, 0, none⟩) := hS.base 1
   have hl := (up u (hw (by kernel_rfl)) h0).cell 0 _ rfl
   refine .inl ⟨rfl, ends_value (c := .string s) ?_⟩
   simp [Act.eval, d1, go_sem, hl]
  | 3, ho =>
   obtain rfl := Option.some.inj ho
   have d0 : b.tmps.getD 0 undef = .pointer (some ⟨bh, 0, none⟩) := hS.base 0
   have hr := up u (hw (by kernel_rfl)) hh
   have c0 := hr.cell 0 _ rfl
   have c1 := hr.cell 1 _ rfl
   have c2 := hr.cell 2 _ rfl
   have c3 := hr.cell 3 _ rfl
   have c4 := hr.cell 4 _ rfl
   have c5 := hr.cell 5 _ rfl
   have c6 := hr.cell 6 _ rfl
   have c7 := hr.cell 7 _ rfl
   have c8 := hr.cell 8 _ rfl
   refine .inl ⟨rfl, ends_value (c := h.val) ?_⟩
   simp [Act.eval, d0, go_sem, c0, c1, c2, c3, c4, c5, c6, c7, c8]
  | 4, ho =>
   obtain rfl := Option.some.inj ho
   have d8 : b.tmps.getD 8 undef = .string s := hS.dep 2 8
   have d9 : b.tmps.getD 9 undef = h.val := hS.dep 3 9
   refine .inl ⟨rfl, ends_call (c := o.val) (by kernel_rfl) (f := 43) (args := #[.string s, h.val]) ?_ (unhide HO u)⟩
   simp [Act.eval, d8, d9, go_sem]
  | 5, ho =>
   obtain rfl := Option.some.inj ho
   have d2 : b.tmps.getD 2 undef = .pointer (some ⟨bb, 0, none⟩) := hS.base 2
   have hl := (up u (hw (by kernel_rfl)) hb).cell 0 _ rfl
   refine .inl ⟨rfl, ends_value (c := .string body) ?_⟩
   simp [Act.eval, d2, go_sem, hl]
  | 6, ho =>
   obtain rfl := Option.some.inj ho
   have d7 : b.tmps.getD 7 undef = .int .i64 h.proto := hS.dep 1 7
   have d10 : b.tmps.getD 10 undef = o.val := hS.dep 4 10
   have d11 : b.tmps.getD 11 undef = .string body := hS.dep 5 11
   have hbu := hw (by kernel_rfl)
   refine .inl ⟨rfl, ends_call (c := .tuple #[p.val, .int .i64 x]) (by kernel_rfl) (f := 42) (args := #[.int .i64 h.proto, o.val, .string body]) ?_ (unhide HI u (hE.on ⟨hbu.os, hbu.tape, hbu.output, hbu.size, hbu.block⟩))⟩
   simp [Act.eval, d7, d10, d11, go_sem]
  | 7, ho =>
   obtain rfl := Option.some.inj ho
   have d12 : b.tmps.getD 12 undef = .tuple #[p.val, .int .i64 x] := hS.dep 6 12
   refine .inl ⟨rfl, ends_value (c := .tuple #[p.val, .int .i64 x]) ?_⟩
   simp [execOp, Act.eval, d12]
  | 8, ho =>
   obtain rfl := Option.some.inj ho
   have d5 : b.tmps.getD 5 undef = .tuple #[p.val, .int .i64 x] := hS.dep 7 5
   refine .inl ⟨rfl, ends_value (c := p.val) ?_⟩
   simp [Act.eval, d5, go_sem]
  | 9, ho =>
   obtain rfl := Option.some.inj ho
   have d5 : b.tmps.getD 5 undef = .tuple #[p.val, .int .i64 x] := hS.dep 7 5
   refine .inl ⟨rfl, ends_value (c := .int .i64 x) ?_⟩
   simp [Act.eval, d5, go_sem]
  | 10, ho => exact absurd rfl hi
  | 11, ho =>
   obtain rfl := Option.some.inj ho
   have d14 : b.tmps.getD 14 undef = .int .i64 x := hS.dep 9 14
   refine .inl ⟨rfl, ends_value (c := .int .i64 x) ?_⟩
   simp [execOp, Act.eval, d14]
  | n + 12, ho => exact absurd ho (by simp)
 case store =>
  intro o1 b u ho hbel hS
  obtain rfl := Option.some.inj ho
  have d3 : b.tmps.getD 3 undef = .pointer (some ⟨bp, 0, none⟩) := hS.base 3
  have d13 : b.tmps.getD 13 undef = p.val := hS.dep 8 13
  have hr := up u hbel hp
  have c0 := hr.cell 0 _ rfl
  have c1 := hr.cell 1 _ rfl
  have c2 := hr.cell 2 _ rfl
  have c3 := hr.cell 3 _ rfl
  have c4 := hr.cell 4 _ rfl
  have c5 := hr.cell 5 _ rfl
  have c6 := hr.cell 6 _ rfl
  have c7 := hr.cell 7 _ rfl
  have c8 := hr.cell 8 _ rfl
  have c9 := hr.cell 9 _ rfl
  have c10 := hr.cell 10 _ rfl
  have c11 := hr.cell 11 _ rfl
  have c12 := hr.cell 12 _ rfl
  have c13 := hr.cell 13 _ rfl
  have fr := hr.free
  refine ⟨rfl, ?_⟩
  simp [Act.eval, d3, d13, go_sem, c0, c1, c2, c3, c4, c5, c6, c7, c8, c9, c10, c11, c12, c13, fr, setRow]
 case fin =>
  intro u hbel
  have R := row_all p.cells (up u hbel hp) rfl
  have B := (But.of (S := [bp]) (show Below W.heap.size W u from ⟨hbel.os, hbel.tape, hbel.output, hbel.size, hbel.block⟩)).setRow (g := bp) (by simp) 0 p.cells
  generalize setRow u bp 0 p.cells = UU at *
  simp [putAll, dstAt, Act.put]
  clear up hh h0 hb hp hE hbel
  have HR := hide (And.intro R B)
  clear R B
  go_wp2_with fail
  go_ret
  exact ⟨rfl, (unhide HR).1, (unhide HR).2⟩
end Go.Proofs.YtpjaajeojiaeiaaGreatDoor
