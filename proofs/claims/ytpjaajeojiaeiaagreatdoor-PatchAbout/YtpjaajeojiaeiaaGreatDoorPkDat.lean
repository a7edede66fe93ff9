/- What datagram of package packet computes. -/
import Derived.Test.YtpjaajeojiaeiaaGreatDoorPkSeg
namespace Go.Proofs.YtpjaajeojiaeiaaGreatDoor
open Go.ChangeShapes Go.WideShapes Go.ChangeAt Go.RowKit

set_option maxRecDepth 100000 in
set_option maxHeartbeats 2000000 in
theorem dat1_any (bb bs bd : Nat) (body : ByteArray) (x y : Int) (W : World) (hs : body.size ≤ 281474976710656) (hne : bs ≠ bd) (hb : Row W bb [.string body]) (h1 : Row W bs [.int .i64 x]) (h2 : Row W bd [.int .i64 y]) :
  Calls Tryz.prog 109 #[.pointer (some ⟨bb, 0, none⟩), .pointer (some ⟨bs, 0, none⟩), .pointer (some ⟨bd, 0, none⟩)] W fun e W' => e = .returned (.int .i64 (Ps.measE body)) ∧ Row W' bs [.int .i64 (Ps.parA body)] ∧ Row W' bd [.int .i64 (Ps.parB body)] ∧ But [bs, bd] W W' := by
 have c := hb.cell 0 _ rfl
 have HP := hide (Ps.parse_any body W hs)
 generalize Ps.parA body = a at *
 generalize Ps.parB body = b at *
 generalize Ps.measE body = e0 at *
 generalize Ps.parC body = s at *
 clear hb
 go_enter Tryz.func109, Tryz.ntmps109
 go_wp2_with fail
 refine (unhide HP).mono ?_
 rintro e w1 ⟨rfl, hb1⟩
 replace h1 := h1.on' hb1
 replace h2 := h2.on' hb1
 have c1 := h1.cell 0 _ rfl
 have f1 := h1.free 0
 have R1 := (h1.set 0 (.int .i64 a)).other (b := bd) hne 0 (.int .i64 b)
 replace h2 := h2.other (b := bs) (Ne.symm hne) 0 (.int .i64 a)
 have c2 := h2.cell 0 _ rfl
 have f2 := h2.free 0
 have R2 := h2.set 0 (.int .i64 b)
 have B := ((But.of (S := [bs, bd]) hb1).setCell (g := bs) (by simp) 0 (.int .i64 a)).setCell (g := bd) (by simp) 0 (.int .i64 b)
 have HR := hide (And.intro R1 (And.intro R2 B))
 clear R1 R2 B h1 h2 hb1 hne
 go_wp2_with fail
 go_ret
 exact ⟨rfl, (unhide HR).1, (unhide HR).2.1, (unhide HR).2.2⟩

/-- What a datagram of UDP tells. -/
def datE (p : Pk) (body : ByteArray) : Int := firstL [Ps.measE body, Ps.verE 17 p.src p.dst body]
def datP (p : Pk) (body : ByteArray) : Pk := if datE p body = 0 then ⟨1, p.pos, p.total, ⟨17, p.src, p.dst, Ps.parA body, Ps.parB body⟩, p.flags, p.ttl, p.src, p.dst, p.quote, p.inner⟩ else zeroPk
theorem datP_yes {p : Pk} {body : ByteArray} (h : datE p body = 0) : datP p body = ⟨1, p.pos, p.total, ⟨17, p.src, p.dst, Ps.parA body, Ps.parB body⟩, p.flags, p.ttl, p.src, p.dst, p.quote, p.inner⟩ := if_pos h
theorem datP_no {p : Pk} {body : ByteArray} (h : ¬ datE p body = 0) : datP p body = zeroPk := if_neg h

/-- What holds before the i-th doubt of datagram. -/
structure DatQ (w : World) (g : Nat) (p : Pk) (body : ByteArray) (i : Nat) (W : World) : Prop where
 bel : Below w.heap.size w W
 row : Row W g [.func (.func 109) #[] #[.pointer (some ⟨w.heap.size + 1, 0, none⟩), .pointer (some ⟨w.heap.size + 1 + 1 + 1, 0, none⟩), .pointer (some ⟨w.heap.size + 1 + 1 + 1 + 1, 0, none⟩)], .func (.func 111) #[] #[.pointer (some ⟨w.heap.size, 0, none⟩), .pointer (some ⟨w.heap.size + 1, 0, none⟩)]]
 p0 : Row W (w.heap.size) p.cells
 b0 : Row W (w.heap.size + 1) [.string body]
 r0 : Row W (w.heap.size + 1 + 1) zeroPk.cells
 h0 : i = 0 → Row W (w.heap.size + 1 + 1 + 1) [.int .i64 0] ∧ Row W (w.heap.size + 1 + 1 + 1 + 1) [.int .i64 0]
 h1 : 1 ≤ i → Row W (w.heap.size + 1 + 1 + 1) [.int .i64 (Ps.parA body)] ∧ Row W (w.heap.size + 1 + 1 + 1 + 1) [.int .i64 (Ps.parB body)] ∧ Ps.measE body = 0
 v2 : 2 ≤ i → Ps.verE 17 p.src p.dst body = 0
/-- What holds behind them. -/
structure DatR (w : World) (p : Pk) (body : ByteArray) (x : Int) (W : World) : Prop where
 e : x = datE p body
 bel : Below w.heap.size w W
 p0 : Row W (w.heap.size) p.cells
 r0 : Row W (w.heap.size + 1 + 1) zeroPk.cells
 a1 : Row W (w.heap.size + 1 + 1 + 1) [.int .i64 (Ps.parA body)]
 b1 : Row W (w.heap.size + 1 + 1 + 1 + 1) [.int .i64 (Ps.parB body)]
theorem dat_doubts (w : World) (g : Nat) (p : Pk) (body : ByteArray) (hg : w.heap.size + 1 + 1 + 1 + 1 < g) (hs : body.size ≤ 140737488360000) (s1 : Ps.U32 p.src) (s2 : Ps.U32 p.dst) :
  Doubts g 2 (fun i => [109, 111].getD i 0) (fun i => ([#[.pointer (some ⟨w.heap.size + 1, 0, none⟩), .pointer (some ⟨w.heap.size + 1 + 1 + 1, 0, none⟩), .pointer (some ⟨w.heap.size + 1 + 1 + 1 + 1, 0, none⟩)], #[.pointer (some ⟨w.heap.size, 0, none⟩), .pointer (some ⟨w.heap.size + 1, 0, none⟩)]] : List (Array Value)).getD i #[]) (DatQ w g p body) (DatR w p body) where
 cell i W hi hq := by
  match i, hi with
  | 0, _ => exact hq.row.cell 0 _ rfl
  | 1, _ => exact hq.row.cell 1 _ rfl
  | n + 2, hi => exact absurd hi (by omega)
 ent i hi := by
  match i, hi with
  | 0, _ => exact Tryz.call109
  | 1, _ => exact Tryz.call111
  | n + 2, hi => exact absurd hi (by omega)
 on i W W' hq hb := ⟨Below.then hq.bel hb, hq.row.on' hb, hq.p0.on' hb, hq.b0.on' hb, hq.r0.on' hb, fun h => ⟨(hq.h0 h).1.on' hb, (hq.h0 h).2.on' hb⟩, fun h => ⟨(hq.h1 h).1.on' hb, (hq.h1 h).2.1.on' hb, (hq.h1 h).2.2⟩, hq.v2⟩
 fin W hq := ⟨by unfold datE; rw [first2 (hq.h1 (by omega)).2.2, hq.v2 (by omega)], hq.bel, hq.p0, hq.r0, (hq.h1 (by omega)).1, (hq.h1 (by omega)).2.1⟩
 call i W hi hq := by
  match i, hi with
  | 0, _ =>
   refine (dat1_any (w.heap.size + 1) (w.heap.size + 1 + 1 + 1) (w.heap.size + 1 + 1 + 1 + 1) body 0 0 W (by omega) (by omega) hq.b0 (hq.h0 rfl).1 (hq.h0 rfl).2).mono fun e W' ⟨he, hr, hr2, hb⟩ => ⟨_, he, ?_⟩
   have hbel := hb.below hq.bel (fun x hx => by simp at hx; omega)
   have p0 := hq.p0.but hb (by simp <;> omega)
   have b0 := hq.b0.but hb (by simp <;> omega)
   have r0 := hq.r0.but hb (by simp <;> omega)
   have row := hq.row.but hb (by simp <;> omega)
   by_cases h0 : Ps.measE body = 0
   ·exact .inl ⟨h0, hbel, row, p0, b0, r0, fun h => absurd h (by omega), fun _ => ⟨hr, hr2, h0⟩, fun h => absurd h (by omega)⟩
   ·exact .inr ⟨h0, by unfold datE; rw [first1 h0], hbel, p0, r0, hr, hr2⟩
  | 1, _ =>
   refine (ver_any 111 17 (.inr ⟨rfl, rfl⟩) (w.heap.size) (w.heap.size + 1) body p W hs s1 s2 hq.p0 hq.b0).mono fun e W' ⟨he, hb⟩ => ⟨_, he, ?_⟩
   have hh := hq.h1 (by omega)
   by_cases h0 : Ps.verE 17 p.src p.dst body = 0
   ·exact .inl ⟨h0, Below.then hq.bel hb, hq.row.on' hb, hq.p0.on' hb, hq.b0.on' hb, hq.r0.on' hb, fun h => absurd h (by omega), fun _ => ⟨hh.1.on' hb, hh.2.1.on' hb, hh.2.2⟩, fun _ => h0⟩
   ·exact .inr ⟨h0, by unfold datE; rw [first2 hh.2.2], Below.then hq.bel hb, hq.p0.on' hb, hq.r0.on' hb, hh.1.on' hb, hh.2.1.on' hb⟩
  | n + 2, hi => exact absurd hi (by omega)

set_option maxRecDepth 100000 in
set_option maxHeartbeats 4000000 in
theorem datagram_any (p : Pk) (body : ByteArray) (w : World) (hs : body.size ≤ 140737488360000) (s1 : Ps.U32 p.src) (s2 : Ps.U32 p.dst) :
  Calls Tryz.prog 72 #[p.val, .string body] w fun e w' => e = .returned (.tuple #[(datP p body).val, .int .i64 (datE p body)]) ∧ Below w.heap.size w w' := by
 have HG := hide (And.intro s1 s2)
 clear s1 s2
 go_enter Tryz.func72, Tryz.ntmps72
 go_wp2_with fail
 refine (first_any (w.heap.size + 1 + 1 + 1 + 1 + 1) 2 _ _ _ _ (dat_doubts w (w.heap.size + 1 + 1 + 1 + 1 + 1) p body (by omega) hs (unhide HG).1 (unhide HG).2) (by decide) (allocs w [(p.cells, 45), ([.string body], 9), (zeroPk.cells, 45), ([.int .i64 0], 3), ([.int .i64 0], 3), ([.func (.func 109) #[] #[.pointer (some ⟨w.heap.size + 1, 0, none⟩), .pointer (some ⟨w.heap.size + 1 + 1 + 1, 0, none⟩), .pointer (some ⟨w.heap.size + 1 + 1 + 1 + 1, 0, none⟩)], .func (.func 111) #[] #[.pointer (some ⟨w.heap.size, 0, none⟩), .pointer (some ⟨w.heap.size + 1, 0, none⟩)]], 82)]) ⟨allocs_below _ w, allocs_row _ w 5 _ _ rfl, allocs_row _ w 0 _ _ rfl, allocs_row _ w 1 _ _ rfl, allocs_row _ w 2 _ _ rfl, fun _ => ⟨allocs_row _ w 3 _ _ rfl, allocs_row _ w 4 _ _ rfl⟩, fun h => absurd h (by decide), fun h => absurd h (by decide)⟩).mono ?_
 rintro e W1 ⟨x, rfl, hR⟩
 obtain ⟨rfl, hbel, p0, r0, a1, b1⟩ := hR
 by_cases he : datE p body = 0
 ·have HP := hide (datP_yes he)
  have HE := hide he
  have hd : (datE p body != 0) = false := by rw [he]; rfl
  generalize Ps.parA body = A at *
  generalize Ps.parB body = B0 at *
  have s1 := p0.cell 0 _ rfl
  have f1 := p0.free 0
  replace p0 := p0.set 0 (.int .i64 1)
  replace r0 := r0.other (b := w.heap.size) (by omega) 0 (.int .i64 1)
  replace a1 := a1.other (b := w.heap.size) (by omega) 0 (.int .i64 1)
  replace b1 := b1.other (b := w.heap.size) (by omega) 0 (.int .i64 1)
  replace hbel := hbel.setCell (p := ⟨w.heap.size, 0, none⟩) (Nat.le_refl _) (.int .i64 1)
  obtain ⟨W2, e1⟩ : ∃ V, W1.setCell ⟨w.heap.size, 0, none⟩ (.int .i64 1) = V := ⟨_, rfl⟩
  rw [e1] at hbel p0 r0 a1 b1
  have l0 := p0.cell 10 _ rfl
  have l1 := p0.cell 11 _ rfl
  have l2 := a1.cell 0 _ rfl
  have l3 := b1.cell 0 _ rfl
  have s2 := p0.cell 3 _ rfl
  have f2 := p0.free 3
  replace p0 := p0.set 3 (.int .i64 17)
  replace r0 := r0.other (b := w.heap.size) (by omega) 3 (.int .i64 17)
  replace a1 := a1.other (b := w.heap.size) (by omega) 3 (.int .i64 17)
  replace b1 := b1.other (b := w.heap.size) (by omega) 3 (.int .i64 17)
  replace hbel := hbel.setCell (p := ⟨w.heap.size, 3, none⟩) (Nat.le_refl _) (.int .i64 17)
  obtain ⟨W3, e2⟩ : ∃ V, W2.setCell ⟨w.heap.size, 3, none⟩ (.int .i64 17) = V := ⟨_, rfl⟩
  rw [e2] at hbel p0 r0 a1 b1
  have s3 := p0.cell 4 _ rfl
  have f3 := p0.free 4
  replace p0 := p0.set 4 (.int .u32 p.src)
  replace r0 := r0.other (b := w.heap.size) (by omega) 4 (.int .u32 p.src)
  replace a1 := a1.other (b := w.heap.size) (by omega) 4 (.int .u32 p.src)
  replace b1 := b1.other (b := w.heap.size) (by omega) 4 (.int .u32 p.src)
  replace hbel := hbel.setCell (p := ⟨w.heap.size, 4, none⟩) (Nat.le_refl _) (.int .u32 p.src)
  obtain ⟨W4, e3⟩ : ∃ V, W3.setCell ⟨w.heap.size, 4, none⟩ (.int .u32 p.src) = V := ⟨_, rfl⟩
  rw [e3] at hbel p0 r0 a1 b1
  have s4 := p0.cell 5 _ rfl
  have f4 := p0.free 5
  replace p0 := p0.set 5 (.int .u32 p.dst)
  replace r0 := r0.other (b := w.heap.size) (by omega) 5 (.int .u32 p.dst)
  replace a1 := a1.other (b := w.heap.size) (by omega) 5 (.int .u32 p.dst)
  replace b1 := b1.other (b := w.heap.size) (by omega) 5 (.int .u32 p.dst)
  replace hbel := hbel.setCell (p := ⟨w.heap.size, 5, none⟩) (Nat.le_refl _) (.int .u32 p.dst)
  obtain ⟨W5, e4⟩ : ∃ V, W4.setCell ⟨w.heap.size, 5, none⟩ (.int .u32 p.dst) = V := ⟨_, rfl⟩
  rw [e4] at hbel p0 r0 a1 b1
  have s5 := p0.cell 6 _ rfl
  have f5 := p0.free 6
  replace p0 := p0.set 6 (.int .i64 A)
  replace r0 := r0.other (b := w.heap.size) (by omega) 6 (.int .i64 A)
  replace a1 := a1.other (b := w.heap.size) (by omega) 6 (.int .i64 A)
  replace b1 := b1.other (b := w.heap.size) (by omega) 6 (.int .i64 A)
  replace hbel := hbel.setCell (p := ⟨w.heap.size, 6, none⟩) (Nat.le_refl _) (.int .i64 A)
  obtain ⟨W6, e5⟩ : ∃ V, W5.setCell ⟨w.heap.size, 6, none⟩ (.int .i64 A) = V := ⟨_, rfl⟩
  rw [e5] at hbel p0 r0 a1 b1
  have s6 := p0.cell 7 _ rfl
  have f6 := p0.free 7
  replace p0 := p0.set 7 (.int .i64 B0)
  replace r0 := r0.other (b := w.heap.size) (by omega) 7 (.int .i64 B0)
  replace a1 := a1.other (b := w.heap.size) (by omega) 7 (.int .i64 B0)
  replace b1 := b1.other (b := w.heap.size) (by omega) 7 (.int .i64 B0)
  replace hbel := hbel.setCell (p := ⟨w.heap.size, 7, none⟩) (Nat.le_refl _) (.int .i64 B0)
  obtain ⟨W7, e6⟩ : ∃ V, W6.setCell ⟨w.heap.size, 7, none⟩ (.int .i64 B0) = V := ⟨_, rfl⟩
  rw [e6] at hbel p0 r0 a1 b1
  replace p0 : Row W7 (w.heap.size) (Pk.cells ⟨1, p.pos, p.total, ⟨17, p.src, p.dst, A, B0⟩, p.flags, p.ttl, p.src, p.dst, p.quote, p.inner⟩) := p0
  have pp0 := p0.cell 0 _ rfl
  have pp1 := p0.cell 1 _ rfl
  have pp2 := p0.cell 2 _ rfl
  have pp3 := p0.cell 3 _ rfl
  have pp4 := p0.cell 4 _ rfl
  have pp5 := p0.cell 5 _ rfl
  have pp6 := p0.cell 6 _ rfl
  have pp7 := p0.cell 7 _ rfl
  have pp8 := p0.cell 8 _ rfl
  have pp9 := p0.cell 9 _ rfl
  have pp10 := p0.cell 10 _ rfl
  have pp11 := p0.cell 11 _ rfl
  have pp12 := p0.cell 12 _ rfl
  have pp13 := p0.cell 13 _ rfl
  have c0 := r0.cell 0 _ rfl
  have c1 := r0.cell 1 _ rfl
  have c2 := r0.cell 2 _ rfl
  have c3 := r0.cell 3 _ rfl
  have c4 := r0.cell 4 _ rfl
  have c5 := r0.cell 5 _ rfl
  have c6 := r0.cell 6 _ rfl
  have c7 := r0.cell 7 _ rfl
  have c8 := r0.cell 8 _ rfl
  have c9 := r0.cell 9 _ rfl
  have c10 := r0.cell 10 _ rfl
  have c11 := r0.cell 11 _ rfl
  have c12 := r0.cell 12 _ rfl
  have c13 := r0.cell 13 _ rfl
  have fr := r0.free
  have R := row_all (Pk.cells ⟨1, p.pos, p.total, ⟨17, p.src, p.dst, A, B0⟩, p.flags, p.ttl, p.src, p.dst, p.quote, p.inner⟩) r0 rfl
  have B := hbel.trans ((setRow_below (w.heap.size + 1 + 1) (Pk.cells ⟨1, p.pos, p.total, ⟨17, p.src, p.dst, A, B0⟩, p.flags, p.ttl, p.src, p.dst, p.quote, p.inner⟩) 0 _).mono (by omega))
  simp only [setRow, Nat.zero_add, Nat.reduceAdd] at R B
  have HR := hide (And.intro R B)
  clear R B p0 r0 a1 b1 hbel 
  go_wp2_with fail
  obtain ⟨R, B⟩ := unhide HR
  have z0 := R.cell 0 _ rfl
  have z1 := R.cell 1 _ rfl
  have z2 := R.cell 2 _ rfl
  have z3 := R.cell 3 _ rfl
  have z4 := R.cell 4 _ rfl
  have z5 := R.cell 5 _ rfl
  have z6 := R.cell 6 _ rfl
  have z7 := R.cell 7 _ rfl
  have z8 := R.cell 8 _ rfl
  have z9 := R.cell 9 _ rfl
  have z10 := R.cell 10 _ rfl
  have z11 := R.cell 11 _ rfl
  have z12 := R.cell 12 _ rfl
  have z13 := R.cell 13 _ rfl
  refine bodyPost_ret (v := .tuple #[Pk.val ⟨1, p.pos, p.total, ⟨17, p.src, p.dst, A, B0⟩, p.flags, p.ttl, p.src, p.dst, p.quote, p.inner⟩, .int .i64 0]) (by simp [results, Tryz.results72, go_sem, z0, z1, z2, z3, z4, z5, z6, z7, z8, z9, z10, z11, z12, z13]) rfl ⟨ret_pe HP.out.symm HE.out.symm, B⟩
 ·have HP := hide (datP_no he)
  have hd : (datE p body != 0) = true := by simpa using he
  have c0 := r0.cell 0 _ rfl
  have c1 := r0.cell 1 _ rfl
  have c2 := r0.cell 2 _ rfl
  have c3 := r0.cell 3 _ rfl
  have c4 := r0.cell 4 _ rfl
  have c5 := r0.cell 5 _ rfl
  have c6 := r0.cell 6 _ rfl
  have c7 := r0.cell 7 _ rfl
  have c8 := r0.cell 8 _ rfl
  have c9 := r0.cell 9 _ rfl
  have c10 := r0.cell 10 _ rfl
  have c11 := r0.cell 11 _ rfl
  have c12 := r0.cell 12 _ rfl
  have c13 := r0.cell 13 _ rfl
  have fr := r0.free
  have R := row_all zeroPk.cells r0 rfl
  have B := hbel.trans ((setRow_below (w.heap.size + 1 + 1) zeroPk.cells 0 W1).mono (by omega))
  simp only [setRow, zeroPk, zeroTp, Nat.zero_add, Nat.reduceAdd] at R B
  have HR := hide (And.intro R B)
  clear R B p0 r0 a1 b1 hbel
  go_wp2_with fail
  obtain ⟨R, B⟩ := unhide HR
  have z0 := R.cell 0 _ rfl
  have z1 := R.cell 1 _ rfl
  have z2 := R.cell 2 _ rfl
  have z3 := R.cell 3 _ rfl
  have z4 := R.cell 4 _ rfl
  have z5 := R.cell 5 _ rfl
  have z6 := R.cell 6 _ rfl
  have z7 := R.cell 7 _ rfl
  have z8 := R.cell 8 _ rfl
  have z9 := R.cell 9 _ rfl
  have z10 := R.cell 10 _ rfl
  have z11 := R.cell 11 _ rfl
  have z12 := R.cell 12 _ rfl
  have z13 := R.cell 13 _ rfl
  refine bodyPost_ret (v := .tuple #[zeroPk.val, .int .i64 (datE p body)]) (by simp [results, Tryz.results72, go_sem, zeroPk, zeroTp, z0, z1, z2, z3, z4, z5, z6, z7, z8, z9, z10, z11, z12, z13]) rfl ⟨ret_pe HP.out.symm rfl, B⟩
end Go.Proofs.YtpjaajeojiaeiaaGreatDoor
