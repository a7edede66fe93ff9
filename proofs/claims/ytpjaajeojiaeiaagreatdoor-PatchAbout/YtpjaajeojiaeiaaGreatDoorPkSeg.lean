/- What outside, segment and datagram of package packet compute. -/
import Derived.Test.YtpjaajeojiaeiaaGreatDoorPkQuoB
import Derived.Test.YtpjaajeojiaeiaaGreatDoorIpC
import Derived.Test.YtpjaajeojiaeiaaGreatDoorPsB
namespace Go.Proofs.YtpjaajeojiaeiaaGreatDoor
open Go.ChangeShapes Go.WideShapes Go.ChangeAt Go.RowKit

/-- Blocks that are made one behind the other. -/
def allocs : World → List (List Value × TypeId) → World
 | w, [] => w
 | w, (l, t) :: r => allocs (w.alloc (.cells l.toArray t)) r
theorem allocs_below : ∀ (L : List (List Value × TypeId)) (w : World), Below w.heap.size w (allocs w L)
 | [], _ => Below.refl _ _
 | (l, t) :: r, w => Below.then (alloc_on w (.cells l.toArray t)) (allocs_below r _)
theorem allocs_size : ∀ (L : List (List Value × TypeId)) (w : World), (allocs w L).heap.size = w.heap.size + L.length
 | [], _ => rfl
 | (l, t) :: r, w => by rw [allocs, allocs_size r]; simp; omega
theorem allocs_row : ∀ (L : List (List Value × TypeId)) (w : World) (i : Nat) (l : List Value) (t : TypeId), L[i]? = some (l, t) → Row (allocs w L) (w.heap.size + i) l
 | [], _, _, _, _, h => by simp at h
 | (l, t) :: r, w, 0, l', t', h => by
  simp at h
  obtain ⟨rfl, rfl⟩ := h
  exact (row_new w l t).on' (allocs_below r _)
 | (l, t) :: r, w, i + 1, l', t', h => by
  have := allocs_row r (w.alloc (.cells l.toArray t)) i l' t' (by simpa using h)
  have e : (w.alloc (.cells l.toArray t)).heap.size + i = w.heap.size + (i + 1) := by simp; omega
  rw [e] at this
  exact this
/-- What the header alone says. -/
def outP (s : ByteArray) (h : Ip.Hd) : Pk := ⟨0, Ip.sizeH s, Ip.sizeT s, zeroTp, 0, h.ttl, h.src, h.dst, 0, 0⟩
abbrev Ip.cells (h : Ip.Hd) : List Value := [.int .i64 h.tos, .int .i64 h.id, .int .i64 h.flags, .int .i64 h.frag, .int .i64 h.ttl, .int .i64 h.proto, .int .u32 h.src, .int .u32 h.dst, .string h.opts]
abbrev Tc.cells (h : Tc.Hd) : List Value := [.int .i64 h.src, .int .i64 h.dst, .int .u32 h.seq, .int .u32 h.ack, .int .i64 h.flags, .int .i64 h.win, .int .i64 h.urg, .string h.opts]
theorem ret_pk {a b : Pk} (h : a = b) : Ending.returned a.val = .returned b.val := by rw [h]
theorem ret_pe {a b : Pk} {x y : Int} (h : a = b) (h2 : x = y) : Ending.returned (.tuple #[a.val, .int .i64 x]) = .returned (.tuple #[b.val, .int .i64 y]) := by rw [h, h2]

set_option maxRecDepth 100000 in
set_option maxHeartbeats 2000000 in
theorem outside_any (s : ByteArray) (h : Ip.Hd) (w : World) (hs : s.size ≤ 281474976710656) :
  Calls Tryz.prog 43 #[.string s, h.val] w fun e w' => e = .returned (outP s h).val ∧ Below w.heap.size w w' := by
 have HS := hide (fun u => Ip.size_of_any s u hs)
 have HP : Hid (outP s h = ⟨0, Ip.sizeH s, Ip.sizeT s, zeroTp, 0, h.ttl, h.src, h.dst, 0, 0⟩) := rfl
 go_enter Tryz.func43, Tryz.ntmps43
 go_wp2_with fail
 refine (unhide HS _).mono ?_
 rintro e w1 ⟨rfl, hb⟩
 have e0 : Row w1 (w.heap.size) (Ip.cells h) := (allocs_row [(Ip.cells h, 76), (zeroPk.cells, 45)] w 0 _ _ rfl).on' hb
 have e1 : Row w1 (w.heap.size + 1) zeroPk.cells := (allocs_row [(Ip.cells h, 76), (zeroPk.cells, 45)] w 1 _ _ rfl).on' hb
 have hbw : Below w.heap.size w w1 := Below.then (allocs_below [(Ip.cells h, 76), (zeroPk.cells, 45)] w) hb
 generalize Ip.sizeH s = sh at *
 generalize Ip.sizeT s = st at *
 have h4 := e0.cell 4 _ rfl
 have h6 := e0.cell 6 _ rfl
 have h7 := e0.cell 7 _ rfl
 have c0 := e1.cell 0 _ rfl
 have c1 := e1.cell 1 _ rfl
 have c2 := e1.cell 2 _ rfl
 have c3 := e1.cell 3 _ rfl
 have c4 := e1.cell 4 _ rfl
 have c5 := e1.cell 5 _ rfl
 have c6 := e1.cell 6 _ rfl
 have c7 := e1.cell 7 _ rfl
 have c8 := e1.cell 8 _ rfl
 have c9 := e1.cell 9 _ rfl
 have c10 := e1.cell 10 _ rfl
 have c11 := e1.cell 11 _ rfl
 have c12 := e1.cell 12 _ rfl
 have c13 := e1.cell 13 _ rfl
 have fr := e1.free
 have R := row_all (Pk.cells ⟨0, sh, st, zeroTp, 0, h.ttl, h.src, h.dst, 0, 0⟩) e1 rfl
 have B := hbw.trans ((setRow_below (w.heap.size + 1) (Pk.cells ⟨0, sh, st, zeroTp, 0, h.ttl, h.src, h.dst, 0, 0⟩) 0 w1).mono (by omega))
 simp only [setRow, zeroTp, Nat.zero_add, Nat.reduceAdd] at R B
 have HR := hide (And.intro R B)
 clear R B e0 e1 hb hbw
 go_wp2_with fail
 obtain ⟨R, B⟩ := unhide HR
 have z0 := R.cell 0 _ rfl
 have z1 := R.cell 1 _ rfl
 have z2 := R.cell 2 _ rfl
 have z3 := R.cell 3 _ rfl
 have z4 := R.cell 4 _ rfl
 have z5 := R.cell 5 _ rfl
 have z6 := R.cell 6 _ rfl
 have z7 := R.cell 7 _ rfl
 have z8 := R.cell 8 _ rfl
 have z9 := R.cell 9 _ rfl
 have z10 := R.cell 10 _ rfl
 have z11 := R.cell 11 _ rfl
 have z12 := R.cell 12 _ rfl
 have z13 := R.cell 13 _ rfl
 refine bodyPost_ret (v := Pk.val ⟨0, sh, st, zeroTp, 0, h.ttl, h.src, h.dst, 0, 0⟩) (by simp [results, Tryz.results43, go_sem, zeroTp, z0, z1, z2, z3, z4, z5, z6, z7, z8, z9, z10, z11, z12, z13]) rfl ⟨ret_pk HP.out.symm, B⟩

set_option maxRecDepth 100000 in
set_option maxHeartbeats 2000000 in
theorem seg1_any (bb bh : Nat) (body : ByteArray) (z : Tc.Hd) (W : World) (hs : body.size ≤ 281474976710656) (hb : Row W bb [.string body]) (hh : Row W bh (Tc.cells z)) :
  Calls Tryz.prog 105 #[.pointer (some ⟨bb, 0, none⟩), .pointer (some ⟨bh, 0, none⟩)] W fun e W' => e = .returned (.int .i64 (Tc.parseE body)) ∧ Row W' bh (Tc.cells (Tc.parseH body)) ∧ But [bh] W W' := by
 have c := hb.cell 0 _ rfl
 have HP := hide (Tc.parse_any body W hs)
 generalize Tc.parseH body = h at *
 generalize Tc.parseE body = x at *
 generalize Tc.parseS body = s at *
 clear hb
 go_enter Tryz.func105, Tryz.ntmps105
 go_wp2_with fail
 refine (unhide HP).mono ?_
 rintro e w1 ⟨rfl, hb1⟩
 replace hh := hh.on' hb1
 have c0 := hh.cell 0 _ rfl
 have c1 := hh.cell 1 _ rfl
 have c2 := hh.cell 2 _ rfl
 have c3 := hh.cell 3 _ rfl
 have c4 := hh.cell 4 _ rfl
 have c5 := hh.cell 5 _ rfl
 have c6 := hh.cell 6 _ rfl
 have c7 := hh.cell 7 _ rfl
 have fr := hh.free
 have R := row_all (Tc.cells h) hh rfl
 have B := (But.of (S := [bh]) hb1).setRow (g := bh) (by simp) 0 (Tc.cells h)
 simp only [setRow, Nat.zero_add, Nat.reduceAdd] at R B
 have HR := hide (And.intro R B)
 clear R B hh hb1
 go_wp2_with fail
 go_ret
 exact ⟨rfl, (unhide HR).1, (unhide HR).2⟩

set_option maxRecDepth 100000 in
set_option maxHeartbeats 2000000 in
theorem ver_any (f : FuncId) (pr : Int) (hf : (f = 107 ∧ pr = 6) ∨ (f = 111 ∧ pr = 17)) (bp bb : Nat) (body : ByteArray) (p : Pk) (W : World) (hs : body.size ≤ 140737488360000) (h1 : Ps.U32 p.src) (h2 : Ps.U32 p.dst) (hp : Row W bp p.cells) (hb : Row W bb [.string body]) :
  Calls Tryz.prog f #[.pointer (some ⟨bp, 0, none⟩), .pointer (some ⟨bb, 0, none⟩)] W fun e W' => e = .returned (.int .i64 (Ps.verE pr p.src p.dst body)) ∧ Below W.heap.size W W' := by
 have c := hb.cell 0 _ rfl
 have c6 := hp.cell 10 _ rfl
 have c7 := hp.cell 11 _ rfl
 rcases hf with ⟨rfl, rfl⟩ | ⟨rfl, rfl⟩
 ·have HP := hide (Ps.pverify_any 6 p.src p.dst body W (by constructor <;> decide) h1 h2 hs)
  generalize Ps.verE 6 p.src p.dst body = x at *
  clear hb hp h1 h2
  go_enter Tryz.func107, Tryz.ntmps107
  go_wp2_with fail
  refine (unhide HP).mono ?_
  rintro e w1 ⟨rfl, hb1⟩
  have HB := hide hb1
  clear hb1
  go_wp2_with fail
  go_ret
  exact ⟨rfl, unhide HB⟩
 ·have HP := hide (Ps.pverify_any 17 p.src p.dst body W (by constructor <;> decide) h1 h2 hs)
  generalize Ps.verE 17 p.src p.dst body = x at *
  clear hb hp h1 h2
  go_enter Tryz.func111, Tryz.ntmps111
  go_wp2_with fail
  refine (unhide HP).mono ?_
  rintro e w1 ⟨rfl, hb1⟩
  have HB := hide hb1
  clear hb1
  go_wp2_with fail
  go_ret
  exact ⟨rfl, unhide HB⟩

/-- What a segment of TCP tells. -/
def segE (p : Pk) (body : ByteArray) : Int := firstL [Tc.parseE body, Ps.verE 6 p.src p.dst body]
def segP (p : Pk) (body : ByteArray) : Pk := if segE p body = 0 then ⟨1, p.pos, p.total, ⟨6, p.src, p.dst, (Tc.parseH body).src, (Tc.parseH body).dst⟩, (Tc.parseH body).flags, p.ttl, p.src, p.dst, p.quote, p.inner⟩ else zeroPk
theorem segP_yes {p : Pk} {body : ByteArray} (h : segE p body = 0) : segP p body = ⟨1, p.pos, p.total, ⟨6, p.src, p.dst, (Tc.parseH body).src, (Tc.parseH body).dst⟩, (Tc.parseH body).flags, p.ttl, p.src, p.dst, p.quote, p.inner⟩ := if_pos h
theorem segP_no {p : Pk} {body : ByteArray} (h : ¬ segE p body = 0) : segP p body = zeroPk := if_neg h
theorem first2 {a b : Int} (h : a = 0) : firstL [a, b] = b := by
 unfold firstL firstL firstL
 rw [if_pos h]
 by_cases hb : b = 0
 ·rw [if_pos hb, hb]
 ·rw [if_neg hb]
theorem first1 {a : Int} {r : List Int} (h : ¬ a = 0) : firstL (a :: r) = a := if_neg h

/-- What holds before the i-th doubt of segment. -/
structure SegQ (w : World) (g : Nat) (p : Pk) (body : ByteArray) (i : Nat) (W : World) : Prop where
 bel : Below w.heap.size w W
 row : Row W g [.func (.func 105) #[] #[.pointer (some ⟨w.heap.size + 1, 0, none⟩), .pointer (some ⟨w.heap.size + 1 + 1 + 1, 0, none⟩)], .func (.func 107) #[] #[.pointer (some ⟨w.heap.size, 0, none⟩), .pointer (some ⟨w.heap.size + 1, 0, none⟩)]]
 p0 : Row W (w.heap.size) p.cells
 b0 : Row W (w.heap.size + 1) [.string body]
 r0 : Row W (w.heap.size + 1 + 1) zeroPk.cells
 h0 : i = 0 → Row W (w.heap.size + 1 + 1 + 1) (Tc.cells Tc.zeroHd)
 h1 : 1 ≤ i → Row W (w.heap.size + 1 + 1 + 1) (Tc.cells (Tc.parseH body)) ∧ Tc.parseE body = 0
 v2 : 2 ≤ i → Ps.verE 6 p.src p.dst body = 0
/-- What holds behind them. -/
structure SegR (w : World) (p : Pk) (body : ByteArray) (x : Int) (W : World) : Prop where
 e : x = segE p body
 bel : Below w.heap.size w W
 p0 : Row W (w.heap.size) p.cells
 r0 : Row W (w.heap.size + 1 + 1) zeroPk.cells
 h1 : Row W (w.heap.size + 1 + 1 + 1) (Tc.cells (Tc.parseH body))
theorem seg_doubts (w : World) (g : Nat) (p : Pk) (body : ByteArray) (hg : w.heap.size + 1 + 1 + 1 < g) (hs : body.size ≤ 140737488360000) (s1 : Ps.U32 p.src) (s2 : Ps.U32 p.dst) :
  Doubts g 2 (fun i => [105, 107].getD i 0) (fun i => ([#[.pointer (some ⟨w.heap.size + 1, 0, none⟩), .pointer (some ⟨w.heap.size + 1 + 1 + 1, 0, none⟩)], #[.pointer (some ⟨w.heap.size, 0, none⟩), .pointer (some ⟨w.heap.size + 1, 0, none⟩)]] : List (Array Value)).getD i #[]) (SegQ w g p body) (SegR w p body) where
 cell i W hi hq := by
  match i, hi with
  | 0, _ => exact hq.row.cell 0 _ rfl
  | 1, _ => exact hq.row.cell 1 _ rfl
  | n + 2, hi => exact absurd hi (by omega)
 ent i hi := by
  match i, hi with
  | 0, _ => exact Tryz.call105
  | 1, _ => exact Tryz.call107
  | n + 2, hi => exact absurd hi (by omega)
 on i W W' hq hb := ⟨Below.then hq.bel hb, hq.row.on' hb, hq.p0.on' hb, hq.b0.on' hb, hq.r0.on' hb, fun h => (hq.h0 h).on' hb, fun h => ⟨(hq.h1 h).1.on' hb, (hq.h1 h).2⟩, hq.v2⟩
 fin W hq := ⟨by unfold segE; rw [first2 (hq.h1 (by omega)).2, hq.v2 (by omega)], hq.bel, hq.p0, hq.r0, (hq.h1 (by omega)).1⟩
 call i W hi hq := by
  match i, hi with
  | 0, _ =>
   refine (seg1_any (w.heap.size + 1) (w.heap.size + 1 + 1 + 1) body Tc.zeroHd W (by omega) hq.b0 (hq.h0 rfl)).mono fun e W' ⟨he, hr, hb⟩ => ⟨_, he, ?_⟩
   have hbel := hb.below hq.bel (fun x hx => by simp at hx; omega)
   have p0 := hq.p0.but hb (by simp; omega)
   have b0 := hq.b0.but hb (by simp)
   have r0 := hq.r0.but hb (by simp)
   have row := hq.row.but hb (by simp; omega)
   by_cases h0 : Tc.parseE body = 0
   ·exact .inl ⟨h0, hbel, row, p0, b0, r0, fun h => absurd h (by omega), fun _ => ⟨hr, h0⟩, fun h => absurd h (by omega)⟩
   ·exact .inr ⟨h0, by unfold segE; rw [first1 h0], hbel, p0, r0, hr⟩
  | 1, _ =>
   refine (ver_any 107 6 (.inl ⟨rfl, rfl⟩) (w.heap.size) (w.heap.size + 1) body p W hs s1 s2 hq.p0 hq.b0).mono fun e W' ⟨he, hb⟩ => ⟨_, he, ?_⟩
   have hh := hq.h1 (by omega)
   by_cases h0 : Ps.verE 6 p.src p.dst body = 0
   ·exact .inl ⟨h0, Below.then hq.bel hb, hq.row.on' hb, hq.p0.on' hb, hq.b0.on' hb, hq.r0.on' hb, fun h => absurd h (by omega), fun _ => ⟨hh.1.on' hb, hh.2⟩, fun _ => h0⟩
   ·exact .inr ⟨h0, by unfold segE; rw [first2 hh.2], Below.then hq.bel hb, hq.p0.on' hb, hq.r0.on' hb, hh.1.on' hb⟩
  | n + 2, hi => exact absurd hi (by omega)

set_option maxRecDepth 100000 in
set_option maxHeartbeats 4000000 in
theorem segment_any (p : Pk) (body : ByteArray) (w : World) (hs : body.size ≤ 140737488360000) (s1 : Ps.U32 p.src) (s2 : Ps.U32 p.dst) :
  Calls Tryz.prog 71 #[p.val, .string body] w fun e w' => e = .returned (.tuple #[(segP p body).val, .int .i64 (segE p body)]) ∧ Below w.heap.size w w' := by
 have HG := hide (And.intro s1 s2)
 clear s1 s2
 go_enter Tryz.func71, Tryz.ntmps71
 go_wp2_with fail
 refine (first_any (w.heap.size + 1 + 1 + 1 + 1) 2 _ _ _ _ (seg_doubts w (w.heap.size + 1 + 1 + 1 + 1) p body (by omega) hs (unhide HG).1 (unhide HG).2) (by decide) (allocs w ([(p.cells, 45), ([.string body], 9), (zeroPk.cells, 45), (Tc.cells Tc.zeroHd, 154)] ++ [([.func (.func 105) #[] #[.pointer (some ⟨w.heap.size + 1, 0, none⟩), .pointer (some ⟨w.heap.size + 1 + 1 + 1, 0, none⟩)], .func (.func 107) #[] #[.pointer (some ⟨w.heap.size, 0, none⟩), .pointer (some ⟨w.heap.size + 1, 0, none⟩)]], 82)])) ⟨allocs_below _ w, allocs_row _ w 4 _ _ rfl, allocs_row _ w 0 _ _ rfl, allocs_row _ w 1 _ _ rfl, allocs_row _ w 2 _ _ rfl, fun _ => allocs_row _ w 3 _ _ rfl, fun h => absurd h (by decide), fun h => absurd h (by decide)⟩).mono ?_
 rintro e W1 ⟨x, rfl, hR⟩
 obtain ⟨rfl, hbel, p0, r0, h1⟩ := hR
 by_cases he : segE p body = 0
 ·have HP := hide (segP_yes he)
  have HE := hide he
  have hd : (segE p body != 0) = false := by rw [he]; rfl
  generalize Tc.parseH body = h at *
  have s1 := p0.cell 0 _ rfl
  have f1 := p0.free 0
  replace p0 := p0.set 0 (.int .i64 1)
  replace r0 := r0.other (b := w.heap.size) (by omega) 0 (.int .i64 1)
  replace h1 := h1.other (b := w.heap.size) (by omega) 0 (.int .i64 1)
  replace hbel := hbel.setCell (p := ⟨w.heap.size, 0, none⟩) (Nat.le_refl _) (.int .i64 1)
  obtain ⟨W2, e1⟩ : ∃ V, W1.setCell ⟨w.heap.size, 0, none⟩ (.int .i64 1) = V := ⟨_, rfl⟩
  rw [e1] at hbel p0 r0 h1
  have l0 := p0.cell 10 _ rfl
  have l1 := p0.cell 11 _ rfl
  have l2 := h1.cell 0 _ rfl
  have l3 := h1.cell 1 _ rfl
  have s2 := p0.cell 3 _ rfl
  have f2 := p0.free 3
  replace p0 := p0.set 3 (.int .i64 6)
  replace r0 := r0.other (b := w.heap.size) (by omega) 3 (.int .i64 6)
  replace h1 := h1.other (b := w.heap.size) (by omega) 3 (.int .i64 6)
  replace hbel := hbel.setCell (p := ⟨w.heap.size, 3, none⟩) (Nat.le_refl _) (.int .i64 6)
  obtain ⟨W3, e2⟩ : ∃ V, W2.setCell ⟨w.heap.size, 3, none⟩ (.int .i64 6) = V := ⟨_, rfl⟩
  rw [e2] at hbel p0 r0 h1
  have s3 := p0.cell 4 _ rfl
  have f3 := p0.free 4
  replace p0 := p0.set 4 (.int .u32 p.src)
  replace r0 := r0.other (b := w.heap.size) (by omega) 4 (.int .u32 p.src)
  replace h1 := h1.other (b := w.heap.size) (by omega) 4 (.int .u32 p.src)
  replace hbel := hbel.setCell (p := ⟨w.heap.size, 4, none⟩) (Nat.le_refl _) (.int .u32 p.src)
  obtain ⟨W4, e3⟩ : ∃ V, W3.setCell ⟨w.heap.size, 4, none⟩ (.int .u32 p.src) = V := ⟨_, rfl⟩
  rw [e3] at hbel p0 r0 h1
  have s4 := p0.cell 5 _ rfl
  have f4 := p0.free 5
  replace p0 := p0.set 5 (.int .u32 p.dst)
  replace r0 := r0.other (b := w.heap.size) (by omega) 5 (.int .u32 p.dst)
  replace h1 := h1.other (b := w.heap.size) (by omega) 5 (.int .u32 p.dst)
  replace hbel := hbel.setCell (p := ⟨w.heap.size, 5, none⟩) (Nat.le_refl _) (.int .u32 p.dst)
  obtain ⟨W5, e4⟩ : ∃ V, W4.setCell ⟨w.heap.size, 5, none⟩ (.int .u32 p.dst) = V := ⟨_, rfl⟩
  rw [e4] at hbel p0 r0 h1
  have s5 := p0.cell 6 _ rfl
  have f5 := p0.free 6
  replace p0 := p0.set 6 (.int .i64 h.src)
  replace r0 := r0.other (b := w.heap.size) (by omega) 6 (.int .i64 h.src)
  replace h1 := h1.other (b := w.heap.size) (by omega) 6 (.int .i64 h.src)
  replace hbel := hbel.setCell (p := ⟨w.heap.size, 6, none⟩) (Nat.le_refl _) (.int .i64 h.src)
  obtain ⟨W6, e5⟩ : ∃ V, W5.setCell ⟨w.heap.size, 6, none⟩ (.int .i64 h.src) = V := ⟨_, rfl⟩
  rw [e5] at hbel p0 r0 h1
  have s6 := p0.cell 7 _ rfl
  have f6 := p0.free 7
  replace p0 := p0.set 7 (.int .i64 h.dst)
  replace r0 := r0.other (b := w.heap.size) (by omega) 7 (.int .i64 h.dst)
  replace h1 := h1.other (b := w.heap.size) (by omega) 7 (.int .i64 h.dst)
  replace hbel := hbel.setCell (p := ⟨w.heap.size, 7, none⟩) (Nat.le_refl _) (.int .i64 h.dst)
  obtain ⟨W7, e6⟩ : ∃ V, W6.setCell ⟨w.heap.size, 7, none⟩ (.int .i64 h.dst) = V := ⟨_, rfl⟩
  rw [e6] at hbel p0 r0 h1
  have l4 := h1.cell 4 _ rfl
  have s7 := p0.cell 8 _ rfl
  have f7 := p0.free 8
  replace p0 := p0.set 8 (.int .i64 h.flags)
  replace r0 := r0.other (b := w.heap.size) (by omega) 8 (.int .i64 h.flags)
  replace h1 := h1.other (b := w.heap.size) (by omega) 8 (.int .i64 h.flags)
  replace hbel := hbel.setCell (p := ⟨w.heap.size, 8, none⟩) (Nat.le_refl _) (.int .i64 h.flags)
  obtain ⟨W8, e7⟩ : ∃ V, W7.setCell ⟨w.heap.size, 8, none⟩ (.int .i64 h.flags) = V := ⟨_, rfl⟩
  rw [e7] at hbel p0 r0 h1
  replace p0 : Row W8 (w.heap.size) (Pk.cells ⟨1, p.pos, p.total, ⟨6, p.src, p.dst, h.src, h.dst⟩, h.flags, p.ttl, p.src, p.dst, p.quote, p.inner⟩) := p0
  have pp0 := p0.cell 0 _ rfl
  have pp1 := p0.cell 1 _ rfl
  have pp2 := p0.cell 2 _ rfl
  have pp3 := p0.cell 3 _ rfl
  have pp4 := p0.cell 4 _ rfl
  have pp5 := p0.cell 5 _ rfl
  have pp6 := p0.cell 6 _ rfl
  have pp7 := p0.cell 7 _ rfl
  have pp8 := p0.cell 8 _ rfl
  have pp9 := p0.cell 9 _ rfl
  have pp10 := p0.cell 10 _ rfl
  have pp11 := p0.cell 11 _ rfl
  have pp12 := p0.cell 12 _ rfl
  have pp13 := p0.cell 13 _ rfl
  have c0 := r0.cell 0 _ rfl
  have c1 := r0.cell 1 _ rfl
  have c2 := r0.cell 2 _ rfl
  have c3 := r0.cell 3 _ rfl
  have c4 := r0.cell 4 _ rfl
  have c5 := r0.cell 5 _ rfl
  have c6 := r0.cell 6 _ rfl
  have c7 := r0.cell 7 _ rfl
  have c8 := r0.cell 8 _ rfl
  have c9 := r0.cell 9 _ rfl
  have c10 := r0.cell 10 _ rfl
  have c11 := r0.cell 11 _ rfl
  have c12 := r0.cell 12 _ rfl
  have c13 := r0.cell 13 _ rfl
  have fr := r0.free
  have R := row_all (Pk.cells ⟨1, p.pos, p.total, ⟨6, p.src, p.dst, h.src, h.dst⟩, h.flags, p.ttl, p.src, p.dst, p.quote, p.inner⟩) r0 rfl
  have B := hbel.trans ((setRow_below (w.heap.size + 1 + 1) (Pk.cells ⟨1, p.pos, p.total, ⟨6, p.src, p.dst, h.src, h.dst⟩, h.flags, p.ttl, p.src, p.dst, p.quote, p.inner⟩) 0 _).mono (by omega))
  simp only [setRow, Nat.zero_add, Nat.reduceAdd] at R B
  have HR := hide (And.intro R B)
  clear R B p0 r0 h1 hbel 
  go_wp2_with fail
  obtain ⟨R, B⟩ := unhide HR
  have z0 := R.cell 0 _ rfl
  have z1 := R.cell 1 _ rfl
  have z2 := R.cell 2 _ rfl
  have z3 := R.cell 3 _ rfl
  have z4 := R.cell 4 _ rfl
  have z5 := R.cell 5 _ rfl
  have z6 := R.cell 6 _ rfl
  have z7 := R.cell 7 _ rfl
  have z8 := R.cell 8 _ rfl
  have z9 := R.cell 9 _ rfl
  have z10 := R.cell 10 _ rfl
  have z11 := R.cell 11 _ rfl
  have z12 := R.cell 12 _ rfl
  have z13 := R.cell 13 _ rfl
  refine bodyPost_ret (v := .tuple #[Pk.val ⟨1, p.pos, p.total, ⟨6, p.src, p.dst, h.src, h.dst⟩, h.flags, p.ttl, p.src, p.dst, p.quote, p.inner⟩, .int .i64 0]) (by simp [results, Tryz.results71, go_sem, z0, z1, z2, z3, z4, z5, z6, z7, z8, z9, z10, z11, z12, z13]) rfl ⟨ret_pe HP.out.symm HE.out.symm, B⟩
 ·have HP := hide (segP_no he)
  have hd : (segE p body != 0) = true := by simpa using he
  have c0 := r0.cell 0 _ rfl
  have c1 := r0.cell 1 _ rfl
  have c2 := r0.cell 2 _ rfl
  have c3 := r0.cell 3 _ rfl
  have c4 := r0.cell 4 _ rfl
  have c5 := r0.cell 5 _ rfl
  have c6 := r0.cell 6 _ rfl
  have c7 := r0.cell 7 _ rfl
  have c8 := r0.cell 8 _ rfl
  have c9 := r0.cell 9 _ rfl
  have c10 := r0.cell 10 _ rfl
  have c11 := r0.cell 11 _ rfl
  have c12 := r0.cell 12 _ rfl
  have c13 := r0.cell 13 _ rfl
  have fr := r0.free
  have R := row_all zeroPk.cells r0 rfl
  have B := hbel.trans ((setRow_below (w.heap.size + 1 + 1) zeroPk.cells 0 W1).mono (by omega))
  simp only [setRow, zeroPk, zeroTp, Nat.zero_add, Nat.reduceAdd] at R B
  have HR := hide (And.intro R B)
  clear R B p0 r0 h1 hbel
  go_wp2_with fail
  obtain ⟨R, B⟩ := unhide HR
  have z0 := R.cell 0 _ rfl
  have z1 := R.cell 1 _ rfl
  have z2 := R.cell 2 _ rfl
  have z3 := R.cell 3 _ rfl
  have z4 := R.cell 4 _ rfl
  have z5 := R.cell 5 _ rfl
  have z6 := R.cell 6 _ rfl
  have z7 := R.cell 7 _ rfl
  have z8 := R.cell 8 _ rfl
  have z9 := R.cell 9 _ rfl
  have z10 := R.cell 10 _ rfl
  have z11 := R.cell 11 _ rfl
  have z12 := R.cell 12 _ rfl
  have z13 := R.cell 13 _ rfl
  refine bodyPost_ret (v := .tuple #[zeroPk.val, .int .i64 (segE p body)]) (by simp [results, Tryz.results71, go_sem, zeroPk, zeroTp, z0, z1, z2, z3, z4, z5, z6, z7, z8, z9, z10, z11, z12, z13]) rfl ⟨ret_pe HP.out.symm rfl, B⟩
end Go.Proofs.YtpjaajeojiaeiaaGreatDoor
