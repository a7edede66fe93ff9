/- What message of package packet computes. -/
import Derived.Test.YtpjaajeojiaeiaaGreatDoorPkSeg
import Derived.Test.YtpjaajeojiaeiaaGreatDoorIcB
namespace Go.Proofs.YtpjaajeojiaeiaaGreatDoor
open Go.ChangeShapes Go.WideShapes Go.ChangeAt Go.RowKit

abbrev Ic.cells (h : Ic.Hd) : List Value := [.int .i64 h.kind, .int .i64 h.code, .int .u32 h.rest, .string h.body]
theorem qN_rng (q : ByteArray) : 0 ≤ qN q ∧ qN q ≤ 60 := by
 unfold qN
 have := (got_rng q 0).1
 split
 ·unfold qSize; omega
 ·omega

set_option maxRecDepth 100000 in
set_option maxHeartbeats 2000000 in
theorem msg1_any (bb bh : Nat) (body : ByteArray) (z : Ic.Hd) (W : World) (hs : body.size ≤ 281474976710656) (hb : Row W bb [.string body]) (hh : Row W bh (Ic.cells z)) :
  Calls Tryz.prog 112 #[.pointer (some ⟨bb, 0, none⟩), .pointer (some ⟨bh, 0, none⟩)] W fun e W' => e = .returned (.int .i64 (Ic.parseE body)) ∧ Row W' bh (Ic.cells (Ic.parseH body)) ∧ But [bh] W W' := by
 have c := hb.cell 0 _ rfl
 have HP := hide (Ic.parse_any body W hs)
 generalize Ic.parseH body = h at *
 generalize Ic.parseE body = x at *
 clear hb
 go_enter Tryz.func112, Tryz.ntmps112
 go_wp2_with fail
 refine (unhide HP).mono ?_
 rintro e w1 ⟨rfl, hb1⟩
 replace hh := hh.on' hb1
 have c0 := hh.cell 0 _ rfl
 have c1 := hh.cell 1 _ rfl
 have c2 := hh.cell 2 _ rfl
 have c3 := hh.cell 3 _ rfl
 have fr := hh.free
 have R := row_all (Ic.cells h) hh rfl
 have B := (But.of (S := [bh]) hb1).setRow (g := bh) (by simp) 0 (Ic.cells h)
 simp only [setRow, Nat.zero_add, Nat.reduceAdd] at R B
 have HR := hide (And.intro R B)
 clear R B hh hb1
 go_wp2_with fail
 go_ret
 exact ⟨rfl, (unhide HR).1, (unhide HR).2⟩

set_option maxHeartbeats 1000000 in
theorem msg2_any (bh : Nat) (h : Ic.Hd) (W : World) (hE : Ic.Env W) (hh : Row W bh (Ic.cells h)) :
  Calls Tryz.prog 113 #[.pointer (some ⟨bh, 0, none⟩)] W fun e W' => e = .returned (.bool (!Ic.errB h.kind)) ∧ Below W.heap.size W W' := by
 have c := hh.cell 0 _ rfl
 have HP := hide (Ic.error_any h.kind W hE)
 generalize Ic.errB h.kind = b at *
 clear hE hh
 go_enter Tryz.func113, Tryz.ntmps113
 go_wp2_with fail
 refine (unhide HP).mono ?_
 rintro e w1 ⟨rfl, hb1⟩
 have HB := hide hb1
 clear hb1
 go_wp2_with fail
 go_ret
 exact ⟨rfl, unhide HB⟩

set_option maxRecDepth 100000 in
set_option maxHeartbeats 2000000 in
theorem msg3_any (bh bt bz : Nat) (h : Ic.Hd) (z : Tp) (x : Int) (W : World) (hs : h.body.size ≤ 281474976710656) (hne : bt ≠ bz) (hh : Row W bh (Ic.cells h)) (ht : Row W bt z.cells) (hz : Row W bz [.int .i64 x]) :
  Calls Tryz.prog 115 #[.pointer (some ⟨bh, 0, none⟩), .pointer (some ⟨bt, 0, none⟩), .pointer (some ⟨bz, 0, none⟩)] W fun e W' => e = .returned (.int .i64 (qE h.body)) ∧ Row W' bt (qT h.body).cells ∧ Row W' bz [.int .i64 (qN h.body)] ∧ But [bt, bz] W W' := by
 have c := hh.cell 3 _ rfl
 have HP := hide (quoted_any h.body W hs)
 generalize qT h.body = T at *
 generalize qN h.body = n at *
 generalize qE h.body = x0 at *
 clear hh
 go_enter Tryz.func115, Tryz.ntmps115
 go_wp2_with fail
 refine (unhide HP).mono ?_
 rintro e w1 ⟨rfl, hb1⟩
 replace ht := ht.on' hb1
 replace hz := hz.on' hb1
 have c0 := ht.cell 0 _ rfl
 have c1 := ht.cell 1 _ rfl
 have c2 := ht.cell 2 _ rfl
 have c3 := ht.cell 3 _ rfl
 have c4 := ht.cell 4 _ rfl
 have fr := ht.free
 have R1 := (row_all T.cells ht rfl).other (b := bz) hne 0 (.int .i64 n)
 have z0 := hz.cell 0 _ rfl
 have zf := hz.free 0
 have R2 := (hz.of_block (W' := setRow w1 bt 0 T.cells) (setRow_heap _ _ (Ne.symm hne) _ _ _)).set 0 (.int .i64 n)
 have B := ((But.of (S := [bt, bz]) hb1).setRow (g := bt) (by simp) 0 T.cells).setCell (g := bz) (by simp) 0 (.int .i64 n)
 simp only [setRow, Nat.zero_add, Nat.reduceAdd] at R1 R2 B
 have HR := hide (And.intro R1 (And.intro R2 B))
 have hne2 : bz ≠ bt := Ne.symm hne
 clear R1 R2 B ht hz hb1
 go_wp2_with fail
 go_ret
 exact ⟨rfl, (unhide HR).1, (unhide HR).2.1, (unhide HR).2.2⟩

/-- What a message of ICMP tells. -/
def typE (body : ByteArray) : Int := if (!Ic.errB (Ic.parseH body).kind) = true then 10 else 0
def msgE (body : ByteArray) : Int := firstL [Ic.parseE body, typE body, qE (Ic.parseH body).body]
def msgP (p : Pk) (body : ByteArray) : Pk := if msgE body = 0 then ⟨2, p.pos, p.total, qT (Ic.parseH body).body, p.flags, p.ttl, p.src, p.dst, p.pos + 8, p.pos + 8 + qN (Ic.parseH body).body⟩ else zeroPk
theorem msgP_yes {p : Pk} {body : ByteArray} (h : msgE body = 0) : msgP p body = ⟨2, p.pos, p.total, qT (Ic.parseH body).body, p.flags, p.ttl, p.src, p.dst, p.pos + 8, p.pos + 8 + qN (Ic.parseH body).body⟩ := if_pos h
theorem msgP_no {p : Pk} {body : ByteArray} (h : ¬ msgE body = 0) : msgP p body = zeroPk := if_neg h
theorem first3 {a b c : Int} (h : a = 0) (h2 : b = 0) : firstL [a, b, c] = c := by
 rw [firstL, if_pos h, first2 h2]
theorem first3' {a b c : Int} (h : a = 0) (h2 : ¬ b = 0) : firstL [a, b, c] = b := by
 rw [firstL, if_pos h, first1 h2]
theorem parseH_body (body : ByteArray) : (Ic.parseH body).body.size ≤ body.size := by
 unfold Ic.parseH
 split
 ·show (body.extract 8 body.size).size ≤ _
  rw [ByteArray.size_extract]; omega
 ·exact Nat.zero_le _

/-- What holds before the i-th doubt of message. -/
structure MsgQ (w : World) (g : Nat) (p : Pk) (body : ByteArray) (i : Nat) (W : World) : Prop where
 bel : Below w.heap.size w W
 row : Row W g [.func (.func 112) #[] #[.pointer (some ⟨w.heap.size + 1, 0, none⟩), .pointer (some ⟨w.heap.size + 1 + 1 + 1, 0, none⟩)], .func (.func 70) #[] #[.pointer (some ⟨w.heap.size + 1 + 1 + 1 + 1 + 1 + 1 + 1, 0, none⟩), .pointer (some ⟨w.heap.size + 1 + 1 + 1 + 1 + 1 + 1, 0, none⟩)], .func (.func 115) #[] #[.pointer (some ⟨w.heap.size + 1 + 1 + 1, 0, none⟩), .pointer (some ⟨w.heap.size + 1 + 1 + 1 + 1, 0, none⟩), .pointer (some ⟨w.heap.size + 1 + 1 + 1 + 1 + 1, 0, none⟩)]]
 p0 : Row W (w.heap.size) p.cells
 b0 : Row W (w.heap.size + 1) [.string body]
 r0 : Row W (w.heap.size + 1 + 1) zeroPk.cells
 m0 : i = 0 → Row W (w.heap.size + 1 + 1 + 1) (Ic.cells Ic.zeroHd)
 m1 : 1 ≤ i → Row W (w.heap.size + 1 + 1 + 1) (Ic.cells (Ic.parseH body)) ∧ Ic.parseE body = 0
 t0 : i ≤ 2 → Row W (w.heap.size + 1 + 1 + 1 + 1) zeroTp.cells ∧ Row W (w.heap.size + 1 + 1 + 1 + 1 + 1) [.int .i64 0]
 e0 : Row W (w.heap.size + 1 + 1 + 1 + 1 + 1 + 1) [.int .i64 10]
 f0 : Row W (w.heap.size + 1 + 1 + 1 + 1 + 1 + 1 + 1) [.func (.func 113) #[] #[.pointer (some ⟨w.heap.size + 1 + 1 + 1, 0, none⟩)]]
 v2 : 2 ≤ i → typE body = 0
 v3 : 3 ≤ i → qE (Ic.parseH body).body = 0 ∧ Row W (w.heap.size + 1 + 1 + 1 + 1) (qT (Ic.parseH body).body).cells ∧ Row W (w.heap.size + 1 + 1 + 1 + 1 + 1) [.int .i64 (qN (Ic.parseH body).body)]
/-- What holds behind them. -/
structure MsgR (w : World) (p : Pk) (body : ByteArray) (x : Int) (W : World) : Prop where
 e : x = msgE body
 bel : Below w.heap.size w W
 p0 : Row W (w.heap.size) p.cells
 r0 : Row W (w.heap.size + 1 + 1) zeroPk.cells
 t1 : msgE body = 0 → Row W (w.heap.size + 1 + 1 + 1 + 1) (qT (Ic.parseH body).body).cells ∧ Row W (w.heap.size + 1 + 1 + 1 + 1 + 1) [.int .i64 (qN (Ic.parseH body).body)]
theorem msg_doubts (w : World) (g : Nat) (p : Pk) (body : ByteArray) (hg : w.heap.size + 1 + 1 + 1 + 1 + 1 + 1 + 1 < g) (hs : body.size ≤ 140737488360000) (hE : Ic.Env w) :
  Doubts g 3 (fun i => [112, 70, 115].getD i 0) (fun i => ([#[.pointer (some ⟨w.heap.size + 1, 0, none⟩), .pointer (some ⟨w.heap.size + 1 + 1 + 1, 0, none⟩)], #[.pointer (some ⟨w.heap.size + 1 + 1 + 1 + 1 + 1 + 1 + 1, 0, none⟩), .pointer (some ⟨w.heap.size + 1 + 1 + 1 + 1 + 1 + 1, 0, none⟩)], #[.pointer (some ⟨w.heap.size + 1 + 1 + 1, 0, none⟩), .pointer (some ⟨w.heap.size + 1 + 1 + 1 + 1, 0, none⟩), .pointer (some ⟨w.heap.size + 1 + 1 + 1 + 1 + 1, 0, none⟩)]] : List (Array Value)).getD i #[]) (MsgQ w g p body) (MsgR w p body) where
 cell i W hi hq := by
  match i, hi with
  | 0, _ => exact hq.row.cell 0 _ rfl
  | 1, _ => exact hq.row.cell 1 _ rfl
  | 2, _ => exact hq.row.cell 2 _ rfl
  | n + 3, hi => exact absurd hi (by omega)
 ent i hi := by
  match i, hi with
  | 0, _ => exact Tryz.call112
  | 1, _ => exact Tryz.call70
  | 2, _ => exact Tryz.call115
  | n + 3, hi => exact absurd hi (by omega)
 on i W W' hq hb := ⟨Below.then hq.bel hb, hq.row.on' hb, hq.p0.on' hb, hq.b0.on' hb, hq.r0.on' hb, fun h => (hq.m0 h).on' hb, fun h => ⟨(hq.m1 h).1.on' hb, (hq.m1 h).2⟩, fun h => ⟨(hq.t0 h).1.on' hb, (hq.t0 h).2.on' hb⟩, hq.e0.on' hb, hq.f0.on' hb, hq.v2, fun h => ⟨(hq.v3 h).1, (hq.v3 h).2.1.on' hb, (hq.v3 h).2.2.on' hb⟩⟩
 fin W hq := ⟨by unfold msgE; rw [first3 (hq.m1 (by omega)).2 (hq.v2 (by omega)), (hq.v3 (by omega)).1], hq.bel, hq.p0, hq.r0, fun _ => (hq.v3 (by omega)).2⟩
 call i W hi hq := by
  match i, hi with
  | 0, _ =>
   refine (msg1_any (w.heap.size + 1) (w.heap.size + 1 + 1 + 1) body Ic.zeroHd W (by omega) hq.b0 (hq.m0 rfl)).mono fun e W' ⟨he, hr, hb⟩ => ⟨_, he, ?_⟩
   have hbel := hb.below hq.bel (fun x hx => by simp at hx; omega)
   have p0 := hq.p0.but hb (by simp <;> omega)
   have b0 := hq.b0.but hb (by simp <;> omega)
   have r0 := hq.r0.but hb (by simp <;> omega)
   have row := hq.row.but hb (by simp <;> omega)
   have t0 := (hq.t0 (by omega)).1.but hb (by simp <;> omega)
   have z0 := (hq.t0 (by omega)).2.but hb (by simp <;> omega)
   have e0 := hq.e0.but hb (by simp <;> omega)
   have f0 := hq.f0.but hb (by simp <;> omega)
   by_cases h0 : Ic.parseE body = 0
   ·exact .inl ⟨h0, hbel, row, p0, b0, r0, fun h => absurd h (by omega), fun _ => ⟨hr, h0⟩, fun _ => ⟨t0, z0⟩, e0, f0, fun h => absurd h (by omega), fun h => absurd h (by omega)⟩
   ·have e : msgE body = Ic.parseE body := by unfold msgE; rw [first1 h0]
    exact .inr ⟨h0, e.symm, hbel, p0, r0, fun h => absurd (e.symm.trans h) h0⟩
  | 1, _ =>
   have hm := hq.m1 (by omega)
   have ht := hq.t0 (by omega)
   refine (when1_any (w.heap.size + 1 + 1 + 1 + 1 + 1 + 1) (w.heap.size + 1 + 1 + 1 + 1 + 1 + 1 + 1) 10 113 #[.pointer (some ⟨w.heap.size + 1 + 1 + 1, 0, none⟩)] (!Ic.errB (Ic.parseH body).kind) W hq.f0 hq.e0 Tryz.call113 (msg2_any (w.heap.size + 1 + 1 + 1) (Ic.parseH body) W (hE.on hq.bel) hm.1)).mono fun e W' ⟨he, hb⟩ => ⟨typE body, he, ?_⟩
   by_cases h0 : typE body = 0
   ·exact .inl ⟨h0, Below.then hq.bel hb, hq.row.on' hb, hq.p0.on' hb, hq.b0.on' hb, hq.r0.on' hb, fun h => absurd h (by omega), fun _ => ⟨hm.1.on' hb, hm.2⟩, fun _ => ⟨ht.1.on' hb, ht.2.on' hb⟩, hq.e0.on' hb, hq.f0.on' hb, fun _ => h0, fun h => absurd h (by omega)⟩
   ·have e : msgE body = typE body := by unfold msgE; rw [first3' hm.2 h0]
    exact .inr ⟨h0, e.symm, Below.then hq.bel hb, hq.p0.on' hb, hq.r0.on' hb, fun h => absurd (e.symm.trans h) h0⟩
  | 2, _ =>
   have hm := hq.m1 (by omega)
   have ht := hq.t0 (by omega)
   have h2 := hq.v2 (by omega)
   have hbz := parseH_body body
   refine (msg3_any (w.heap.size + 1 + 1 + 1) (w.heap.size + 1 + 1 + 1 + 1) (w.heap.size + 1 + 1 + 1 + 1 + 1) (Ic.parseH body) zeroTp 0 W (by omega) (by omega) hm.1 ht.1 ht.2).mono fun e W' ⟨he, hr, hr2, hb⟩ => ⟨_, he, ?_⟩
   have hbel := hb.below hq.bel (fun x hx => by simp at hx; omega)
   have p0 := hq.p0.but hb (by simp <;> omega)
   have b0 := hq.b0.but hb (by simp <;> omega)
   have r0 := hq.r0.but hb (by simp <;> omega)
   have row := hq.row.but hb (by simp <;> omega)
   have m1 := hm.1.but hb (by simp <;> omega)
   have e0 := hq.e0.but hb (by simp <;> omega)
   have f0 := hq.f0.but hb (by simp <;> omega)
   have e : msgE body = qE (Ic.parseH body).body := by unfold msgE; rw [first3 hm.2 h2]
   by_cases h0 : qE (Ic.parseH body).body = 0
   ·exact .inl ⟨h0, hbel, row, p0, b0, r0, fun h => absurd h (by omega), fun _ => ⟨m1, hm.2⟩, fun h => absurd h (by omega), e0, f0, fun _ => h2, fun _ => ⟨h0, hr, hr2⟩⟩
   ·exact .inr ⟨h0, e.symm, hbel, p0, r0, fun _ => ⟨hr, hr2⟩⟩
  | n + 3, hi => exact absurd hi (by omega)

set_option maxRecDepth 100000 in
set_option maxHeartbeats 4000000 in
theorem message_any (p : Pk) (body : ByteArray) (w : World) (hs : body.size ≤ 140737488360000) (hE : Ic.Env w) (h0 : 0 ≤ p.pos) (h1 : p.pos ≤ 1000) :
  Calls Tryz.prog 73 #[p.val, .string body] w fun e w' => e = .returned (.tuple #[(msgP p body).val, .int .i64 (msgE body)]) ∧ Below w.heap.size w w' := by
 have HG := hide hE
 clear hE
 go_enter Tryz.func73, Tryz.ntmps73
 go_wp2_with fail
 have hz6 : (allocs w [(p.cells, 45), ([.string body], 9), (zeroPk.cells, 45), (Ic.cells Ic.zeroHd, 103), (zeroTp.cells, 43), ([.int .i64 0], 3)]).heap.size = w.heap.size + 1 + 1 + 1 + 1 + 1 + 1 := allocs_size _ w
 refine (when_any 10 113 #[.pointer (some ⟨w.heap.size + 1 + 1 + 1, 0, none⟩)] (allocs w [(p.cells, 45), ([.string body], 9), (zeroPk.cells, 45), (Ic.cells Ic.zeroHd, 103), (zeroTp.cells, 43), ([.int .i64 0], 3)])).mono ?_
 rintro e v ⟨rfl, ra, rb, bl, hzv⟩
 rw [hz6] at ra rb hzv
 have HA : Hid (Row v (w.heap.size) p.cells ∧ Row v (w.heap.size + 1) [.string body] ∧ Row v (w.heap.size + 1 + 1) zeroPk.cells ∧ Row v (w.heap.size + 1 + 1 + 1) (Ic.cells Ic.zeroHd) ∧ Row v (w.heap.size + 1 + 1 + 1 + 1) zeroTp.cells ∧ Row v (w.heap.size + 1 + 1 + 1 + 1 + 1) [.int .i64 0] ∧ Row v (w.heap.size + 1 + 1 + 1 + 1 + 1 + 1) [.int .i64 10] ∧ Row v (w.heap.size + 1 + 1 + 1 + 1 + 1 + 1 + 1) [.func (.func 113) #[] #[.pointer (some ⟨w.heap.size + 1 + 1 + 1, 0, none⟩)]] ∧ Below w.heap.size w v ∧ w.heap.size + 1 + 1 + 1 + 1 + 1 + 1 + 1 < v.heap.size) :=
  ⟨(allocs_row _ w 0 _ _ rfl).on' bl, (allocs_row _ w 1 _ _ rfl).on' bl, (allocs_row _ w 2 _ _ rfl).on' bl, (allocs_row _ w 3 _ _ rfl).on' bl, (allocs_row _ w 4 _ _ rfl).on' bl, (allocs_row _ w 5 _ _ rfl).on' bl, ra, rb, Below.then (allocs_below _ w) bl, by omega⟩
 simp only [hz6]
 clear ra rb bl hzv hz6
 go_wp2_with fail
 obtain ⟨a0, a1, a2, a3, a4, a5, a6, a7, ab, az⟩ := unhide HA
 have nv := alloc_on v (.cells #[.func (.func 112) #[] #[.pointer (some ⟨w.heap.size + 1, 0, none⟩), .pointer (some ⟨w.heap.size + 1 + 1 + 1, 0, none⟩)], .func (.func 70) #[] #[.pointer (some ⟨w.heap.size + 1 + 1 + 1 + 1 + 1 + 1 + 1, 0, none⟩), .pointer (some ⟨w.heap.size + 1 + 1 + 1 + 1 + 1 + 1, 0, none⟩)], .func (.func 115) #[] #[.pointer (some ⟨w.heap.size + 1 + 1 + 1, 0, none⟩), .pointer (some ⟨w.heap.size + 1 + 1 + 1 + 1, 0, none⟩), .pointer (some ⟨w.heap.size + 1 + 1 + 1 + 1 + 1, 0, none⟩)]] 82)
 refine (first_any v.heap.size 3 _ _ _ _ (msg_doubts w v.heap.size p body az hs (unhide HG)) (by decide) (v.alloc (.cells #[.func (.func 112) #[] #[.pointer (some ⟨w.heap.size + 1, 0, none⟩), .pointer (some ⟨w.heap.size + 1 + 1 + 1, 0, none⟩)], .func (.func 70) #[] #[.pointer (some ⟨w.heap.size + 1 + 1 + 1 + 1 + 1 + 1 + 1, 0, none⟩), .pointer (some ⟨w.heap.size + 1 + 1 + 1 + 1 + 1 + 1, 0, none⟩)], .func (.func 115) #[] #[.pointer (some ⟨w.heap.size + 1 + 1 + 1, 0, none⟩), .pointer (some ⟨w.heap.size + 1 + 1 + 1 + 1, 0, none⟩), .pointer (some ⟨w.heap.size + 1 + 1 + 1 + 1 + 1, 0, none⟩)]] 82)) ⟨Below.then ab nv, row_new v _ _, a0.on' nv, a1.on' nv, a2.on' nv, fun _ => a3.on' nv, fun h => absurd h (by decide), fun _ => ⟨a4.on' nv, a5.on' nv⟩, a6.on' nv, a7.on' nv, fun h => absurd h (by decide), fun h => absurd h (by decide)⟩).mono ?_
 rintro e W1 ⟨x, rfl, hR⟩
 clear a0 a1 a2 a3 a4 a5 a6 a7 ab az nv HA
 obtain ⟨rfl, hbel, p0, r0, ht1⟩ := hR
 by_cases he : msgE body = 0
 ·have HP := hide (msgP_yes (p := p) he)
  have HE := hide he
  have hd : (msgE body != 0) = false := by rw [he]; rfl
  obtain ⟨t1, z1⟩ := ht1 he
  clear ht1
  obtain ⟨n0, n1⟩ := qN_rng (Ic.parseH body).body
  generalize qN (Ic.parseH body).body = Z at *
  generalize qT (Ic.parseH body).body = T at *
  have s1 := p0.cell 0 _ rfl
  have f1 := p0.free 0
  replace p0 := p0.set 0 (.int .i64 2)
  replace r0 := r0.other (b := w.heap.size) (by omega) 0 (.int .i64 2)
  replace t1 := t1.other (b := w.heap.size) (by omega) 0 (.int .i64 2)
  replace z1 := z1.other (b := w.heap.size) (by omega) 0 (.int .i64 2)
  replace hbel := hbel.setCell (p := ⟨w.heap.size, 0, none⟩) (Nat.le_refl _) (.int .i64 2)
  obtain ⟨W2, e1⟩ : ∃ V, W1.setCell ⟨w.heap.size, 0, none⟩ (.int .i64 2) = V := ⟨_, rfl⟩
  rw [e1] at hbel p0 r0 t1 z1
  have l0 := t1.cell 0 _ rfl
  have l1 := t1.cell 1 _ rfl
  have l2 := t1.cell 2 _ rfl
  have l3 := t1.cell 3 _ rfl
  have l4 := t1.cell 4 _ rfl
  have s2 := p0.cell 3 _ rfl
  have f2 := p0.free 3
  replace p0 := p0.set 3 (.int .i64 T.proto)
  replace r0 := r0.other (b := w.heap.size) (by omega) 3 (.int .i64 T.proto)
  replace t1 := t1.other (b := w.heap.size) (by omega) 3 (.int .i64 T.proto)
  replace z1 := z1.other (b := w.heap.size) (by omega) 3 (.int .i64 T.proto)
  replace hbel := hbel.setCell (p := ⟨w.heap.size, 3, none⟩) (Nat.le_refl _) (.int .i64 T.proto)
  obtain ⟨W3, e2⟩ : ∃ V, W2.setCell ⟨w.heap.size, 3, none⟩ (.int .i64 T.proto) = V := ⟨_, rfl⟩
  rw [e2] at hbel p0 r0 t1 z1
  have s3 := p0.cell 4 _ rfl
  have f3 := p0.free 4
  replace p0 := p0.set 4 (.int .u32 T.src)
  replace r0 := r0.other (b := w.heap.size) (by omega) 4 (.int .u32 T.src)
  replace t1 := t1.other (b := w.heap.size) (by omega) 4 (.int .u32 T.src)
  replace z1 := z1.other (b := w.heap.size) (by omega) 4 (.int .u32 T.src)
  replace hbel := hbel.setCell (p := ⟨w.heap.size, 4, none⟩) (Nat.le_refl _) (.int .u32 T.src)
  obtain ⟨W4, e3⟩ : ∃ V, W3.setCell ⟨w.heap.size, 4, none⟩ (.int .u32 T.src) = V := ⟨_, rfl⟩
  rw [e3] at hbel p0 r0 t1 z1
  have s4 := p0.cell 5 _ rfl
  have f4 := p0.free 5
  replace p0 := p0.set 5 (.int .u32 T.dst)
  replace r0 := r0.other (b := w.heap.size) (by omega) 5 (.int .u32 T.dst)
  replace t1 := t1.other (b := w.heap.size) (by omega) 5 (.int .u32 T.dst)
  replace z1 := z1.other (b := w.heap.size) (by omega) 5 (.int .u32 T.dst)
  replace hbel := hbel.setCell (p := ⟨w.heap.size, 5, none⟩) (Nat.le_refl _) (.int .u32 T.dst)
  obtain ⟨W5, e4⟩ : ∃ V, W4.setCell ⟨w.heap.size, 5, none⟩ (.int .u32 T.dst) = V := ⟨_, rfl⟩
  rw [e4] at hbel p0 r0 t1 z1
  have s5 := p0.cell 6 _ rfl
  have f5 := p0.free 6
  replace p0 := p0.set 6 (.int .i64 T.sport)
  replace r0 := r0.other (b := w.heap.size) (by omega) 6 (.int .i64 T.sport)
  replace t1 := t1.other (b := w.heap.size) (by omega) 6 (.int .i64 T.sport)
  replace z1 := z1.other (b := w.heap.size) (by omega) 6 (.int .i64 T.sport)
  replace hbel := hbel.setCell (p := ⟨w.heap.size, 6, none⟩) (Nat.le_refl _) (.int .i64 T.sport)
  obtain ⟨W6, e5⟩ : ∃ V, W5.setCell ⟨w.heap.size, 6, none⟩ (.int .i64 T.sport) = V := ⟨_, rfl⟩
  rw [e5] at hbel p0 r0 t1 z1
  have s6 := p0.cell 7 _ rfl
  have f6 := p0.free 7
  replace p0 := p0.set 7 (.int .i64 T.dport)
  replace r0 := r0.other (b := w.heap.size) (by omega) 7 (.int .i64 T.dport)
  replace t1 := t1.other (b := w.heap.size) (by omega) 7 (.int .i64 T.dport)
  replace z1 := z1.other (b := w.heap.size) (by omega) 7 (.int .i64 T.dport)
  replace hbel := hbel.setCell (p := ⟨w.heap.size, 7, none⟩) (Nat.le_refl _) (.int .i64 T.dport)
  obtain ⟨W7, e6⟩ : ∃ V, W6.setCell ⟨w.heap.size, 7, none⟩ (.int .i64 T.dport) = V := ⟨_, rfl⟩
  rw [e6] at hbel p0 r0 t1 z1
  have l5 := p0.cell 1 _ rfl
  have s7 := p0.cell 12 _ rfl
  have f7 := p0.free 12
  replace p0 := p0.set 12 (.int .i64 (p.pos + 8))
  replace r0 := r0.other (b := w.heap.size) (by omega) 12 (.int .i64 (p.pos + 8))
  replace t1 := t1.other (b := w.heap.size) (by omega) 12 (.int .i64 (p.pos + 8))
  replace z1 := z1.other (b := w.heap.size) (by omega) 12 (.int .i64 (p.pos + 8))
  replace hbel := hbel.setCell (p := ⟨w.heap.size, 12, none⟩) (Nat.le_refl _) (.int .i64 (p.pos + 8))
  obtain ⟨W8, e7⟩ : ∃ V, W7.setCell ⟨w.heap.size, 12, none⟩ (.int .i64 (p.pos + 8)) = V := ⟨_, rfl⟩
  rw [e7] at hbel p0 r0 t1 z1
  have l6 := p0.cell 12 _ rfl
  have l7 := z1.cell 0 _ rfl
  have s8 := p0.cell 13 _ rfl
  have f8 := p0.free 13
  replace p0 := p0.set 13 (.int .i64 (p.pos + 8 + Z))
  replace r0 := r0.other (b := w.heap.size) (by omega) 13 (.int .i64 (p.pos + 8 + Z))
  replace t1 := t1.other (b := w.heap.size) (by omega) 13 (.int .i64 (p.pos + 8 + Z))
  replace z1 := z1.other (b := w.heap.size) (by omega) 13 (.int .i64 (p.pos + 8 + Z))
  replace hbel := hbel.setCell (p := ⟨w.heap.size, 13, none⟩) (Nat.le_refl _) (.int .i64 (p.pos + 8 + Z))
  obtain ⟨W9, e8⟩ : ∃ V, W8.setCell ⟨w.heap.size, 13, none⟩ (.int .i64 (p.pos + 8 + Z)) = V := ⟨_, rfl⟩
  rw [e8] at hbel p0 r0 t1 z1
  replace p0 : Row W9 (w.heap.size) (Pk.cells ⟨2, p.pos, p.total, T, p.flags, p.ttl, p.src, p.dst, p.pos + 8, p.pos + 8 + Z⟩) := p0
  have pp0 := p0.cell 0 _ rfl
  have pp1 := p0.cell 1 _ rfl
  have pp2 := p0.cell 2 _ rfl
  have pp3 := p0.cell 3 _ rfl
  have pp4 := p0.cell 4 _ rfl
  have pp5 := p0.cell 5 _ rfl
  have pp6 := p0.cell 6 _ rfl
  have pp7 := p0.cell 7 _ rfl
  have pp8 := p0.cell 8 _ rfl
  have pp9 := p0.cell 9 _ rfl
  have pp10 := p0.cell 10 _ rfl
  have pp11 := p0.cell 11 _ rfl
  have pp12 := p0.cell 12 _ rfl
  have pp13 := p0.cell 13 _ rfl
  have c0 := r0.cell 0 _ rfl
  have c1 := r0.cell 1 _ rfl
  have c2 := r0.cell 2 _ rfl
  have c3 := r0.cell 3 _ rfl
  have c4 := r0.cell 4 _ rfl
  have c5 := r0.cell 5 _ rfl
  have c6 := r0.cell 6 _ rfl
  have c7 := r0.cell 7 _ rfl
  have c8 := r0.cell 8 _ rfl
  have c9 := r0.cell 9 _ rfl
  have c10 := r0.cell 10 _ rfl
  have c11 := r0.cell 11 _ rfl
  have c12 := r0.cell 12 _ rfl
  have c13 := r0.cell 13 _ rfl
  have fr := r0.free
  have R := row_all (Pk.cells ⟨2, p.pos, p.total, T, p.flags, p.ttl, p.src, p.dst, p.pos + 8, p.pos + 8 + Z⟩) r0 rfl
  have B := hbel.trans ((setRow_below (w.heap.size + 1 + 1) (Pk.cells ⟨2, p.pos, p.total, T, p.flags, p.ttl, p.src, p.dst, p.pos + 8, p.pos + 8 + Z⟩) 0 _).mono (by omega))
  simp only [setRow, Nat.zero_add, Nat.reduceAdd] at R B
  have HR := hide (And.intro R B)
  clear R B p0 r0 t1 z1 hbel 
  go_wp2_with fail
  obtain ⟨R, B⟩ := unhide HR
  have z0 := R.cell 0 _ rfl
  have z1 := R.cell 1 _ rfl
  have z2 := R.cell 2 _ rfl
  have z3 := R.cell 3 _ rfl
  have z4 := R.cell 4 _ rfl
  have z5 := R.cell 5 _ rfl
  have z6 := R.cell 6 _ rfl
  have z7 := R.cell 7 _ rfl
  have z8 := R.cell 8 _ rfl
  have z9 := R.cell 9 _ rfl
  have z10 := R.cell 10 _ rfl
  have z11 := R.cell 11 _ rfl
  have z12 := R.cell 12 _ rfl
  have z13 := R.cell 13 _ rfl
  refine bodyPost_ret (v := .tuple #[Pk.val ⟨2, p.pos, p.total, T, p.flags, p.ttl, p.src, p.dst, p.pos + 8, p.pos + 8 + Z⟩, .int .i64 0]) (by simp [results, Tryz.results73, go_sem, z0, z1, z2, z3, z4, z5, z6, z7, z8, z9, z10, z11, z12, z13]) rfl ⟨ret_pe HP.out.symm HE.out.symm, B⟩
 ·have HP := hide (msgP_no (p := p) he)
  have hd : (msgE body != 0) = true := by simpa using he
  have c0 := r0.cell 0 _ rfl
  have c1 := r0.cell 1 _ rfl
  have c2 := r0.cell 2 _ rfl
  have c3 := r0.cell 3 _ rfl
  have c4 := r0.cell 4 _ rfl
  have c5 := r0.cell 5 _ rfl
  have c6 := r0.cell 6 _ rfl
  have c7 := r0.cell 7 _ rfl
  have c8 := r0.cell 8 _ rfl
  have c9 := r0.cell 9 _ rfl
  have c10 := r0.cell 10 _ rfl
  have c11 := r0.cell 11 _ rfl
  have c12 := r0.cell 12 _ rfl
  have c13 := r0.cell 13 _ rfl
  have fr := r0.free
  have R := row_all zeroPk.cells r0 rfl
  have B := hbel.trans ((setRow_below (w.heap.size + 1 + 1) zeroPk.cells 0 W1).mono (by omega))
  simp only [setRow, zeroPk, zeroTp, Nat.zero_add, Nat.reduceAdd] at R B
  have HR := hide (And.intro R B)
  clear R B p0 r0 ht1 hbel
  go_wp2_with fail
  obtain ⟨R, B⟩ := unhide HR
  have z0 := R.cell 0 _ rfl
  have z1 := R.cell 1 _ rfl
  have z2 := R.cell 2 _ rfl
  have z3 := R.cell 3 _ rfl
  have z4 := R.cell 4 _ rfl
  have z5 := R.cell 5 _ rfl
  have z6 := R.cell 6 _ rfl
  have z7 := R.cell 7 _ rfl
  have z8 := R.cell 8 _ rfl
  have z9 := R.cell 9 _ rfl
  have z10 := R.cell 10 _ rfl
  have z11 := R.cell 11 _ rfl
  have z12 := R.cell 12 _ rfl
  have z13 := R.cell 13 _ rfl
  refine bodyPost_ret (v := .tuple #[zeroPk.val, .int .i64 (msgE body)]) (by simp [results, Tryz.results73, go_sem, zeroPk, zeroTp, z0, z1, z2, z3, z4, z5, z6, z7, z8, z9, z10, z11, z12, z13]) rfl ⟨ret_pe HP.out.symm rfl, B⟩
end Go.Proofs.YtpjaajeojiaeiaaGreatDoor
