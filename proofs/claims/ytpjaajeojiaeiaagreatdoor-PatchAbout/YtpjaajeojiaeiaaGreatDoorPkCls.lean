/- What Classify of package packet computes. -/
import Derived.Test.YtpjaajeojiaeiaaGreatDoorPkIns
namespace Go.Proofs.YtpjaajeojiaeiaaGreatDoor
open Go.ChangeShapes Go.WideShapes Go.ChangeAt Go.RowKit

def frgE (s : ByteArray) : Int := if fragB (Ip.parseH s) = true then 8 else 0
/-- The first error of a packet. -/
def clsE (s : ByteArray) : Int := firstL [Ip.parseE s, frgE s, inE (Ip.parseH s).proto (outP s (Ip.parseH s)) (Ip.parseS s)]
/-- What a packet tells. -/
def clsP (s : ByteArray) : Pk := if Ip.parseE s = 0 ∧ frgE s = 0 then inP (Ip.parseH s).proto (outP s (Ip.parseH s)) (Ip.parseS s) else zeroPk
theorem parseS_size (s : ByteArray) : (Ip.parseS s).size ≤ s.size := by
 unfold Ip.parseS
 split
 ·show (s.extract _ _).size ≤ _
  rw [ByteArray.size_extract]; omega
 ·exact Nat.zero_le _
theorem sizeH_rng (s : ByteArray) : 0 ≤ Ip.sizeH s ∧ Ip.sizeH s ≤ 1000 := by
 unfold Ip.sizeH
 have := Ip.fit1 (Ip.fget_fits s)
 split <;> omega
theorem parseH_rng (s : ByteArray) : (0 ≤ (Ip.parseH s).flags ∧ (Ip.parseH s).flags ≤ 7) ∧ Ps.U32 (Ip.parseH s).src ∧ Ps.U32 (Ip.parseH s).dst := by
 have f5 := Ip.fit5 (Ip.fget_fits s)
 have f10 := Ip.fit10 (Ip.fget_fits s)
 have f11 := Ip.fit11 (Ip.fget_fits s)
 unfold Ip.parseH
 split
 ·refine ⟨?_, ?_, ?_⟩
  ·show 0 ≤ Ip.fget s 5 ∧ Ip.fget s 5 ≤ 7; omega
  ·show 0 ≤ Ip.fget s 10 ∧ Ip.fget s 10 ≤ 4294967295; omega
  ·show 0 ≤ Ip.fget s 11 ∧ Ip.fget s 11 ≤ 4294967295; omega
 ·exact ⟨by decide, ⟨by decide, by decide⟩, ⟨by decide, by decide⟩⟩

/-- What holds before the i-th doubt of Classify. -/
structure ClsQ (w : World) (g : Nat) (s : ByteArray) (i : Nat) (W : World) : Prop where
 bel : Below w.heap.size w W
 row : Row W g [.func (.func 37) #[] #[.pointer (some ⟨w.heap.size, 0, none⟩), .pointer (some ⟨w.heap.size + 1 + 1, 0, none⟩), .pointer (some ⟨w.heap.size + 1 + 1 + 1, 0, none⟩)], .func (.func 70) #[] #[.pointer (some ⟨w.heap.size + 1 + 1 + 1 + 1 + 1 + 1, 0, none⟩), .pointer (some ⟨w.heap.size + 1 + 1 + 1 + 1 + 1, 0, none⟩)], .func (.func 41) #[] #[.pointer (some ⟨w.heap.size + 1 + 1, 0, none⟩), .pointer (some ⟨w.heap.size, 0, none⟩), .pointer (some ⟨w.heap.size + 1 + 1 + 1, 0, none⟩), .pointer (some ⟨w.heap.size + 1 + 1 + 1 + 1, 0, none⟩)]]
 s0 : Row W (w.heap.size) [.string s]
 r0 : Row W (w.heap.size + 1) zeroPk.cells
 h0 : i = 0 → Row W (w.heap.size + 1 + 1) (Ip.cells Ip.zeroHd) ∧ Row W (w.heap.size + 1 + 1 + 1) [.string ⟨#[]⟩]
 h1 : 1 ≤ i → Row W (w.heap.size + 1 + 1) (Ip.cells (Ip.parseH s)) ∧ Row W (w.heap.size + 1 + 1 + 1) [.string (Ip.parseS s)] ∧ Ip.parseE s = 0
 p0 : i ≤ 2 → Row W (w.heap.size + 1 + 1 + 1 + 1) zeroPk.cells
 e0 : Row W (w.heap.size + 1 + 1 + 1 + 1 + 1) [.int .i64 8]
 f0 : Row W (w.heap.size + 1 + 1 + 1 + 1 + 1 + 1) [.func (.func 40) #[] #[.pointer (some ⟨w.heap.size + 1 + 1, 0, none⟩)]]
 v2 : 2 ≤ i → frgE s = 0
 v3 : 3 ≤ i → inE (Ip.parseH s).proto (outP s (Ip.parseH s)) (Ip.parseS s) = 0 ∧ Row W (w.heap.size + 1 + 1 + 1 + 1) (inP (Ip.parseH s).proto (outP s (Ip.parseH s)) (Ip.parseS s)).cells
/-- What holds behind them. -/
structure ClsR (w : World) (s : ByteArray) (x : Int) (W : World) : Prop where
 e : x = clsE s
 bel : Below w.heap.size w W
 r0 : Row W (w.heap.size + 1) zeroPk.cells
 p1 : Row W (w.heap.size + 1 + 1 + 1 + 1) (clsP s).cells
theorem cls_doubts (w : World) (g : Nat) (s : ByteArray) (hg : w.heap.size + 1 + 1 + 1 + 1 + 1 + 1 < g) (hs : s.size ≤ 140737488360000) (hE : Ic.Env w) :
  Doubts g 3 (fun i => [37, 70, 41].getD i 0) (fun i => ([#[.pointer (some ⟨w.heap.size, 0, none⟩), .pointer (some ⟨w.heap.size + 1 + 1, 0, none⟩), .pointer (some ⟨w.heap.size + 1 + 1 + 1, 0, none⟩)], #[.pointer (some ⟨w.heap.size + 1 + 1 + 1 + 1 + 1 + 1, 0, none⟩), .pointer (some ⟨w.heap.size + 1 + 1 + 1 + 1 + 1, 0, none⟩)], #[.pointer (some ⟨w.heap.size + 1 + 1, 0, none⟩), .pointer (some ⟨w.heap.size, 0, none⟩), .pointer (some ⟨w.heap.size + 1 + 1 + 1, 0, none⟩), .pointer (some ⟨w.heap.size + 1 + 1 + 1 + 1, 0, none⟩)]] : List (Array Value)).getD i #[]) (ClsQ w g s) (ClsR w s) where
 cell i W hi hq := by
  match i, hi with
  | 0, _ => exact hq.row.cell 0 _ rfl
  | 1, _ => exact hq.row.cell 1 _ rfl
  | 2, _ => exact hq.row.cell 2 _ rfl
  | n + 3, hi => exact absurd hi (by omega)
 ent i hi := by
  match i, hi with
  | 0, _ => exact Tryz.call37
  | 1, _ => exact Tryz.call70
  | 2, _ => exact Tryz.call41
  | n + 3, hi => exact absurd hi (by omega)
 on i W W' hq hb := ⟨Below.then hq.bel hb, hq.row.on' hb, hq.s0.on' hb, hq.r0.on' hb, fun h => ⟨(hq.h0 h).1.on' hb, (hq.h0 h).2.on' hb⟩, fun h => ⟨(hq.h1 h).1.on' hb, (hq.h1 h).2.1.on' hb, (hq.h1 h).2.2⟩, fun h => (hq.p0 h).on' hb, hq.e0.on' hb, hq.f0.on' hb, hq.v2, fun h => ⟨(hq.v3 h).1, (hq.v3 h).2.on' hb⟩⟩
 fin W hq := ⟨by unfold clsE; rw [first3 (hq.h1 (by omega)).2.2 (hq.v2 (by omega)), (hq.v3 (by omega)).1], hq.bel, hq.r0, by unfold clsP; rw [if_pos ⟨(hq.h1 (by omega)).2.2, hq.v2 (by omega)⟩]; exact (hq.v3 (by omega)).2⟩
 call i W hi hq := by
  match i, hi with
  | 0, _ =>
   refine (cls1_any (w.heap.size) (w.heap.size + 1 + 1) (w.heap.size + 1 + 1 + 1) s ⟨#[]⟩ Ip.zeroHd W (by omega) (by omega) hq.s0 (hq.h0 rfl).1 (hq.h0 rfl).2).mono fun e W' ⟨he, hr, hr2, hb⟩ => ⟨_, he, ?_⟩
   have hbel := hb.below hq.bel (fun x hx => by simp at hx; omega)
   have s0 := hq.s0.but hb (by simp <;> omega)
   have r0 := hq.r0.but hb (by simp <;> omega)
   have p0 := (hq.p0 (by omega)).but hb (by simp <;> omega)
   have row := hq.row.but hb (by simp <;> omega)
   have e0 := hq.e0.but hb (by simp <;> omega)
   have f0 := hq.f0.but hb (by simp <;> omega)
   by_cases h0 : Ip.parseE s = 0
   ·exact .inl ⟨h0, hbel, row, s0, r0, fun h => absurd h (by omega), fun _ => ⟨hr, hr2, h0⟩, fun _ => p0, e0, f0, fun h => absurd h (by omega), fun h => absurd h (by omega)⟩
   ·exact .inr ⟨h0, by unfold clsE; rw [first1 h0], hbel, r0, by unfold clsP; rw [if_neg (fun h => h0 h.1)]; exact p0⟩
  | 1, _ =>
   have hm := hq.h1 (by omega)
   have hp := hq.p0 (by omega)
   have hr := parseH_rng s
   refine (when1_any (w.heap.size + 1 + 1 + 1 + 1 + 1) (w.heap.size + 1 + 1 + 1 + 1 + 1 + 1) 8 40 #[.pointer (some ⟨w.heap.size + 1 + 1, 0, none⟩)] (fragB (Ip.parseH s)) W hq.f0 hq.e0 Tryz.call40 (cls2_any (w.heap.size + 1 + 1) (Ip.parseH s) W hr.1.1 hr.1.2 hm.1)).mono fun e W' ⟨he, hb⟩ => ⟨frgE s, he, ?_⟩
   by_cases h0 : frgE s = 0
   ·exact .inl ⟨h0, Below.then hq.bel hb, hq.row.on' hb, hq.s0.on' hb, hq.r0.on' hb, fun h => absurd h (by omega), fun _ => ⟨hm.1.on' hb, hm.2.1.on' hb, hm.2.2⟩, fun _ => hp.on' hb, hq.e0.on' hb, hq.f0.on' hb, fun _ => h0, fun h => absurd h (by omega)⟩
   ·exact .inr ⟨h0, by unfold clsE; rw [first3' hm.2.2 h0], Below.then hq.bel hb, hq.r0.on' hb, by unfold clsP; rw [if_neg (fun h => h0 h.2)]; exact hp.on' hb⟩
  | 2, _ =>
   have hm := hq.h1 (by omega)
   have hp := hq.p0 (by omega)
   have h2 := hq.v2 (by omega)
   have hr := parseH_rng s
   have hz := sizeH_rng s
   have hbz := parseS_size s
   refine (cls3_any (w.heap.size + 1 + 1) (w.heap.size) (w.heap.size + 1 + 1 + 1) (w.heap.size + 1 + 1 + 1 + 1) (Ip.parseH s) s (Ip.parseS s) zeroPk W (by omega) (by omega) hr.2.1 hr.2.2 (hE.on hq.bel) hz.1 hz.2 hm.1 hq.s0 hm.2.1 hp).mono fun e W' ⟨he, hrr, hb⟩ => ⟨_, he, ?_⟩
   have hbel := hb.below hq.bel (fun x hx => by simp at hx; omega)
   have s0 := hq.s0.but hb (by simp <;> omega)
   have r0 := hq.r0.but hb (by simp <;> omega)
   have row := hq.row.but hb (by simp <;> omega)
   have m1 := hm.1.but hb (by simp <;> omega)
   have m2 := hm.2.1.but hb (by simp <;> omega)
   have e0 := hq.e0.but hb (by simp <;> omega)
   have f0 := hq.f0.but hb (by simp <;> omega)
   by_cases h0 : inE (Ip.parseH s).proto (outP s (Ip.parseH s)) (Ip.parseS s) = 0
   ·exact .inl ⟨h0, hbel, row, s0, r0, fun h => absurd h (by omega), fun _ => ⟨m1, m2, hm.2.2⟩, fun h => absurd h (by omega), e0, f0, fun _ => h2, fun _ => ⟨h0, hrr⟩⟩
   ·exact .inr ⟨h0, by unfold clsE; rw [first3 hm.2.2 h2], hbel, r0, by unfold clsP; rw [if_pos ⟨hm.2.2, h2⟩]; exact hrr⟩
  | n + 3, hi => exact absurd hi (by omega)

set_option maxRecDepth 100000 in
set_option maxHeartbeats 4000000 in
theorem classify_any (s : ByteArray) (w : World) (hs : s.size ≤ 140737488360000) (hE : Ic.Env w) :
  Calls Tryz.prog 18 #[.string s] w fun e w' => e = .returned (.tuple #[(clsP s).val, .int .i64 (clsE s)]) ∧ Below w.heap.size w w' := by
 have HG := hide hE
 clear hE
 go_enter Tryz.func18, Tryz.ntmps18
 go_wp2_with fail
 have hz6 : (allocs w [([.string s], 9), (zeroPk.cells, 45), (Ip.cells Ip.zeroHd, 76), ([.string ⟨#[]⟩], 9), (zeroPk.cells, 45)]).heap.size = w.heap.size + 1 + 1 + 1 + 1 + 1 := allocs_size _ w
 refine (when_any 8 40 #[.pointer (some ⟨w.heap.size + 1 + 1, 0, none⟩)] (allocs w [([.string s], 9), (zeroPk.cells, 45), (Ip.cells Ip.zeroHd, 76), ([.string ⟨#[]⟩], 9), (zeroPk.cells, 45)])).mono ?_
 rintro e v ⟨rfl, ra, rb, bl, hzv⟩
 rw [hz6] at ra rb hzv
 have HA : Hid (Row v (w.heap.size) [.string s] ∧ Row v (w.heap.size + 1) zeroPk.cells ∧ Row v (w.heap.size + 1 + 1) (Ip.cells Ip.zeroHd) ∧ Row v (w.heap.size + 1 + 1 + 1) [.string ⟨#[]⟩] ∧ Row v (w.heap.size + 1 + 1 + 1 + 1) zeroPk.cells ∧ Row v (w.heap.size + 1 + 1 + 1 + 1 + 1) [.int .i64 8] ∧ Row v (w.heap.size + 1 + 1 + 1 + 1 + 1 + 1) [.func (.func 40) #[] #[.pointer (some ⟨w.heap.size + 1 + 1, 0, none⟩)]] ∧ Below w.heap.size w v ∧ w.heap.size + 1 + 1 + 1 + 1 + 1 + 1 < v.heap.size) :=
  ⟨(allocs_row _ w 0 _ _ rfl).on' bl, (allocs_row _ w 1 _ _ rfl).on' bl, (allocs_row _ w 2 _ _ rfl).on' bl, (allocs_row _ w 3 _ _ rfl).on' bl, (allocs_row _ w 4 _ _ rfl).on' bl, ra, rb, Below.then (allocs_below _ w) bl, by omega⟩
 simp only [hz6]
 clear ra rb bl hzv hz6
 go_wp2_with fail
 obtain ⟨a0, a1, a2, a3, a4, a5, a6, ab, az⟩ := unhide HA
 have nv := alloc_on v (.cells #[.func (.func 37) #[] #[.pointer (some ⟨w.heap.size, 0, none⟩), .pointer (some ⟨w.heap.size + 1 + 1, 0, none⟩), .pointer (some ⟨w.heap.size + 1 + 1 + 1, 0, none⟩)], .func (.func 70) #[] #[.pointer (some ⟨w.heap.size + 1 + 1 + 1 + 1 + 1 + 1, 0, none⟩), .pointer (some ⟨w.heap.size + 1 + 1 + 1 + 1 + 1, 0, none⟩)], .func (.func 41) #[] #[.pointer (some ⟨w.heap.size + 1 + 1, 0, none⟩), .pointer (some ⟨w.heap.size, 0, none⟩), .pointer (some ⟨w.heap.size + 1 + 1 + 1, 0, none⟩), .pointer (some ⟨w.heap.size + 1 + 1 + 1 + 1, 0, none⟩)]] 82)
 refine (first_any v.heap.size 3 _ _ _ _ (cls_doubts w v.heap.size s az hs (unhide HG)) (by decide) (v.alloc (.cells #[.func (.func 37) #[] #[.pointer (some ⟨w.heap.size, 0, none⟩), .pointer (some ⟨w.heap.size + 1 + 1, 0, none⟩), .pointer (some ⟨w.heap.size + 1 + 1 + 1, 0, none⟩)], .func (.func 70) #[] #[.pointer (some ⟨w.heap.size + 1 + 1 + 1 + 1 + 1 + 1, 0, none⟩), .pointer (some ⟨w.heap.size + 1 + 1 + 1 + 1 + 1, 0, none⟩)], .func (.func 41) #[] #[.pointer (some ⟨w.heap.size + 1 + 1, 0, none⟩), .pointer (some ⟨w.heap.size, 0, none⟩), .pointer (some ⟨w.heap.size + 1 + 1 + 1, 0, none⟩), .pointer (some ⟨w.heap.size + 1 + 1 + 1 + 1, 0, none⟩)]] 82)) ⟨Below.then ab nv, row_new v _ _, a0.on' nv, a1.on' nv, fun _ => ⟨a2.on' nv, a3.on' nv⟩, fun h => absurd h (by decide), fun _ => a4.on' nv, a5.on' nv, a6.on' nv, fun h => absurd h (by decide), fun h => absurd h (by decide)⟩).mono ?_
 rintro e W1 ⟨x, rfl, hR⟩
 clear a0 a1 a2 a3 a4 a5 a6 ab az nv HA
 obtain ⟨rfl, hbel, r0, p0⟩ := hR
 obtain ⟨x, hx⟩ : ∃ x, clsE s = x := ⟨_, rfl⟩
 obtain ⟨q, hq⟩ : ∃ q, clsP s = q := ⟨_, rfl⟩
 rw [hx]
 rw [hq] at p0
 have HX := hide (And.intro hq hx)
 clear hx hq
 have pp0 := p0.cell 0 _ rfl
 have pp1 := p0.cell 1 _ rfl
 have pp2 := p0.cell 2 _ rfl
 have pp3 := p0.cell 3 _ rfl
 have pp4 := p0.cell 4 _ rfl
 have pp5 := p0.cell 5 _ rfl
 have pp6 := p0.cell 6 _ rfl
 have pp7 := p0.cell 7 _ rfl
 have pp8 := p0.cell 8 _ rfl
 have pp9 := p0.cell 9 _ rfl
 have pp10 := p0.cell 10 _ rfl
 have pp11 := p0.cell 11 _ rfl
 have pp12 := p0.cell 12 _ rfl
 have pp13 := p0.cell 13 _ rfl
 have c0 := r0.cell 0 _ rfl
 have c1 := r0.cell 1 _ rfl
 have c2 := r0.cell 2 _ rfl
 have c3 := r0.cell 3 _ rfl
 have c4 := r0.cell 4 _ rfl
 have c5 := r0.cell 5 _ rfl
 have c6 := r0.cell 6 _ rfl
 have c7 := r0.cell 7 _ rfl
 have c8 := r0.cell 8 _ rfl
 have c9 := r0.cell 9 _ rfl
 have c10 := r0.cell 10 _ rfl
 have c11 := r0.cell 11 _ rfl
 have c12 := r0.cell 12 _ rfl
 have c13 := r0.cell 13 _ rfl
 have fr := r0.free
 have R := row_all q.cells r0 rfl
 have B := hbel.trans ((setRow_below (w.heap.size + 1) q.cells 0 W1).mono (by omega))
 simp only [setRow, Nat.zero_add, Nat.reduceAdd] at R B
 have HR := hide (And.intro R B)
 clear R B r0 p0 hbel
 go_wp2_with fail
 obtain ⟨R, B⟩ := unhide HR
 have z0 := R.cell 0 _ rfl
 have z1 := R.cell 1 _ rfl
 have z2 := R.cell 2 _ rfl
 have z3 := R.cell 3 _ rfl
 have z4 := R.cell 4 _ rfl
 have z5 := R.cell 5 _ rfl
 have z6 := R.cell 6 _ rfl
 have z7 := R.cell 7 _ rfl
 have z8 := R.cell 8 _ rfl
 have z9 := R.cell 9 _ rfl
 have z10 := R.cell 10 _ rfl
 have z11 := R.cell 11 _ rfl
 have z12 := R.cell 12 _ rfl
 have z13 := R.cell 13 _ rfl
 refine bodyPost_ret (v := .tuple #[q.val, .int .i64 x]) (by simp [results, Tryz.results18, go_sem, z0, z1, z2, z3, z4, z5, z6, z7, z8, z9, z10, z11, z12, z13]) rfl ⟨ret_pe (unhide HX).1.symm (unhide HX).2.symm, B⟩
end Go.Proofs.YtpjaajeojiaeiaaGreatDoor
