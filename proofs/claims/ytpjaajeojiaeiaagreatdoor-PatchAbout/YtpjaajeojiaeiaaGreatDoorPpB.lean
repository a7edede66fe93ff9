/- What allowed of package patch answers. -/
import Derived.Test.YtpjaajeojiaeiaaGreatDoorPpA
import Derived.Test.YtpjaajeojiaeiaaGreatDoorPkCls
import Derived.Test.YtpjaajeojiaeiaaGreatDoorPkTell
namespace Go.Proofs.YtpjaajeojiaeiaaGreatDoor
open Go.ChangeShapes Go.WideShapes Go.ChangeAt Go.RowKit

/-- May the packet be turned? The first error. -/
def alwE (s : ByteArray) (kind : Int) (t : En) : Int :=
 if clsE s ≠ 0 then clsE s else if (clsP s).kind ≠ kind then 1 else if prtB t.sport = false then 1 else if prtB t.dport = false then 1 else if (clsP s).ttl < 2 then 11 else 0
def alwP (s : ByteArray) (kind : Int) (t : En) : Pk := if alwE s kind t = 0 then clsP s else zeroPk
theorem alwP_no {s : ByteArray} {kind : Int} {t : En} (h : alwE s kind t ≠ 0) : alwP s kind t = zeroPk := if_neg h
theorem alwP_yes {s : ByteArray} {kind : Int} {t : En} (h : alwE s kind t = 0) : alwP s kind t = clsP s := if_pos h
theorem alw_err {s : ByteArray} {kind : Int} {t : En} (h : clsE s ≠ 0) : alwE s kind t = clsE s := if_pos h
theorem alw_kind {s : ByteArray} {kind : Int} {t : En} (h : clsE s = 0) (h1 : (clsP s).kind ≠ kind) : alwE s kind t = 1 := by unfold alwE; rw [if_neg (by simpa using h), if_pos h1]
theorem alw_sp {s : ByteArray} {kind : Int} {t : En} (h : clsE s = 0) (h1 : (clsP s).kind = kind) (h2 : prtB t.sport = false) : alwE s kind t = 1 := by unfold alwE; rw [if_neg (by simpa using h), if_neg (by simpa using h1), if_pos h2]
theorem alw_dp {s : ByteArray} {kind : Int} {t : En} (h : clsE s = 0) (h1 : (clsP s).kind = kind) (h2 : prtB t.sport = true) (h3 : prtB t.dport = false) : alwE s kind t = 1 := by unfold alwE; rw [if_neg (by simpa using h), if_neg (by simpa using h1), if_neg (by rw [h2]; decide), if_pos h3]
theorem alw_ttl {s : ByteArray} {kind : Int} {t : En} (h : clsE s = 0) (h1 : (clsP s).kind = kind) (h2 : prtB t.sport = true) (h3 : prtB t.dport = true) (h4 : (clsP s).ttl < 2) : alwE s kind t = 11 := by unfold alwE; rw [if_neg (by simpa using h), if_neg (by simpa using h1), if_neg (by rw [h2]; decide), if_neg (by rw [h3]; decide), if_pos h4]
theorem alw_ok {s : ByteArray} {kind : Int} {t : En} (h : clsE s = 0) (h1 : (clsP s).kind = kind) (h2 : prtB t.sport = true) (h3 : prtB t.dport = true) (h4 : ¬ (clsP s).ttl < 2) : alwE s kind t = 0 := by unfold alwE; rw [if_neg (by simpa using h), if_neg (by simpa using h1), if_neg (by rw [h2]; decide), if_neg (by rw [h3]; decide), if_neg h4]
theorem ret_pi {a b : Pk} {x y : Int} (h1 : a = b) (h2 : x = y) : Ending.returned (.tuple #[a.val, .int .i64 x]) = .returned (.tuple #[b.val, .int .i64 y]) := by rw [h1, h2]

set_option maxRecDepth 100000 in
set_option maxHeartbeats 8000000 in
theorem allowed_any (s : ByteArray) (kind : Int) (t : En) (w : World) (hs : s.size ≤ 140737488360000) (hE : Ic.Env w) :
  Calls Tryz.prog 22 #[.string s, .int .i64 kind, t.val] w fun e w' => e = .returned (.tuple #[(alwP s kind t).val, .int .i64 (alwE s kind t)]) ∧ Below w.heap.size w w' := by
 have HC := hide (fun u h => classify_any s u hs h)
 have HI := hide (fun n u => isPort_any n u)
 have A0 := @alw_err s kind t
 have A1 := @alw_kind s kind t
 have A2 := @alw_sp s kind t
 have A3 := @alw_dp s kind t
 have A4 := @alw_ttl s kind t
 have A5 := @alw_ok s kind t
 have P0 := @alwP_no s kind t
 have P1 := @alwP_yes s kind t
 generalize alwP s kind t = AP at *
 generalize alwE s kind t = AE at *
 obtain ⟨p, hp⟩ : ∃ p, clsP s = p := ⟨_, rfl⟩
 obtain ⟨x, hx⟩ : ∃ x, clsE s = x := ⟨_, rfl⟩
 rw [hp, hx] at HC
 rw [hx] at A0 A1 A2 A3 A4 A5
 rw [hp] at A1 A2 A3 A4 A5 P1
 clear hp hx hs
 have HE := hide hE
 clear hE
 have re := (row_new w t.cells 27).on' (alloc_on' _ (.cells zeroPk.cells.toArray 45))
 have r6 := row_new (w.alloc (.cells t.cells.toArray 27)) zeroPk.cells 45
 have bel := Below.then (alloc_on' w (.cells t.cells.toArray 27)) (alloc_on' _ (.cells zeroPk.cells.toArray 45))
 rw [show (w.alloc (.cells t.cells.toArray 27)).heap.size = w.heap.size + 1 by simp] at r6
 have HR := hide (And.intro re (And.intro r6 bel))
 clear re r6 bel
 by_cases hx : x = 0
 case neg =>
  have hA : AE = x := A0 hx
  have hP : AP = zeroPk := P0 (by rw [hA]; assumption)
  have HA := hide hA
  have HP := hide hP
  clear hA A0 A1 A2 A3 A4 A5 hP P0 P1
  have t0 : (x != 0) = true := by simpa using hx
  go_enter Tryz.func22, Tryz.ntmps22
  go_wp2_with fail
  refine (unhide HC _ ((unhide HE).on (unhide HR).2.2)).mono ?_
  rintro e w1 ⟨rfl, hb⟩
  obtain ⟨re, r6, bel⟩ := unhide HR
  have n1 := alloc_on' w1 (.cells p.cells.toArray 45)
  have r8 := row_new w1 p.cells 45
  replace re := (re.on' hb).on' n1
  replace r6 := (r6.on' hb).on' n1
  replace bel := Below.then bel hb
  have hgw : w.heap.size ≤ w1.heap.size := bel.size
  have hne : w.heap.size + 1 ≠ w1.heap.size := by have := (unhide HR).2.1.lt; have := hb.size; omega
  replace bel := Below.then bel n1
  obtain ⟨W1, e1⟩ : ∃ V, w1.alloc (.cells p.cells.toArray 45) = V := ⟨_, rfl⟩
  rw [e1] at n1 r8 re r6 bel
  obtain ⟨g, hg⟩ : ∃ g, w1.heap.size = g := ⟨_, rfl⟩
  rw [hg] at r8 hgw hne
  clear HR n1 hb
  clear hx
  have c0 := r6.cell 0 _ rfl
  have c1 := r6.cell 1 _ rfl
  have c2 := r6.cell 2 _ rfl
  have c3 := r6.cell 3 _ rfl
  have c4 := r6.cell 4 _ rfl
  have c5 := r6.cell 5 _ rfl
  have c6 := r6.cell 6 _ rfl
  have c7 := r6.cell 7 _ rfl
  have c8 := r6.cell 8 _ rfl
  have c9 := r6.cell 9 _ rfl
  have c10 := r6.cell 10 _ rfl
  have c11 := r6.cell 11 _ rfl
  have c12 := r6.cell 12 _ rfl
  have c13 := r6.cell 13 _ rfl
  have fr := r6.free
  have RR := row_all [.int .i64 0, .int .i64 0, .int .i64 0, .int .i64 0, .int .u32 0, .int .u32 0, .int .i64 0, .int .i64 0, .int .i64 0, .int .i64 0, .int .u32 0, .int .u32 0, .int .i64 0, .int .i64 0] r6 rfl
  have BB := bel.trans ((setRow_below (w.heap.size + 1) [.int .i64 0, .int .i64 0, .int .i64 0, .int .i64 0, .int .u32 0, .int .u32 0, .int .i64 0, .int .i64 0, .int .i64 0, .int .i64 0, .int .u32 0, .int .u32 0, .int .i64 0, .int .i64 0] 0 W1).mono (by omega))
  simp only [setRow, Nat.zero_add, Nat.reduceAdd] at RR BB
  have HF := hide (And.intro RR BB)
  clear RR BB r6 r8 re bel
  go_wp2_with fail
  obtain ⟨RR, BB⟩ := unhide HF
  have z0 := RR.cell 0 _ rfl
  have z1 := RR.cell 1 _ rfl
  have z2 := RR.cell 2 _ rfl
  have z3 := RR.cell 3 _ rfl
  have z4 := RR.cell 4 _ rfl
  have z5 := RR.cell 5 _ rfl
  have z6 := RR.cell 6 _ rfl
  have z7 := RR.cell 7 _ rfl
  have z8 := RR.cell 8 _ rfl
  have z9 := RR.cell 9 _ rfl
  have z10 := RR.cell 10 _ rfl
  have z11 := RR.cell 11 _ rfl
  have z12 := RR.cell 12 _ rfl
  have z13 := RR.cell 13 _ rfl
  refine bodyPost_ret (v := .tuple #[.agg #[.int .i64 0, .int .i64 0, .int .i64 0, .int .i64 0, .int .u32 0, .int .u32 0, .int .i64 0, .int .i64 0, .int .i64 0, .int .i64 0, .int .u32 0, .int .u32 0, .int .i64 0, .int .i64 0], .int .i64 x]) (by simp [results, Tryz.results22, go_sem, z0, z1, z2, z3, z4, z5, z6, z7, z8, z9, z10, z11, z12, z13]) rfl ⟨ret_pi (unhide HP).symm (unhide HA).symm, BB⟩
 subst hx
 replace A1 := A1 rfl
 replace A2 := A2 rfl
 replace A3 := A3 rfl
 replace A4 := A4 rfl
 replace A5 := A5 rfl
 by_cases hk : p.kind = kind
 case neg =>
  have hA : AE = 1 := A1 hk
  have hP : AP = zeroPk := P0 (by rw [hA]; decide)
  have HA := hide hA
  have HP := hide hP
  clear hA A0 A1 A2 A3 A4 A5 hP P0 P1
  have t1 : (p.kind != kind) = true := by simpa using hk
  go_enter Tryz.func22, Tryz.ntmps22
  go_wp2_with fail
  refine (unhide HC _ ((unhide HE).on (unhide HR).2.2)).mono ?_
  rintro e w1 ⟨rfl, hb⟩
  obtain ⟨re, r6, bel⟩ := unhide HR
  have n1 := alloc_on' w1 (.cells p.cells.toArray 45)
  have r8 := row_new w1 p.cells 45
  replace re := (re.on' hb).on' n1
  replace r6 := (r6.on' hb).on' n1
  replace bel := Below.then bel hb
  have hgw : w.heap.size ≤ w1.heap.size := bel.size
  have hne : w.heap.size + 1 ≠ w1.heap.size := by have := (unhide HR).2.1.lt; have := hb.size; omega
  replace bel := Below.then bel n1
  obtain ⟨W1, e1⟩ : ∃ V, w1.alloc (.cells p.cells.toArray 45) = V := ⟨_, rfl⟩
  rw [e1] at n1 r8 re r6 bel
  obtain ⟨g, hg⟩ : ∃ g, w1.heap.size = g := ⟨_, rfl⟩
  rw [hg] at r8 hgw hne
  clear HR n1 hb
  have k0 := r8.cell 0 _ rfl
  clear hk
  have c0 := r6.cell 0 _ rfl
  have c1 := r6.cell 1 _ rfl
  have c2 := r6.cell 2 _ rfl
  have c3 := r6.cell 3 _ rfl
  have c4 := r6.cell 4 _ rfl
  have c5 := r6.cell 5 _ rfl
  have c6 := r6.cell 6 _ rfl
  have c7 := r6.cell 7 _ rfl
  have c8 := r6.cell 8 _ rfl
  have c9 := r6.cell 9 _ rfl
  have c10 := r6.cell 10 _ rfl
  have c11 := r6.cell 11 _ rfl
  have c12 := r6.cell 12 _ rfl
  have c13 := r6.cell 13 _ rfl
  have fr := r6.free
  have RR := row_all [.int .i64 0, .int .i64 0, .int .i64 0, .int .i64 0, .int .u32 0, .int .u32 0, .int .i64 0, .int .i64 0, .int .i64 0, .int .i64 0, .int .u32 0, .int .u32 0, .int .i64 0, .int .i64 0] r6 rfl
  have BB := bel.trans ((setRow_below (w.heap.size + 1) [.int .i64 0, .int .i64 0, .int .i64 0, .int .i64 0, .int .u32 0, .int .u32 0, .int .i64 0, .int .i64 0, .int .i64 0, .int .i64 0, .int .u32 0, .int .u32 0, .int .i64 0, .int .i64 0] 0 W1).mono (by omega))
  simp only [setRow, Nat.zero_add, Nat.reduceAdd] at RR BB
  have HF := hide (And.intro RR BB)
  clear RR BB r6 r8 re bel
  go_wp2_with fail
  obtain ⟨RR, BB⟩ := unhide HF
  have z0 := RR.cell 0 _ rfl
  have z1 := RR.cell 1 _ rfl
  have z2 := RR.cell 2 _ rfl
  have z3 := RR.cell 3 _ rfl
  have z4 := RR.cell 4 _ rfl
  have z5 := RR.cell 5 _ rfl
  have z6 := RR.cell 6 _ rfl
  have z7 := RR.cell 7 _ rfl
  have z8 := RR.cell 8 _ rfl
  have z9 := RR.cell 9 _ rfl
  have z10 := RR.cell 10 _ rfl
  have z11 := RR.cell 11 _ rfl
  have z12 := RR.cell 12 _ rfl
  have z13 := RR.cell 13 _ rfl
  refine bodyPost_ret (v := .tuple #[.agg #[.int .i64 0, .int .i64 0, .int .i64 0, .int .i64 0, .int .u32 0, .int .u32 0, .int .i64 0, .int .i64 0, .int .i64 0, .int .i64 0, .int .u32 0, .int .u32 0, .int .i64 0, .int .i64 0], .int .i64 1]) (by simp [results, Tryz.results22, go_sem, z0, z1, z2, z3, z4, z5, z6, z7, z8, z9, z10, z11, z12, z13]) rfl ⟨ret_pi (unhide HP).symm (unhide HA).symm, BB⟩
 replace A2 := A2 hk
 replace A3 := A3 hk
 replace A4 := A4 hk
 replace A5 := A5 hk
 have t1 : (p.kind != kind) = false := by simpa using hk
 have HK := hide hk
 clear hk
 cases hsp : prtB t.sport with
 | false =>
  have hA : AE = 1 := A2 hsp
  have hP : AP = zeroPk := P0 (by rw [hA]; decide)
  have HA := hide hA
  have HP := hide hP
  clear hA A0 A1 A2 A3 A4 A5 hP P0 P1
  go_enter Tryz.func22, Tryz.ntmps22
  go_wp2_with fail
  refine (unhide HC _ ((unhide HE).on (unhide HR).2.2)).mono ?_
  rintro e w1 ⟨rfl, hb⟩
  obtain ⟨re, r6, bel⟩ := unhide HR
  have n1 := alloc_on' w1 (.cells p.cells.toArray 45)
  have r8 := row_new w1 p.cells 45
  replace re := (re.on' hb).on' n1
  replace r6 := (r6.on' hb).on' n1
  replace bel := Below.then bel hb
  have hgw : w.heap.size ≤ w1.heap.size := bel.size
  have hne : w.heap.size + 1 ≠ w1.heap.size := by have := (unhide HR).2.1.lt; have := hb.size; omega
  replace bel := Below.then bel n1
  obtain ⟨W1, e1⟩ : ∃ V, w1.alloc (.cells p.cells.toArray 45) = V := ⟨_, rfl⟩
  rw [e1] at n1 r8 re r6 bel
  obtain ⟨g, hg⟩ : ∃ g, w1.heap.size = g := ⟨_, rfl⟩
  rw [hg] at r8 hgw hne
  clear HR n1 hb
  have k0 := r8.cell 0 _ rfl
  have v2 := re.cell 2 _ rfl
  have v3 := re.cell 3 _ rfl
  go_wp2_with fail
  refine (unhide HI _ _).mono ?_
  rintro e w2 ⟨rfl, hb⟩
  replace re := re.on' hb
  replace r6 := r6.on' hb
  replace r8 := r8.on' hb
  replace bel := Below.then bel hb
  clear hb
  rw [hsp]
  clear hsp k0 v2 v3
  have c0 := r6.cell 0 _ rfl
  have c1 := r6.cell 1 _ rfl
  have c2 := r6.cell 2 _ rfl
  have c3 := r6.cell 3 _ rfl
  have c4 := r6.cell 4 _ rfl
  have c5 := r6.cell 5 _ rfl
  have c6 := r6.cell 6 _ rfl
  have c7 := r6.cell 7 _ rfl
  have c8 := r6.cell 8 _ rfl
  have c9 := r6.cell 9 _ rfl
  have c10 := r6.cell 10 _ rfl
  have c11 := r6.cell 11 _ rfl
  have c12 := r6.cell 12 _ rfl
  have c13 := r6.cell 13 _ rfl
  have fr := r6.free
  have RR := row_all [.int .i64 0, .int .i64 0, .int .i64 0, .int .i64 0, .int .u32 0, .int .u32 0, .int .i64 0, .int .i64 0, .int .i64 0, .int .i64 0, .int .u32 0, .int .u32 0, .int .i64 0, .int .i64 0] r6 rfl
  have BB := bel.trans ((setRow_below (w.heap.size + 1) [.int .i64 0, .int .i64 0, .int .i64 0, .int .i64 0, .int .u32 0, .int .u32 0, .int .i64 0, .int .i64 0, .int .i64 0, .int .i64 0, .int .u32 0, .int .u32 0, .int .i64 0, .int .i64 0] 0 w2).mono (by omega))
  simp only [setRow, Nat.zero_add, Nat.reduceAdd] at RR BB
  have HF := hide (And.intro RR BB)
  clear RR BB r6 r8 re bel
  go_wp2_with fail
  obtain ⟨RR, BB⟩ := unhide HF
  have z0 := RR.cell 0 _ rfl
  have z1 := RR.cell 1 _ rfl
  have z2 := RR.cell 2 _ rfl
  have z3 := RR.cell 3 _ rfl
  have z4 := RR.cell 4 _ rfl
  have z5 := RR.cell 5 _ rfl
  have z6 := RR.cell 6 _ rfl
  have z7 := RR.cell 7 _ rfl
  have z8 := RR.cell 8 _ rfl
  have z9 := RR.cell 9 _ rfl
  have z10 := RR.cell 10 _ rfl
  have z11 := RR.cell 11 _ rfl
  have z12 := RR.cell 12 _ rfl
  have z13 := RR.cell 13 _ rfl
  refine bodyPost_ret (v := .tuple #[.agg #[.int .i64 0, .int .i64 0, .int .i64 0, .int .i64 0, .int .u32 0, .int .u32 0, .int .i64 0, .int .i64 0, .int .i64 0, .int .i64 0, .int .u32 0, .int .u32 0, .int .i64 0, .int .i64 0], .int .i64 1]) (by simp [results, Tryz.results22, go_sem, z0, z1, z2, z3, z4, z5, z6, z7, z8, z9, z10, z11, z12, z13]) rfl ⟨ret_pi (unhide HP).symm (unhide HA).symm, BB⟩
 | true =>
  replace A3 := A3 hsp
  replace A4 := A4 hsp
  replace A5 := A5 hsp
  cases hdp : prtB t.dport with
  | false =>
   have hA : AE = 1 := A3 hdp
   have hP : AP = zeroPk := P0 (by rw [hA]; decide)
   have HA := hide hA
   have HP := hide hP
   clear hA A0 A1 A2 A3 A4 A5 hP P0 P1
   go_enter Tryz.func22, Tryz.ntmps22
   go_wp2_with fail
   refine (unhide HC _ ((unhide HE).on (unhide HR).2.2)).mono ?_
   rintro e w1 ⟨rfl, hb⟩
   obtain ⟨re, r6, bel⟩ := unhide HR
   have n1 := alloc_on' w1 (.cells p.cells.toArray 45)
   have r8 := row_new w1 p.cells 45
   replace re := (re.on' hb).on' n1
   replace r6 := (r6.on' hb).on' n1
   replace bel := Below.then bel hb
   have hgw : w.heap.size ≤ w1.heap.size := bel.size
   have hne : w.heap.size + 1 ≠ w1.heap.size := by have := (unhide HR).2.1.lt; have := hb.size; omega
   replace bel := Below.then bel n1
   obtain ⟨W1, e1⟩ : ∃ V, w1.alloc (.cells p.cells.toArray 45) = V := ⟨_, rfl⟩
   rw [e1] at n1 r8 re r6 bel
   obtain ⟨g, hg⟩ : ∃ g, w1.heap.size = g := ⟨_, rfl⟩
   rw [hg] at r8 hgw hne
   clear HR n1 hb
   have k0 := r8.cell 0 _ rfl
   have v2 := re.cell 2 _ rfl
   have v3 := re.cell 3 _ rfl
   go_wp2_with fail
   refine (unhide HI _ _).mono ?_
   rintro e w2 ⟨rfl, hb⟩
   replace re := re.on' hb
   replace r6 := r6.on' hb
   replace r8 := r8.on' hb
   replace bel := Below.then bel hb
   clear hb
   rw [hsp]
   clear k0 v2 v3
   have v3 := re.cell 3 _ rfl
   go_wp2_with fail
   refine (unhide HI _ _).mono ?_
   rintro e w3 ⟨rfl, hb⟩
   replace re := re.on' hb
   replace r6 := r6.on' hb
   replace r8 := r8.on' hb
   replace bel := Below.then bel hb
   clear hb
   rw [hdp]
   clear hsp hdp v3
   have c0 := r6.cell 0 _ rfl
   have c1 := r6.cell 1 _ rfl
   have c2 := r6.cell 2 _ rfl
   have c3 := r6.cell 3 _ rfl
   have c4 := r6.cell 4 _ rfl
   have c5 := r6.cell 5 _ rfl
   have c6 := r6.cell 6 _ rfl
   have c7 := r6.cell 7 _ rfl
   have c8 := r6.cell 8 _ rfl
   have c9 := r6.cell 9 _ rfl
   have c10 := r6.cell 10 _ rfl
   have c11 := r6.cell 11 _ rfl
   have c12 := r6.cell 12 _ rfl
   have c13 := r6.cell 13 _ rfl
   have fr := r6.free
   have RR := row_all [.int .i64 0, .int .i64 0, .int .i64 0, .int .i64 0, .int .u32 0, .int .u32 0, .int .i64 0, .int .i64 0, .int .i64 0, .int .i64 0, .int .u32 0, .int .u32 0, .int .i64 0, .int .i64 0] r6 rfl
   have BB := bel.trans ((setRow_below (w.heap.size + 1) [.int .i64 0, .int .i64 0, .int .i64 0, .int .i64 0, .int .u32 0, .int .u32 0, .int .i64 0, .int .i64 0, .int .i64 0, .int .i64 0, .int .u32 0, .int .u32 0, .int .i64 0, .int .i64 0] 0 w3).mono (by omega))
   simp only [setRow, Nat.zero_add, Nat.reduceAdd] at RR BB
   have HF := hide (And.intro RR BB)
   clear RR BB r6 r8 re bel
   go_wp2_with fail
   obtain ⟨RR, BB⟩ := unhide HF
   have z0 := RR.cell 0 _ rfl
   have z1 := RR.cell 1 _ rfl
   have z2 := RR.cell 2 _ rfl
   have z3 := RR.cell 3 _ rfl
   have z4 := RR.cell 4 _ rfl
   have z5 := RR.cell 5 _ rfl
   have z6 := RR.cell 6 _ rfl
   have z7 := RR.cell 7 _ rfl
   have z8 := RR.cell 8 _ rfl
   have z9 := RR.cell 9 _ rfl
   have z10 := RR.cell 10 _ rfl
   have z11 := RR.cell 11 _ rfl
   have z12 := RR.cell 12 _ rfl
   have z13 := RR.cell 13 _ rfl
   refine bodyPost_ret (v := .tuple #[.agg #[.int .i64 0, .int .i64 0, .int .i64 0, .int .i64 0, .int .u32 0, .int .u32 0, .int .i64 0, .int .i64 0, .int .i64 0, .int .i64 0, .int .u32 0, .int .u32 0, .int .i64 0, .int .i64 0], .int .i64 1]) (by simp [results, Tryz.results22, go_sem, z0, z1, z2, z3, z4, z5, z6, z7, z8, z9, z10, z11, z12, z13]) rfl ⟨ret_pi (unhide HP).symm (unhide HA).symm, BB⟩
  | true =>
   replace A4 := A4 hdp
   replace A5 := A5 hdp
   by_cases ht : p.ttl < 2
   case pos =>
    have hA : AE = 11 := A4 ht
    have hP : AP = zeroPk := P0 (by rw [hA]; decide)
    have HA := hide hA
    have HP := hide hP
    clear hA A0 A1 A2 A3 A4 A5 hP P0 P1
    go_enter Tryz.func22, Tryz.ntmps22
    go_wp2_with fail
    refine (unhide HC _ ((unhide HE).on (unhide HR).2.2)).mono ?_
    rintro e w1 ⟨rfl, hb⟩
    obtain ⟨re, r6, bel⟩ := unhide HR
    have n1 := alloc_on' w1 (.cells p.cells.toArray 45)
    have r8 := row_new w1 p.cells 45
    replace re := (re.on' hb).on' n1
    replace r6 := (r6.on' hb).on' n1
    replace bel := Below.then bel hb
    have hgw : w.heap.size ≤ w1.heap.size := bel.size
    have hne : w.heap.size + 1 ≠ w1.heap.size := by have := (unhide HR).2.1.lt; have := hb.size; omega
    replace bel := Below.then bel n1
    obtain ⟨W1, e1⟩ : ∃ V, w1.alloc (.cells p.cells.toArray 45) = V := ⟨_, rfl⟩
    rw [e1] at n1 r8 re r6 bel
    obtain ⟨g, hg⟩ : ∃ g, w1.heap.size = g := ⟨_, rfl⟩
    rw [hg] at r8 hgw hne
    clear HR n1 hb
    have k0 := r8.cell 0 _ rfl
    have v2 := re.cell 2 _ rfl
    have v3 := re.cell 3 _ rfl
    go_wp2_with fail
    refine (unhide HI _ _).mono ?_
    rintro e w2 ⟨rfl, hb⟩
    replace re := re.on' hb
    replace r6 := r6.on' hb
    replace r8 := r8.on' hb
    replace bel := Below.then bel hb
    clear hb
    rw [hsp]
    clear k0 v2 v3
    have v3 := re.cell 3 _ rfl
    go_wp2_with fail
    refine (unhide HI _ _).mono ?_
    rintro e w3 ⟨rfl, hb⟩
    replace re := re.on' hb
    replace r6 := r6.on' hb
    replace r8 := r8.on' hb
    replace bel := Below.then bel hb
    clear hb
    rw [hdp]
    clear hsp hdp v3
    have k9 := r8.cell 9 _ rfl
    have c0 := r6.cell 0 _ rfl
    have c1 := r6.cell 1 _ rfl
    have c2 := r6.cell 2 _ rfl
    have c3 := r6.cell 3 _ rfl
    have c4 := r6.cell 4 _ rfl
    have c5 := r6.cell 5 _ rfl
    have c6 := r6.cell 6 _ rfl
    have c7 := r6.cell 7 _ rfl
    have c8 := r6.cell 8 _ rfl
    have c9 := r6.cell 9 _ rfl
    have c10 := r6.cell 10 _ rfl
    have c11 := r6.cell 11 _ rfl
    have c12 := r6.cell 12 _ rfl
    have c13 := r6.cell 13 _ rfl
    have fr := r6.free
    have RR := row_all [.int .i64 0, .int .i64 0, .int .i64 0, .int .i64 0, .int .u32 0, .int .u32 0, .int .i64 0, .int .i64 0, .int .i64 0, .int .i64 0, .int .u32 0, .int .u32 0, .int .i64 0, .int .i64 0] r6 rfl
    have BB := bel.trans ((setRow_below (w.heap.size + 1) [.int .i64 0, .int .i64 0, .int .i64 0, .int .i64 0, .int .u32 0, .int .u32 0, .int .i64 0, .int .i64 0, .int .i64 0, .int .i64 0, .int .u32 0, .int .u32 0, .int .i64 0, .int .i64 0] 0 w3).mono (by omega))
    simp only [setRow, Nat.zero_add, Nat.reduceAdd] at RR BB
    have HF := hide (And.intro RR BB)
    clear RR BB r6 r8 re bel
    go_wp2_with fail
    obtain ⟨RR, BB⟩ := unhide HF
    have z0 := RR.cell 0 _ rfl
    have z1 := RR.cell 1 _ rfl
    have z2 := RR.cell 2 _ rfl
    have z3 := RR.cell 3 _ rfl
    have z4 := RR.cell 4 _ rfl
    have z5 := RR.cell 5 _ rfl
    have z6 := RR.cell 6 _ rfl
    have z7 := RR.cell 7 _ rfl
    have z8 := RR.cell 8 _ rfl
    have z9 := RR.cell 9 _ rfl
    have z10 := RR.cell 10 _ rfl
    have z11 := RR.cell 11 _ rfl
    have z12 := RR.cell 12 _ rfl
    have z13 := RR.cell 13 _ rfl
    refine bodyPost_ret (v := .tuple #[.agg #[.int .i64 0, .int .i64 0, .int .i64 0, .int .i64 0, .int .u32 0, .int .u32 0, .int .i64 0, .int .i64 0, .int .i64 0, .int .i64 0, .int .u32 0, .int .u32 0, .int .i64 0, .int .i64 0], .int .i64 11]) (by simp [results, Tryz.results22, go_sem, z0, z1, z2, z3, z4, z5, z6, z7, z8, z9, z10, z11, z12, z13]) rfl ⟨ret_pi (unhide HP).symm (unhide HA).symm, BB⟩
   case neg =>
    have hA : AE = 0 := A5 ht
    have hP : AP = p := P1 hA
    have HA := hide hA
    have HP := hide hP
    clear hA A0 A1 A2 A3 A4 A5 hP P0 P1
    go_enter Tryz.func22, Tryz.ntmps22
    go_wp2_with fail
    refine (unhide HC _ ((unhide HE).on (unhide HR).2.2)).mono ?_
    rintro e w1 ⟨rfl, hb⟩
    obtain ⟨re, r6, bel⟩ := unhide HR
    have n1 := alloc_on' w1 (.cells p.cells.toArray 45)
    have r8 := row_new w1 p.cells 45
    replace re := (re.on' hb).on' n1
    replace r6 := (r6.on' hb).on' n1
    replace bel := Below.then bel hb
    have hgw : w.heap.size ≤ w1.heap.size := bel.size
    have hne : w.heap.size + 1 ≠ w1.heap.size := by have := (unhide HR).2.1.lt; have := hb.size; omega
    replace bel := Below.then bel n1
    obtain ⟨W1, e1⟩ : ∃ V, w1.alloc (.cells p.cells.toArray 45) = V := ⟨_, rfl⟩
    rw [e1] at n1 r8 re r6 bel
    obtain ⟨g, hg⟩ : ∃ g, w1.heap.size = g := ⟨_, rfl⟩
    rw [hg] at r8 hgw hne
    clear HR n1 hb
    have k0 := r8.cell 0 _ rfl
    have v2 := re.cell 2 _ rfl
    have v3 := re.cell 3 _ rfl
    go_wp2_with fail
    refine (unhide HI _ _).mono ?_
    rintro e w2 ⟨rfl, hb⟩
    replace re := re.on' hb
    replace r6 := r6.on' hb
    replace r8 := r8.on' hb
    replace bel := Below.then bel hb
    clear hb
    rw [hsp]
    clear k0 v2 v3
    have v3 := re.cell 3 _ rfl
    go_wp2_with fail
    refine (unhide HI _ _).mono ?_
    rintro e w3 ⟨rfl, hb⟩
    replace re := re.on' hb
    replace r6 := r6.on' hb
    replace r8 := r8.on' hb
    replace bel := Below.then bel hb
    clear hb
    rw [hdp]
    clear hsp hdp v3
    have k9 := r8.cell 9 _ rfl
    have b0 := r8.cell 0 _ rfl
    have b1 := r8.cell 1 _ rfl
    have b2 := r8.cell 2 _ rfl
    have b3 := r8.cell 3 _ rfl
    have b4 := r8.cell 4 _ rfl
    have b5 := r8.cell 5 _ rfl
    have b6 := r8.cell 6 _ rfl
    have b7 := r8.cell 7 _ rfl
    have b8 := r8.cell 8 _ rfl
    have b9 := r8.cell 9 _ rfl
    have b10 := r8.cell 10 _ rfl
    have b11 := r8.cell 11 _ rfl
    have b12 := r8.cell 12 _ rfl
    have b13 := r8.cell 13 _ rfl
    have c0 := r6.cell 0 _ rfl
    have c1 := r6.cell 1 _ rfl
    have c2 := r6.cell 2 _ rfl
    have c3 := r6.cell 3 _ rfl
    have c4 := r6.cell 4 _ rfl
    have c5 := r6.cell 5 _ rfl
    have c6 := r6.cell 6 _ rfl
    have c7 := r6.cell 7 _ rfl
    have c8 := r6.cell 8 _ rfl
    have c9 := r6.cell 9 _ rfl
    have c10 := r6.cell 10 _ rfl
    have c11 := r6.cell 11 _ rfl
    have c12 := r6.cell 12 _ rfl
    have c13 := r6.cell 13 _ rfl
    have fr := r6.free
    have RR := row_all p.cells r6 rfl
    have BB := bel.trans ((setRow_below (w.heap.size + 1) p.cells 0 w3).mono (by omega))
    simp only [setRow, Nat.zero_add, Nat.reduceAdd] at RR BB
    have HF := hide (And.intro RR BB)
    clear RR BB r6 r8 re bel
    go_wp2_with fail
    obtain ⟨RR, BB⟩ := unhide HF
    have z0 := RR.cell 0 _ rfl
    have z1 := RR.cell 1 _ rfl
    have z2 := RR.cell 2 _ rfl
    have z3 := RR.cell 3 _ rfl
    have z4 := RR.cell 4 _ rfl
    have z5 := RR.cell 5 _ rfl
    have z6 := RR.cell 6 _ rfl
    have z7 := RR.cell 7 _ rfl
    have z8 := RR.cell 8 _ rfl
    have z9 := RR.cell 9 _ rfl
    have z10 := RR.cell 10 _ rfl
    have z11 := RR.cell 11 _ rfl
    have z12 := RR.cell 12 _ rfl
    have z13 := RR.cell 13 _ rfl
    refine bodyPost_ret (v := .tuple #[p.val, .int .i64 0]) (by simp [results, Tryz.results22, go_sem, z0, z1, z2, z3, z4, z5, z6, z7, z8, z9, z10, z11, z12, z13]) rfl ⟨ret_pi (unhide HP).symm (unhide HA).symm, BB⟩
end Go.Proofs.YtpjaajeojiaeiaaGreatDoor

/- What is known of a packet that Classify has told (mathematics; nothing of the program). -/
namespace Go.Proofs.YtpjaajeojiaeiaaGreatDoor
open Go.RowKit

theorem firstL_zero : ∀ {l : List Int}, firstL l = 0 → ∀ x ∈ l, x = 0
 | [], _, x, hx => absurd hx (by simp)
 | e :: r, h, x, hx => by
  unfold firstL at h
  by_cases he : e = 0
  ·rw [if_pos he] at h
   rcases List.mem_cons.1 hx with rfl | hx
   ·exact he
   ·exact firstL_zero h x hx
  ·rw [if_neg he] at h
   exact absurd h he
/-- Of a packet whose first error is none. -/
structure Told (s : ByteArray) : Prop where
 m : Ip.Meas s
 pos : (clsP s).pos = Ip.fget s 1 * 4
 total : (clsP s).total = Ip.fget s 3
 ttl : (clsP s).ttl = got s 8 1
 body : Ip.parseS s = s.extract (Ip.fget s 1 * 4).toNat (Ip.fget s 3).toNat
 kinds : ((clsP s).kind = 1 ∧ (clsP s).tup.proto = 6 ∧ Tc.parseE (Ip.parseS s) = 0) ∨ ((clsP s).kind = 1 ∧ (clsP s).tup.proto = 17 ∧ Ps.measE (Ip.parseS s) = 0) ∨
  ((clsP s).kind = 2 ∧ Ic.parseE (Ip.parseS s) = 0 ∧ qE (Ic.parseH (Ip.parseS s)).body = 0 ∧ (clsP s).tup = qT (Ic.parseH (Ip.parseS s)).body ∧ (clsP s).quote = (clsP s).pos + 8 ∧ (clsP s).inner = (clsP s).pos + 8 + qN (Ic.parseH (Ip.parseS s)).body)
theorem parseE_meas {s : ByteArray} (h : Ip.parseE s = 0) : Ip.measE s = 0 := by
 unfold Ip.parseE at h
 by_cases hm : Ip.measE s = 0
 ·exact hm
 ·rw [if_neg hm] at h; exact absurd h hm
theorem told {s : ByteArray} (h : clsE s = 0) : Told s := by
 have hz := firstL_zero (l := [Ip.parseE s, frgE s, inE (Ip.parseH s).proto (outP s (Ip.parseH s)) (Ip.parseS s)]) h
 have h1 : Ip.parseE s = 0 := hz _ (by simp)
 have h2 : frgE s = 0 := hz _ (by simp)
 have h3 : inE (Ip.parseH s).proto (outP s (Ip.parseH s)) (Ip.parseS s) = 0 := hz _ (by simp)
 have hm := parseE_meas h1
 have m := Ip.meas_of hm
 have hP : clsP s = inP (Ip.parseH s).proto (outP s (Ip.parseH s)) (Ip.parseS s) := by unfold clsP; rw [if_pos ⟨h1, h2⟩]
 have hS : Ip.parseS s = s.extract (Ip.fget s 1 * 4).toNat (Ip.fget s 3).toNat := by unfold Ip.parseS; rw [if_pos h1]; rfl
 have ht : (outP s (Ip.parseH s)).ttl = got s 8 1 := by
  show (Ip.parseH s).ttl = _
  rw [(Ip.gots s m.n).g8]
  unfold Ip.parseH
  rw [if_pos h1]
  rfl
 have hp : (outP s (Ip.parseH s)).pos = Ip.fget s 1 * 4 := if_pos hm
 have hT : (outP s (Ip.parseH s)).total = Ip.fget s 3 := if_pos hm
 generalize outP s (Ip.parseH s) = o at *
 unfold inE at h3
 unfold inP at hP
 by_cases h6 : (Ip.parseH s).proto = 6
 ·rw [if_pos h6] at h3 hP
  rw [segP_yes h3] at hP
  have hb : Tc.parseE (Ip.parseS s) = 0 := firstL_zero (l := [Tc.parseE (Ip.parseS s), Ps.verE 6 o.src o.dst (Ip.parseS s)]) h3 _ (by simp)
  exact ⟨m, by rw [hP]; exact hp, by rw [hP]; exact hT, by rw [hP]; exact ht, hS, .inl ⟨by rw [hP], by rw [hP], hb⟩⟩
 ·rw [if_neg h6] at h3 hP
  by_cases h17 : (Ip.parseH s).proto = 17
  ·rw [if_pos h17] at h3 hP
   rw [datP_yes h3] at hP
   have hb : Ps.measE (Ip.parseS s) = 0 := firstL_zero (l := [Ps.measE (Ip.parseS s), Ps.verE 17 o.src o.dst (Ip.parseS s)]) h3 _ (by simp)
   exact ⟨m, by rw [hP]; exact hp, by rw [hP]; exact hT, by rw [hP]; exact ht, hS, .inr (.inl ⟨by rw [hP], by rw [hP], hb⟩)⟩
  ·rw [if_neg h17] at h3 hP
   by_cases hi : (Ip.parseH s).proto = 1
   ·rw [if_pos hi] at h3 hP
    rw [msgP_yes h3] at hP
    have hz := firstL_zero (l := [Ic.parseE (Ip.parseS s), typE (Ip.parseS s), qE (Ic.parseH (Ip.parseS s)).body]) h3
    have hb : Ic.parseE (Ip.parseS s) = 0 := hz _ (by simp)
    have hq : qE (Ic.parseH (Ip.parseS s)).body = 0 := hz _ (by simp)
    exact ⟨m, by rw [hP]; exact hp, by rw [hP]; exact hT, by rw [hP]; exact ht, hS, .inr (.inr ⟨by rw [hP], hb, hq, by rw [hP], by rw [hP], by rw [hP]⟩)⟩
   ·rw [if_neg hi] at h3
    exact absurd h3 (by decide)
theorem got1_rng (s : ByteArray) (p : Int) : 0 ≤ got s p 1 ∧ got s p 1 ≤ 255 := (got_rng s p).1
/-- The places of a told packet. -/
theorem Told.at_ {s : ByteArray} (t : Told s) : 20 ≤ (clsP s).pos ∧ (clsP s).pos ≤ (clsP s).total ∧ (clsP s).total ≤ s.size ∧ (clsP s).total ≤ 1500 ∧ 0 ≤ (clsP s).ttl ∧ (clsP s).ttl ≤ 255 := by
 have m := t.m
 have h1 := m.lo
 have h2 := m.t0
 have h3 := m.t1
 have h4 := m.t2
 have h5 := got1_rng s 8
 rw [t.pos, t.total, t.ttl]
 omega
/-- Of a quote that is right. -/
structure Quoted (q : ByteArray) : Prop where
 lo : 20 ≤ qSize q
 hi : qSize q + 8 ≤ q.size
 proto : (qT q).proto = 6 ∨ (qT q).proto = 17
 src : Ps.U32 (qT q).src
 dst : Ps.U32 (qT q).dst
 sport : 0 ≤ (qT q).sport ∧ (qT q).sport ≤ 65535
 dport : 0 ≤ (qT q).dport ∧ (qT q).dport ≤ 65535
 tup : qT q = ⟨got q 9 1, got q 12 4, got q 16 4, got q (qSize q) 2, got q (qSize q + 2) 2⟩
 size : qN q = qSize q
theorem quoted_of {q : ByteArray} (h : qE q = 0) : Quoted q := by
 obtain ⟨h1, h2⟩ := qE_yes h
 have hb : qB4 q = false ∧ qB6 q = false ∧ qB7 q = false := by
  unfold qE at h
  split at h
  ·cases h
  ·split at h
   ·cases h
   ·split at h
    ·cases h
    ·split at h
     ·cases h
     ·split at h
      ·cases h
      ·split at h
       ·cases h
       ·rename_i a b c d
        exact ⟨by simpa using (by assumption : ¬ qB4 q = true), by simpa using (by assumption : ¬ qB6 q = true), by simpa using (by assumption : ¬ qB7 q = true)⟩
 obtain ⟨b4, b6, b7⟩ := hb
 unfold qB4 at b4
 unfold qB6 at b6
 unfold qB7 at b7
 simp at b4 b6 b7
 refine ⟨by omega, by omega, ?_, ?_, ?_, ?_, ?_, h1, h2⟩
 ·rw [h1]
  show got q 9 1 = 6 ∨ got q 9 1 = 17
  by_cases h6 : got q 9 1 = 6
  ·exact .inl h6
  ·exact .inr (b6 h6)
 ·rw [h1]; exact (got_rng q 12).2.2
 ·rw [h1]; exact (got_rng q 16).2.2
 ·rw [h1]; exact (got_rng q _).2.1
 ·rw [h1]; exact (got_rng q _).2.1
theorem Told.about {s : ByteArray} (t : Told s) (hk : (clsP s).kind = 2) : Ic.parseE (Ip.parseS s) = 0 ∧ Quoted (Ic.parseH (Ip.parseS s)).body ∧ (clsP s).tup = qT (Ic.parseH (Ip.parseS s)).body ∧ (clsP s).quote = (clsP s).pos + 8 ∧ (clsP s).inner = (clsP s).pos + 8 + qSize (Ic.parseH (Ip.parseS s)).body := by
 rcases t.kinds with ⟨h, -⟩ | ⟨h, -⟩ | ⟨-, h1, h2, h3, h4, h5⟩
 ·rw [h] at hk; cases hk
 ·rw [h] at hk; cases hk
 ·have q := quoted_of h2
  exact ⟨h1, q, h3, h4, by rw [h5, q.size]⟩
end Go.Proofs.YtpjaajeojiaeiaaGreatDoor

/- What Plain and About of package patch do. -/
namespace Go.Proofs.YtpjaajeojiaeiaaGreatDoor
open Go.ChangeShapes Go.WideShapes Go.ChangeAt Go.RowKit

theorem alw_zero {s : ByteArray} {kind : Int} {t : En} (h : alwE s kind t = 0) : clsE s = 0 ∧ (clsP s).kind = kind ∧ (0 ≤ t.sport ∧ t.sport ≤ 65535) ∧ (0 ≤ t.dport ∧ t.dport ≤ 65535) ∧ 2 ≤ (clsP s).ttl := by
 unfold alwE at h
 by_cases h0 : clsE s = 0
 ·rw [if_neg (by simpa using h0)] at h
  by_cases h1 : (clsP s).kind = kind
  ·rw [if_neg (by simpa using h1)] at h
   by_cases h2 : prtB t.sport = false
   ·rw [if_pos h2] at h; exact absurd h (by decide)
   ·rw [if_neg h2] at h
    by_cases h3 : prtB t.dport = false
    ·rw [if_pos h3] at h; exact absurd h (by decide)
    ·rw [if_neg h3] at h
     by_cases h4 : (clsP s).ttl < 2
     ·rw [if_pos h4] at h; exact absurd h (by decide)
     ·exact ⟨h0, h1, (prtB_iff _).1 (by simpa using h2), (prtB_iff _).1 (by simpa using h3), by omega⟩
  ·rw [if_pos h1] at h; exact absurd h (by decide)
 ·rw [if_pos h0] at h; exact absurd h h0
/-- The packet with other ends. -/
def plnA (s : ByteArray) (t : En) : ByteArray := outerS (s.extract 0 (clsP s).pos.toNat) ((clsP s).ttl - 1) t.src t.dst
def plnB (s : ByteArray) (t : En) : ByteArray := segT (s.extract (clsP s).pos.toNat (clsP s).total.toNat) (clsP s).tup.proto t
def plainS (s : ByteArray) (t : En) : ByteArray := if alwE s 1 t = 0 then plnA s t ++ plnB s t else ⟨#[]⟩
def abtA (s : ByteArray) (src dst : Int) : ByteArray := outerS (s.extract 0 (clsP s).pos.toNat) ((clsP s).ttl - 1) src dst
def abtB (s : ByteArray) (t : En) : ByteArray := msgT (s.extract (clsP s).pos.toNat (clsP s).total.toNat) (clsP s) t
def aboutS (s : ByteArray) (src dst : Int) (t : En) : ByteArray := if alwE s 2 t = 0 then abtA s src dst ++ abtB s t else ⟨#[]⟩
theorem plainS_no {s : ByteArray} {t : En} (h : ¬ alwE s 1 t = 0) : plainS s t = ⟨#[]⟩ := if_neg h
theorem plainS_yes {s : ByteArray} {t : En} (h : alwE s 1 t = 0) : plainS s t = plnA s t ++ plnB s t := if_pos h
theorem aboutS_no {s : ByteArray} {src dst : Int} {t : En} (h : ¬ alwE s 2 t = 0) : aboutS s src dst t = ⟨#[]⟩ := if_neg h
theorem aboutS_yes {s : ByteArray} {src dst : Int} {t : En} (h : alwE s 2 t = 0) : aboutS s src dst t = abtA s src dst ++ abtB s t := if_pos h
theorem ret_si' {a b : ByteArray} {x y : Int} (h1 : a = b) (h2 : x = y) : Ending.returned (.tuple #[.string a, .int .i64 x]) = .returned (.tuple #[.string b, .int .i64 y]) := by rw [h1, h2]
theorem told_i64 {s : ByteArray} (t : Told s) : Ps.I64 (clsP s).tup.proto := by
 rcases t.kinds with ⟨-, h, -⟩ | ⟨-, h, -⟩ | ⟨-, -, h2, h3, -⟩
 ·rw [h]; exact ⟨by decide, by decide⟩
 ·rw [h]; exact ⟨by decide, by decide⟩
 ·have q := quoted_of h2
  rw [h3]
  rcases q.proto with h | h <;> rw [h] <;> exact ⟨by decide, by decide⟩

theorem buildS_le {h : Ic.Hd} (hw : h.Wf) : (Ic.buildS h).size ≤ 1500 := by
 by_cases he : Ic.buildE h = 0
 ·have g := Ic.good_of he hw
  rw [Ic.buildS_of he, Ic.built_size g.1]
  have := g.2
  omega
 ·rw [Ic.buildS_no he]
  exact Nat.zero_le _
theorem msgT_le (s : ByteArray) (p : Pk) (t : En) (hs : s.size ≤ 100000000) : (msgT s p t).size ≤ 1500 := buildS_le (msgH_wf s p t hs)


set_option maxRecDepth 100000 in
set_option maxHeartbeats 8000000 in
theorem plain_any (s : ByteArray) (t : En) (w : World) (hs : s.size ≤ 140737488360000) (hT : Ps.U32 t.src ∧ Ps.U32 t.dst) (hE : Ic.Env w) :
  Calls Tryz.prog 13 #[.string s, t.val] w fun e w' => e = .returned (.tuple #[.string (plainS s t), .int .i64 (alwE s 1 t)]) ∧ Below w.heap.size w w' := by
 have HAL := hide (fun u h => allowed_any s 1 t u hs h)
 have re := row_new w t.cells 27
 have bel := alloc_on' w (.cells t.cells.toArray 27)
 have HE := hide hE
 clear hE
 by_cases hx : alwE s 1 t = 0
 case neg =>
  have hR := plainS_no hx
  rw [alwP_no hx] at HAL
  have HX := hide hR
  clear hR hs hT
  generalize plainS s t = R at *
  generalize alwE s 1 t = x at *
  have tx : (x != 0) = true := by simpa using hx
  have HR := hide (And.intro re bel)
  have t0 := re.cell 0 _ rfl
  have t1 := re.cell 1 _ rfl
  have t2 := re.cell 2 _ rfl
  have t3 := re.cell 3 _ rfl
  clear re bel hx
  go_enter Tryz.func13, Tryz.ntmps13
  go_wp2_with fail
  refine (unhide HAL _ ((unhide HE).on (unhide HR).2)).mono ?_
  rintro e w1 ⟨rfl, hb⟩
  have HB := hide (Below.then (Below.then (unhide HR).2 hb) (alloc_on' w1 (.cells zeroPk.cells.toArray 45)))
  clear hb t0 t1 t2 t3
  go_wp2_with fail
  go_ret2
  exact ⟨ret_si' (unhide HX).symm rfl, unhide HB⟩
 obtain ⟨hc, hk, hQ1, hQ2, hl⟩ := alw_zero hx
 have told := told hc
 obtain ⟨p0, p1, p2, p3, p4, p5⟩ := told.at_
 have hR := plainS_yes hx
 rw [alwP_yes hx, hx] at HAL
 rw [hx]
 have z1 : (s.extract 0 (clsP s).pos.toNat).size ≤ 1500 := by rw [ByteArray.size_extract]; omega
 have z2 : (s.extract (clsP s).pos.toNat (clsP s).total.toNat).size ≤ 1500 := by rw [ByteArray.size_extract]; omega
 have HOU := hide (fun u => pouter_any (s.extract 0 (clsP s).pos.toNat) ((clsP s).ttl - 1) t.src t.dst u (by omega) hT.1 hT.2)
 have HSE := hide (fun u => psegment_any (s.extract (clsP s).pos.toNat (clsP s).total.toNat) (clsP s).tup.proto t u (by omega) (told_i64 told) hT)
 have zA : (plnA s t).size ≤ 1500 := by have h := outerS_le (s.extract 0 (clsP s).pos.toNat) ((clsP s).ttl - 1) t.src t.dst; unfold plnA; omega
 have zB : (plnB s t).size ≤ 100000 := by have h := segT_le (s.extract (clsP s).pos.toNat (clsP s).total.toNat) (clsP s).tup.proto t; unfold plnB; omega
 have tad := Ic.add_run (plnA s t) (plnB s t) (by omega) (by omega)
 rw [show outerS (s.extract 0 (clsP s).pos.toNat) ((clsP s).ttl - 1) t.src t.dst = plnA s t from rfl] at HOU
 rw [show segT (s.extract (clsP s).pos.toNat (clsP s).total.toNat) (clsP s).tup.proto t = plnB s t from rfl] at HSE
 have HX := hide hR
 clear hR hs hT hx hc hk hQ1 hQ2 told z1 z2 zA zB
 obtain ⟨H, hH⟩ : ∃ H, s.extract 0 (clsP s).pos.toNat = H := ⟨_, rfl⟩
 obtain ⟨M, hM⟩ : ∃ M, s.extract (clsP s).pos.toNat (clsP s).total.toNat = M := ⟨_, rfl⟩
 rw [hH] at HOU
 rw [hM] at HSE
 generalize plainS s t = R at *
 generalize plnA s t = OA at *
 generalize plnB s t = OB at *
 generalize clsP s = p at *
 have q1 : 0 ≤ p.pos := by omega
 have kt : IntKind.i64.wrap (p.ttl - 1) = p.ttl - 1 := Oct.wraps_i64 _ (by omega) (by omega)
 have q3 : p.pos ≤ s.size := by omega
 have HR := hide (And.intro re bel)
 have t0 := re.cell 0 _ rfl
 have t1 := re.cell 1 _ rfl
 have t2 := re.cell 2 _ rfl
 have t3 := re.cell 3 _ rfl
 clear re bel
 go_enter Tryz.func13, Tryz.ntmps13
 go_wp2_with fail
 refine (unhide HAL _ ((unhide HE).on (unhide HR).2)).mono ?_
 rintro e w1 ⟨rfl, hb⟩
 obtain ⟨re, bel⟩ := unhide HR
 have n1 := alloc_on' w1 (.cells p.cells.toArray 45)
 have r8 := row_new w1 p.cells 45
 replace re := (re.on' hb).on' n1
 replace bel := Below.then (Below.then bel hb) n1
 clear hb n1 t0 t1 t2 t3 HR
 go_wp2_with fail
 generalize w1.alloc (.cells p.cells.toArray 45) = W1 at *
 generalize w1.heap.size = g at *
 refine wp_region_grow (by kernel_rfl) [.string s, .pointer (some ⟨g, 1, none⟩), .int .i64 p.pos, .string H, .pointer (some ⟨g, 9, none⟩), .int .i64 p.ttl, .int .i64 (p.ttl - 1), .pointer (some ⟨w.heap.size, 0, none⟩), .int .u32 t.src, .pointer (some ⟨w.heap.size, 1, none⟩), .int .u32 t.dst, .string OA, .string s, .pointer (some ⟨g, 1, none⟩), .int .i64 p.pos, .pointer (some ⟨g, 2, none⟩), .int .i64 p.total, .string M, .pointer (some ⟨g, 3, none⟩), .pointer (some ⟨g, 3, none⟩), .int .i64 p.tup.proto, t.val, .string OB, .string (OA ++ OB), .string (OA ++ OB), .int .i64 0] (by kernel_rfl) ?op ?fin
 case op =>
  intro i o bx u ho hbel hS
  match i, ho with
  | 0, ho =>
   obtain rfl := Option.some.inj ho
   have d0 : bx.tmps.getD 0 undef = .string s := hS.base 0
   refine .inl ⟨rfl, ends_value' (c := .string s) ?_⟩
   simp [execOp, Act.eval, d0]
  | 1, ho =>
   obtain rfl := Option.some.inj ho
   have d6 : bx.tmps.getD 6 undef = .pointer (some ⟨g, 0, none⟩) := hS.base 6
   refine .inl ⟨rfl, ends_value' (c := .pointer (some ⟨g, 1, none⟩)) ?_⟩
   simp [Act.eval, d6, go_sem]
  | 2, ho =>
   obtain rfl := Option.some.inj ho
   have d18 : bx.tmps.getD 18 undef = .pointer (some ⟨g, 1, none⟩) := hS.dep 1 18
   have hl := ((r8.on' (pdrew hbel)).cell 1 _ rfl)
   refine .inl ⟨rfl, ends_value' (c := .int .i64 p.pos) ?_⟩
   simp [Act.eval, d18, go_sem, hl]
  | 3, ho =>
   obtain rfl := Option.some.inj ho
   have d17 : bx.tmps.getD 17 undef = .string s := hS.dep 0 17
   have d19 : bx.tmps.getD 19 undef = .int .i64 p.pos := hS.dep 2 19
   refine .inl ⟨rfl, ends_value' (c := .string H) ?_⟩
   simp [Act.eval, d17, d19, go_sem, hH, q1, q3]
  | 4, ho =>
   obtain rfl := Option.some.inj ho
   have d6 : bx.tmps.getD 6 undef = .pointer (some ⟨g, 0, none⟩) := hS.base 6
   refine .inl ⟨rfl, ends_value' (c := .pointer (some ⟨g, 9, none⟩)) ?_⟩
   simp [Act.eval, d6, go_sem]
  | 5, ho =>
   obtain rfl := Option.some.inj ho
   have d21 : bx.tmps.getD 21 undef = .pointer (some ⟨g, 9, none⟩) := hS.dep 4 21
   have hl := ((r8.on' (pdrew hbel)).cell 9 _ rfl)
   refine .inl ⟨rfl, ends_value' (c := .int .i64 p.ttl) ?_⟩
   simp [Act.eval, d21, go_sem, hl]
  | 6, ho =>
   obtain rfl := Option.some.inj ho
   have d22 : bx.tmps.getD 22 undef = .int .i64 p.ttl := hS.dep 5 22
   refine .inl ⟨rfl, ends_value' (c := .int .i64 (p.ttl - 1)) ?_⟩
   simp [Act.eval, d22, go_sem, kt]
  | 7, ho =>
   obtain rfl := Option.some.inj ho
   have d3 : bx.tmps.getD 3 undef = .pointer (some ⟨w.heap.size, 0, none⟩) := hS.base 3
   refine .inl ⟨rfl, ends_value' (c := .pointer (some ⟨w.heap.size, 0, none⟩)) ?_⟩
   simp [Act.eval, d3, go_sem]
  | 8, ho =>
   obtain rfl := Option.some.inj ho
   have d24 : bx.tmps.getD 24 undef = .pointer (some ⟨w.heap.size, 0, none⟩) := hS.dep 7 24
   have hl := ((re.on' (pdrew hbel)).cell 0 _ rfl)
   refine .inl ⟨rfl, ends_value' (c := .int .u32 t.src) ?_⟩
   simp [Act.eval, d24, go_sem, hl]
  | 9, ho =>
   obtain rfl := Option.some.inj ho
   have d3 : bx.tmps.getD 3 undef = .pointer (some ⟨w.heap.size, 0, none⟩) := hS.base 3
   refine .inl ⟨rfl, ends_value' (c := .pointer (some ⟨w.heap.size, 1, none⟩)) ?_⟩
   simp [Act.eval, d3, go_sem]
  | 10, ho =>
   obtain rfl := Option.some.inj ho
   have d26 : bx.tmps.getD 26 undef = .pointer (some ⟨w.heap.size, 1, none⟩) := hS.dep 9 26
   have hl := ((re.on' (pdrew hbel)).cell 1 _ rfl)
   refine .inl ⟨rfl, ends_value' (c := .int .u32 t.dst) ?_⟩
   simp [Act.eval, d26, go_sem, hl]
  | 11, ho =>
   obtain rfl := Option.some.inj ho
   have d20 : bx.tmps.getD 20 undef = .string H := hS.dep 3 20
   have d23 : bx.tmps.getD 23 undef = .int .i64 (p.ttl - 1) := hS.dep 6 23
   have d25 : bx.tmps.getD 25 undef = .int .u32 t.src := hS.dep 8 25
   have d27 : bx.tmps.getD 27 undef = .int .u32 t.dst := hS.dep 10 27
   refine .inl ⟨rfl, ends_call' (c := .string OA) (f := 23) (args := #[.string H, .int .i64 (p.ttl - 1), .int .u32 t.src, .int .u32 t.dst]) ?_ (unhide HOU u)⟩
   simp [Act.eval, d20, d23, d25, d27, go_sem]
  | 12, ho =>
   obtain rfl := Option.some.inj ho
   have d0 : bx.tmps.getD 0 undef = .string s := hS.base 0
   refine .inl ⟨rfl, ends_value' (c := .string s) ?_⟩
   simp [execOp, Act.eval, d0]
  | 13, ho =>
   obtain rfl := Option.some.inj ho
   have d6 : bx.tmps.getD 6 undef = .pointer (some ⟨g, 0, none⟩) := hS.base 6
   refine .inl ⟨rfl, ends_value' (c := .pointer (some ⟨g, 1, none⟩)) ?_⟩
   simp [Act.eval, d6, go_sem]
  | 14, ho =>
   obtain rfl := Option.some.inj ho
   have d30 : bx.tmps.getD 30 undef = .pointer (some ⟨g, 1, none⟩) := hS.dep 13 30
   have hl := ((r8.on' (pdrew hbel)).cell 1 _ rfl)
   refine .inl ⟨rfl, ends_value' (c := .int .i64 p.pos) ?_⟩
   simp [Act.eval, d30, go_sem, hl]
  | 15, ho =>
   obtain rfl := Option.some.inj ho
   have d6 : bx.tmps.getD 6 undef = .pointer (some ⟨g, 0, none⟩) := hS.base 6
   refine .inl ⟨rfl, ends_value' (c := .pointer (some ⟨g, 2, none⟩)) ?_⟩
   simp [Act.eval, d6, go_sem]
  | 16, ho =>
   obtain rfl := Option.some.inj ho
   have d32 : bx.tmps.getD 32 undef = .pointer (some ⟨g, 2, none⟩) := hS.dep 15 32
   have hl := ((r8.on' (pdrew hbel)).cell 2 _ rfl)
   refine .inl ⟨rfl, ends_value' (c := .int .i64 p.total) ?_⟩
   simp [Act.eval, d32, go_sem, hl]
  | 17, ho =>
   obtain rfl := Option.some.inj ho
   have d29 : bx.tmps.getD 29 undef = .string s := hS.dep 12 29
   have d31 : bx.tmps.getD 31 undef = .int .i64 p.pos := hS.dep 14 31
   have d33 : bx.tmps.getD 33 undef = .int .i64 p.total := hS.dep 16 33
   refine .inl ⟨rfl, ends_value' (c := .string M) ?_⟩
   simp [Act.eval, d29, d31, d33, go_sem, hM, q1, p1, p2]
  | 18, ho =>
   obtain rfl := Option.some.inj ho
   have d6 : bx.tmps.getD 6 undef = .pointer (some ⟨g, 0, none⟩) := hS.base 6
   refine .inl ⟨rfl, ends_value' (c := .pointer (some ⟨g, 3, none⟩)) ?_⟩
   simp [Act.eval, d6, go_sem]
  | 19, ho =>
   obtain rfl := Option.some.inj ho
   have d35 : bx.tmps.getD 35 undef = .pointer (some ⟨g, 3, none⟩) := hS.dep 18 35
   refine .inl ⟨rfl, ends_value' (c := .pointer (some ⟨g, 3, none⟩)) ?_⟩
   simp [Act.eval, d35, go_sem]
  | 20, ho =>
   obtain rfl := Option.some.inj ho
   have d36 : bx.tmps.getD 36 undef = .pointer (some ⟨g, 3, none⟩) := hS.dep 19 36
   have hl := ((r8.on' (pdrew hbel)).cell 3 _ rfl)
   refine .inl ⟨rfl, ends_value' (c := .int .i64 p.tup.proto) ?_⟩
   simp [Act.eval, d36, go_sem, hl]
  | 21, ho =>
   obtain rfl := Option.some.inj ho
   have d3 : bx.tmps.getD 3 undef = .pointer (some ⟨w.heap.size, 0, none⟩) := hS.base 3
   refine .inl ⟨rfl, ends_value' (c := t.val) ?_⟩
   simp [Act.eval, d3, go_sem, ((re.on' (pdrew hbel)).cell 0 _ rfl), ((re.on' (pdrew hbel)).cell 1 _ rfl), ((re.on' (pdrew hbel)).cell 2 _ rfl), ((re.on' (pdrew hbel)).cell 3 _ rfl)]
  | 22, ho =>
   obtain rfl := Option.some.inj ho
   have d34 : bx.tmps.getD 34 undef = .string M := hS.dep 17 34
   have d37 : bx.tmps.getD 37 undef = .int .i64 p.tup.proto := hS.dep 20 37
   have d38 : bx.tmps.getD 38 undef = t.val := hS.dep 21 38
   refine .inl ⟨rfl, ends_call' (c := .string OB) (f := 24) (args := #[.string M, .int .i64 p.tup.proto, t.val]) ?_ (unhide HSE u)⟩
   simp [Act.eval, d34, d37, d38, go_sem]
  | 23, ho =>
   obtain rfl := Option.some.inj ho
   have d28 : bx.tmps.getD 28 undef = .string OA := hS.dep 11 28
   have d39 : bx.tmps.getD 39 undef = .string OB := hS.dep 22 39
   refine .inl ⟨rfl, ends_value' (c := .string (OA ++ OB)) ?_⟩
   simp [Act.eval, d28, d39, go_sem, tad]
  | 24, ho =>
   obtain rfl := Option.some.inj ho
   have d40 : bx.tmps.getD 40 undef = .string (OA ++ OB) := hS.dep 23 40
   refine .inl ⟨rfl, ends_value' (c := .string (OA ++ OB)) ?_⟩
   simp [execOp, Act.eval, d40]
  | 25, ho =>
   obtain rfl := Option.some.inj ho
   refine .inl ⟨rfl, ends_value' (c := .int .i64 0) ?_⟩
   simp [execOp, Act.eval]
  | n + 26, ho => exact absurd ho (by simp)
 case fin =>
  intro u hbel
  simp [putAll, dstAt, Act.put]
  have HB := hide (Below.then bel (pdrew hbel))
  clear hbel re r8 bel
  go_wp2_with fail
  go_ret2
  exact ⟨ret_si' (unhide HX).symm rfl, unhide HB⟩


set_option maxRecDepth 100000 in
set_option maxHeartbeats 8000000 in
theorem about_any (s : ByteArray) (src dst : Int) (t : En) (w : World) (hs : s.size ≤ 140737488360000) (hS : Ps.U32 src) (hD : Ps.U32 dst) (hT : Ps.U32 t.src ∧ Ps.U32 t.dst) (hE : Ic.Env w) :
  Calls Tryz.prog 16 #[.string s, .int .u32 src, .int .u32 dst, t.val] w fun e w' => e = .returned (.tuple #[.string (aboutS s src dst t), .int .i64 (alwE s 2 t)]) ∧ Below w.heap.size w w' := by
 have HAL := hide (fun u h => allowed_any s 2 t u hs h)
 have re := row_new w t.cells 27
 have bel := alloc_on' w (.cells t.cells.toArray 27)
 have HE := hide hE
 clear hE
 by_cases hx : alwE s 2 t = 0
 case neg =>
  have hR := aboutS_no (src := src) (dst := dst) hx
  rw [alwP_no hx] at HAL
  have HX := hide hR
  clear hR hs hT hS hD
  generalize aboutS s src dst t = R at *
  generalize alwE s 2 t = x at *
  have tx : (x != 0) = true := by simpa using hx
  have HR := hide (And.intro re bel)
  have t0 := re.cell 0 _ rfl
  have t1 := re.cell 1 _ rfl
  have t2 := re.cell 2 _ rfl
  have t3 := re.cell 3 _ rfl
  clear re bel hx
  go_enter Tryz.func16, Tryz.ntmps16
  go_wp2_with fail
  refine (unhide HAL _ ((unhide HE).on (unhide HR).2)).mono ?_
  rintro e w1 ⟨rfl, hb⟩
  have HB := hide (Below.then (Below.then (unhide HR).2 hb) (alloc_on' w1 (.cells zeroPk.cells.toArray 45)))
  clear hb t0 t1 t2 t3
  go_wp2_with fail
  go_ret2
  exact ⟨ret_si' (unhide HX).symm rfl, unhide HB⟩
 obtain ⟨hc, hk, hQ1, hQ2, hl⟩ := alw_zero hx
 have told := told hc
 obtain ⟨p0, p1, p2, p3, p4, p5⟩ := told.at_
 have hR := aboutS_yes (src := src) (dst := dst) hx
 rw [alwP_yes hx, hx] at HAL
 rw [hx]
 have z1 : (s.extract 0 (clsP s).pos.toNat).size ≤ 1500 := by rw [ByteArray.size_extract]; omega
 have z2 : (s.extract (clsP s).pos.toNat (clsP s).total.toNat).size ≤ 1500 := by rw [ByteArray.size_extract]; omega
 have HOU := hide (fun u => pouter_any (s.extract 0 (clsP s).pos.toNat) ((clsP s).ttl - 1) src dst u (by omega) hS hD)
 have hbody : s.extract (clsP s).pos.toNat (clsP s).total.toNat = Ip.parseS s := by rw [told.body, told.pos, told.total]
 obtain ⟨a1, a2, a3, a4, a5⟩ := told.about hk
 have a6 := a2.lo
 have a7 := a2.hi
 have b1 : (Ic.parseH (Ip.parseS s)).body.size ≤ 1500 := by have h := parseH_body (Ip.parseS s); rw [hbody] at z2; omega
 have HSE := hide (fun u => pmessage_any (s.extract (clsP s).pos.toNat (clsP s).total.toNat) (clsP s) t u (by omega) (by omega) (by rw [hbody]; omega) ⟨by omega, by omega⟩ ⟨by omega, by omega⟩ (by rw [a3]; exact ⟨a2.src, a2.dst⟩) hT (by rw [a3]; exact ⟨a2.sport, a2.dport⟩) ⟨hQ1, hQ2⟩ (told_i64 told))
 have zA : (abtA s src dst).size ≤ 1500 := by have h := outerS_le (s.extract 0 (clsP s).pos.toNat) ((clsP s).ttl - 1) src dst; unfold abtA; omega
 have zB : (abtB s t).size ≤ 100000 := by have h := msgT_le (s.extract (clsP s).pos.toNat (clsP s).total.toNat) (clsP s) t (by omega); unfold abtB; omega
 have tad := Ic.add_run (abtA s src dst) (abtB s t) (by omega) (by omega)
 rw [show outerS (s.extract 0 (clsP s).pos.toNat) ((clsP s).ttl - 1) src dst = abtA s src dst from rfl] at HOU
 rw [show msgT (s.extract (clsP s).pos.toNat (clsP s).total.toNat) (clsP s) t = abtB s t from rfl] at HSE
 have HX := hide hR
 clear hR hs hT hx hc hk hQ1 hQ2 told z1 z2 zA zB hS hD hbody a1 a2 a3 a4 a5 a6 a7 b1
 obtain ⟨H, hH⟩ : ∃ H, s.extract 0 (clsP s).pos.toNat = H := ⟨_, rfl⟩
 obtain ⟨M, hM⟩ : ∃ M, s.extract (clsP s).pos.toNat (clsP s).total.toNat = M := ⟨_, rfl⟩
 rw [hH] at HOU
 rw [hM] at HSE
 generalize aboutS s src dst t = R at *
 generalize abtA s src dst = OA at *
 generalize abtB s t = OB at *
 generalize clsP s = p at *
 have q1 : 0 ≤ p.pos := by omega
 have kt : IntKind.i64.wrap (p.ttl - 1) = p.ttl - 1 := Oct.wraps_i64 _ (by omega) (by omega)
 have q3 : p.pos ≤ s.size := by omega
 have HR := hide (And.intro re bel)
 have t0 := re.cell 0 _ rfl
 have t1 := re.cell 1 _ rfl
 have t2 := re.cell 2 _ rfl
 have t3 := re.cell 3 _ rfl
 clear re bel
 go_enter Tryz.func16, Tryz.ntmps16
 go_wp2_with fail
 refine (unhide HAL _ ((unhide HE).on (unhide HR).2)).mono ?_
 rintro e w1 ⟨rfl, hb⟩
 obtain ⟨re, bel⟩ := unhide HR
 have n1 := alloc_on' w1 (.cells p.cells.toArray 45)
 have r8 := row_new w1 p.cells 45
 replace re := (re.on' hb).on' n1
 replace bel := Below.then (Below.then bel hb) n1
 clear hb n1 t0 t1 t2 t3 HR
 go_wp2_with fail
 generalize w1.alloc (.cells p.cells.toArray 45) = W1 at *
 generalize w1.heap.size = g at *
 refine wp_region_grow (by kernel_rfl) [.string s, .pointer (some ⟨g, 1, none⟩), .int .i64 p.pos, .string H, .pointer (some ⟨g, 9, none⟩), .int .i64 p.ttl, .int .i64 (p.ttl - 1), .int .u32 src, .int .u32 dst, .string OA, .string s, .pointer (some ⟨g, 1, none⟩), .int .i64 p.pos, .pointer (some ⟨g, 2, none⟩), .int .i64 p.total, .string M, p.val, t.val, .string OB, .string (OA ++ OB), .string (OA ++ OB), .int .i64 0] (by kernel_rfl) ?op ?fin
 case op =>
  intro i o bx u ho hbel hS
  match i, ho with
  | 0, ho =>
   obtain rfl := Option.some.inj ho
   have d0 : bx.tmps.getD 0 undef = .string s := hS.base 0
   refine .inl ⟨rfl, ends_value' (c := .string s) ?_⟩
   simp [execOp, Act.eval, d0]
  | 1, ho =>
   obtain rfl := Option.some.inj ho
   have d10 : bx.tmps.getD 10 undef = .pointer (some ⟨g, 0, none⟩) := hS.base 10
   refine .inl ⟨rfl, ends_value' (c := .pointer (some ⟨g, 1, none⟩)) ?_⟩
   simp [Act.eval, d10, go_sem]
  | 2, ho =>
   obtain rfl := Option.some.inj ho
   have d22 : bx.tmps.getD 22 undef = .pointer (some ⟨g, 1, none⟩) := hS.dep 1 22
   have hl := ((r8.on' (pdrew hbel)).cell 1 _ rfl)
   refine .inl ⟨rfl, ends_value' (c := .int .i64 p.pos) ?_⟩
   simp [Act.eval, d22, go_sem, hl]
  | 3, ho =>
   obtain rfl := Option.some.inj ho
   have d21 : bx.tmps.getD 21 undef = .string s := hS.dep 0 21
   have d23 : bx.tmps.getD 23 undef = .int .i64 p.pos := hS.dep 2 23
   refine .inl ⟨rfl, ends_value' (c := .string H) ?_⟩
   simp [Act.eval, d21, d23, go_sem, hH, q1, q3]
  | 4, ho =>
   obtain rfl := Option.some.inj ho
   have d10 : bx.tmps.getD 10 undef = .pointer (some ⟨g, 0, none⟩) := hS.base 10
   refine .inl ⟨rfl, ends_value' (c := .pointer (some ⟨g, 9, none⟩)) ?_⟩
   simp [Act.eval, d10, go_sem]
  | 5, ho =>
   obtain rfl := Option.some.inj ho
   have d25 : bx.tmps.getD 25 undef = .pointer (some ⟨g, 9, none⟩) := hS.dep 4 25
   have hl := ((r8.on' (pdrew hbel)).cell 9 _ rfl)
   refine .inl ⟨rfl, ends_value' (c := .int .i64 p.ttl) ?_⟩
   simp [Act.eval, d25, go_sem, hl]
  | 6, ho =>
   obtain rfl := Option.some.inj ho
   have d26 : bx.tmps.getD 26 undef = .int .i64 p.ttl := hS.dep 5 26
   refine .inl ⟨rfl, ends_value' (c := .int .i64 (p.ttl - 1)) ?_⟩
   simp [Act.eval, d26, go_sem, kt]
  | 7, ho =>
   obtain rfl := Option.some.inj ho
   have d1 : bx.tmps.getD 1 undef = .int .u32 src := hS.base 1
   refine .inl ⟨rfl, ends_value' (c := .int .u32 src) ?_⟩
   simp [execOp, Act.eval, d1]
  | 8, ho =>
   obtain rfl := Option.some.inj ho
   have d2 : bx.tmps.getD 2 undef = .int .u32 dst := hS.base 2
   refine .inl ⟨rfl, ends_value' (c := .int .u32 dst) ?_⟩
   simp [execOp, Act.eval, d2]
  | 9, ho =>
   obtain rfl := Option.some.inj ho
   have d24 : bx.tmps.getD 24 undef = .string H := hS.dep 3 24
   have d27 : bx.tmps.getD 27 undef = .int .i64 (p.ttl - 1) := hS.dep 6 27
   have d28 : bx.tmps.getD 28 undef = .int .u32 src := hS.dep 7 28
   have d29 : bx.tmps.getD 29 undef = .int .u32 dst := hS.dep 8 29
   refine .inl ⟨rfl, ends_call' (c := .string OA) (f := 23) (args := #[.string H, .int .i64 (p.ttl - 1), .int .u32 src, .int .u32 dst]) ?_ (unhide HOU u)⟩
   simp [Act.eval, d24, d27, d28, d29, go_sem]
  | 10, ho =>
   obtain rfl := Option.some.inj ho
   have d0 : bx.tmps.getD 0 undef = .string s := hS.base 0
   refine .inl ⟨rfl, ends_value' (c := .string s) ?_⟩
   simp [execOp, Act.eval, d0]
  | 11, ho =>
   obtain rfl := Option.some.inj ho
   have d10 : bx.tmps.getD 10 undef = .pointer (some ⟨g, 0, none⟩) := hS.base 10
   refine .inl ⟨rfl, ends_value' (c := .pointer (some ⟨g, 1, none⟩)) ?_⟩
   simp [Act.eval, d10, go_sem]
  | 12, ho =>
   obtain rfl := Option.some.inj ho
   have d32 : bx.tmps.getD 32 undef = .pointer (some ⟨g, 1, none⟩) := hS.dep 11 32
   have hl := ((r8.on' (pdrew hbel)).cell 1 _ rfl)
   refine .inl ⟨rfl, ends_value' (c := .int .i64 p.pos) ?_⟩
   simp [Act.eval, d32, go_sem, hl]
  | 13, ho =>
   obtain rfl := Option.some.inj ho
   have d10 : bx.tmps.getD 10 undef = .pointer (some ⟨g, 0, none⟩) := hS.base 10
   refine .inl ⟨rfl, ends_value' (c := .pointer (some ⟨g, 2, none⟩)) ?_⟩
   simp [Act.eval, d10, go_sem]
  | 14, ho =>
   obtain rfl := Option.some.inj ho
   have d34 : bx.tmps.getD 34 undef = .pointer (some ⟨g, 2, none⟩) := hS.dep 13 34
   have hl := ((r8.on' (pdrew hbel)).cell 2 _ rfl)
   refine .inl ⟨rfl, ends_value' (c := .int .i64 p.total) ?_⟩
   simp [Act.eval, d34, go_sem, hl]
  | 15, ho =>
   obtain rfl := Option.some.inj ho
   have d31 : bx.tmps.getD 31 undef = .string s := hS.dep 10 31
   have d33 : bx.tmps.getD 33 undef = .int .i64 p.pos := hS.dep 12 33
   have d35 : bx.tmps.getD 35 undef = .int .i64 p.total := hS.dep 14 35
   refine .inl ⟨rfl, ends_value' (c := .string M) ?_⟩
   simp [Act.eval, d31, d33, d35, go_sem, hM, q1, p1, p2]
  | 16, ho =>
   obtain rfl := Option.some.inj ho
   have d10 : bx.tmps.getD 10 undef = .pointer (some ⟨g, 0, none⟩) := hS.base 10
   refine .inl ⟨rfl, ends_value' (c := p.val) ?_⟩
   simp [Act.eval, d10, go_sem, ((r8.on' (pdrew hbel)).cell 0 _ rfl), ((r8.on' (pdrew hbel)).cell 1 _ rfl), ((r8.on' (pdrew hbel)).cell 2 _ rfl), ((r8.on' (pdrew hbel)).cell 3 _ rfl), ((r8.on' (pdrew hbel)).cell 4 _ rfl), ((r8.on' (pdrew hbel)).cell 5 _ rfl), ((r8.on' (pdrew hbel)).cell 6 _ rfl), ((r8.on' (pdrew hbel)).cell 7 _ rfl), ((r8.on' (pdrew hbel)).cell 8 _ rfl), ((r8.on' (pdrew hbel)).cell 9 _ rfl), ((r8.on' (pdrew hbel)).cell 10 _ rfl), ((r8.on' (pdrew hbel)).cell 11 _ rfl), ((r8.on' (pdrew hbel)).cell 12 _ rfl), ((r8.on' (pdrew hbel)).cell 13 _ rfl)]
  | 17, ho =>
   obtain rfl := Option.some.inj ho
   have d7 : bx.tmps.getD 7 undef = .pointer (some ⟨w.heap.size, 0, none⟩) := hS.base 7
   refine .inl ⟨rfl, ends_value' (c := t.val) ?_⟩
   simp [Act.eval, d7, go_sem, ((re.on' (pdrew hbel)).cell 0 _ rfl), ((re.on' (pdrew hbel)).cell 1 _ rfl), ((re.on' (pdrew hbel)).cell 2 _ rfl), ((re.on' (pdrew hbel)).cell 3 _ rfl)]
  | 18, ho =>
   obtain rfl := Option.some.inj ho
   have d36 : bx.tmps.getD 36 undef = .string M := hS.dep 15 36
   have d37 : bx.tmps.getD 37 undef = p.val := hS.dep 16 37
   have d38 : bx.tmps.getD 38 undef = t.val := hS.dep 17 38
   refine .inl ⟨rfl, ends_call' (c := .string OB) (f := 30) (args := #[.string M, p.val, t.val]) ?_ (unhide HSE u)⟩
   simp [Act.eval, d36, d37, d38, go_sem]
  | 19, ho =>
   obtain rfl := Option.some.inj ho
   have d30 : bx.tmps.getD 30 undef = .string OA := hS.dep 9 30
   have d39 : bx.tmps.getD 39 undef = .string OB := hS.dep 18 39
   refine .inl ⟨rfl, ends_value' (c := .string (OA ++ OB)) ?_⟩
   simp [Act.eval, d30, d39, go_sem, tad]
  | 20, ho =>
   obtain rfl := Option.some.inj ho
   have d40 : bx.tmps.getD 40 undef = .string (OA ++ OB) := hS.dep 19 40
   refine .inl ⟨rfl, ends_value' (c := .string (OA ++ OB)) ?_⟩
   simp [execOp, Act.eval, d40]
  | 21, ho =>
   obtain rfl := Option.some.inj ho
   refine .inl ⟨rfl, ends_value' (c := .int .i64 0) ?_⟩
   simp [execOp, Act.eval]
  | n + 22, ho => exact absurd ho (by simp)
 case fin =>
  intro u hbel
  simp [putAll, dstAt, Act.put]
  have HB := hide (Below.then bel (pdrew hbel))
  clear hbel re r8 bel
  go_wp2_with fail
  go_ret2
  exact ⟨ret_si' (unhide HX).symm rfl, unhide HB⟩

end Go.Proofs.YtpjaajeojiaeiaaGreatDoor
