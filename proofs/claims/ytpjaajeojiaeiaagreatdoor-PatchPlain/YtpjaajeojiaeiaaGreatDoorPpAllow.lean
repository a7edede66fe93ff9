/- What allowed of package patch answers. -/
import Derived.Test.YtpjaajeojiaeiaaGreatDoorPpOut
import Derived.Test.YtpjaajeojiaeiaaGreatDoorPkCls
namespace Go.Proofs.YtpjaajeojiaeiaaGreatDoor
open Go.ChangeShapes Go.WideShapes Go.ChangeAt Go.RowKit

/-- May the packet be turned? The first error. -/
def alwE (s : ByteArray) (kind : Int) (t : En) : Int :=
  if clsE s ≠ 0 then clsE s else if (clsP s).kind ≠ kind then 1 else if prtB t.sport = false then 1 else if prtB t.dport = false then 1 else if (clsP s).ttl < 2 then 11 else 0
def alwP (s : ByteArray) (kind : Int) (t : En) : Pk := if alwE s kind t = 0 then clsP s else zeroPk
theorem alwP_no {s : ByteArray} {kind : Int} {t : En} (h : alwE s kind t ≠ 0) : alwP s kind t = zeroPk := if_neg h
theorem alwP_yes {s : ByteArray} {kind : Int} {t : En} (h : alwE s kind t = 0) : alwP s kind t = clsP s := if_pos h
theorem alw_err {s : ByteArray} {kind : Int} {t : En} (h : clsE s ≠ 0) : alwE s kind t = clsE s := if_pos h
theorem alw_kind {s : ByteArray} {kind : Int} {t : En} (h : clsE s = 0) (h1 : (clsP s).kind ≠ kind) : alwE s kind t = 1 := by unfold alwE; rw [if_neg (by simpa using h), if_pos h1]
theorem alw_sp {s : ByteArray} {kind : Int} {t : En} (h : clsE s = 0) (h1 : (clsP s).kind = kind) (h2 : prtB t.sport = false) : alwE s kind t = 1 := by unfold alwE; rw [if_neg (by simpa using h), if_neg (by simpa using h1), if_pos h2]
theorem alw_dp {s : ByteArray} {kind : Int} {t : En} (h : clsE s = 0) (h1 : (clsP s).kind = kind) (h2 : prtB t.sport = true) (h3 : prtB t.dport = false) : alwE s kind t = 1 := by unfold alwE; rw [if_neg (by simpa using h), if_neg (by simpa using h1), if_neg (by rw [h2]; decide), if_pos h3]
theorem alw_ttl {s : ByteArray} {kind : Int} {t : En} (h : clsE s = 0) (h1 : (clsP s).kind = kind) (h2 : prtB t.sport = true) (h3 : prtB t.dport = true) (h4 : (clsP s).ttl < 2) : alwE s kind t = 11 := by unfold alwE; rw [if_neg (by simpa using h), if_neg (by simpa using h1), if_neg (by rw [h2]; decide), if_neg (by rw [h3]; decide), if_pos h4]
theorem alw_ok {s : ByteArray} {kind : Int} {t : En} (h : clsE s = 0) (h1 : (clsP s).kind = kind) (h2 : prtB t.sport = true) (h3 : prtB t.dport = true) (h4 : ¬ (clsP s).ttl < 2) : alwE s kind t = 0 := by unfold alwE; rw [if_neg (by simpa using h), if_neg (by simpa using h1), if_neg (by rw [h2]; decide), if_neg (by rw [h3]; decide), if_neg h4]
theorem ret_pi {a b : Pk} {x y : Int} (h1 : a = b) (h2 : x = y) : Ending.returned (.tuple #[a.val, .int .i64 x]) = .returned (.tuple #[b.val, .int .i64 y]) := by rw [h1, h2]

set_option maxRecDepth 100000 in
set_option maxHeartbeats 8000000 in
theorem allowed_any (s : ByteArray) (kind : Int) (t : En) (w : World) (hs : s.size ≤ 140737488360000) (hE : Ic.Env w) :
    Calls Tryz.prog 22 #[.string s, .int .i64 kind, t.val] w fun e w' => e = .returned (.tuple #[(alwP s kind t).val, .int .i64 (alwE s kind t)]) ∧ Below w.heap.size w w' := by
  have HC := hide (fun u h => classify_any s u hs h)
  have HI := hide (fun n u => isPort_any n u)
  have A0 := @alw_err s kind t
  have A1 := @alw_kind s kind t
  have A2 := @alw_sp s kind t
  have A3 := @alw_dp s kind t
  have A4 := @alw_ttl s kind t
  have A5 := @alw_ok s kind t
  have P0 := @alwP_no s kind t
  have P1 := @alwP_yes s kind t
  generalize alwP s kind t = AP at *
  generalize alwE s kind t = AE at *
  obtain ⟨p, hp⟩ : ∃ p, clsP s = p := ⟨_, rfl⟩
  obtain ⟨x, hx⟩ : ∃ x, clsE s = x := ⟨_, rfl⟩
  rw [hp, hx] at HC
  rw [hx] at A0 A1 A2 A3 A4 A5
  rw [hp] at A1 A2 A3 A4 A5 P1
  clear hp hx hs
  have HE := hide hE
  clear hE
  have re := (row_new w t.cells 27).on' (alloc_on' _ (.cells zeroPk.cells.toArray 45))
  have r6 := row_new (w.alloc (.cells t.cells.toArray 27)) zeroPk.cells 45
  have bel := Below.then (alloc_on' w (.cells t.cells.toArray 27)) (alloc_on' _ (.cells zeroPk.cells.toArray 45))
  rw [show (w.alloc (.cells t.cells.toArray 27)).heap.size = w.heap.size + 1 by simp] at r6
  have HR := hide (And.intro re (And.intro r6 bel))
  clear re r6 bel
  by_cases hx : x = 0
  case neg =>
    have hA : AE = x := A0 hx
    have hP : AP = zeroPk := P0 (by rw [hA]; assumption)
    have HA := hide hA
    have HP := hide hP
    clear hA A0 A1 A2 A3 A4 A5 hP P0 P1
    have t0 : (x != 0) = true := by simpa using hx
    go_enter Tryz.func22, Tryz.ntmps22
    go_wp2_with fail
    refine (unhide HC _ ((unhide HE).on (unhide HR).2.2)).mono ?_
    rintro e w1 ⟨rfl, hb⟩
    obtain ⟨re, r6, bel⟩ := unhide HR
    have n1 := alloc_on' w1 (.cells p.cells.toArray 45)
    have r8 := row_new w1 p.cells 45
    replace re := (re.on' hb).on' n1
    replace r6 := (r6.on' hb).on' n1
    replace bel := Below.then bel hb
    have hgw : w.heap.size ≤ w1.heap.size := bel.size
    have hne : w.heap.size + 1 ≠ w1.heap.size := by have := (unhide HR).2.1.lt; have := hb.size; omega
    replace bel := Below.then bel n1
    obtain ⟨W1, e1⟩ : ∃ V, w1.alloc (.cells p.cells.toArray 45) = V := ⟨_, rfl⟩
    rw [e1] at n1 r8 re r6 bel
    obtain ⟨g, hg⟩ : ∃ g, w1.heap.size = g := ⟨_, rfl⟩
    rw [hg] at r8 hgw hne
    clear HR n1 hb
    clear hx
    have c0 := r6.cell 0 _ rfl
    have c1 := r6.cell 1 _ rfl
    have c2 := r6.cell 2 _ rfl
    have c3 := r6.cell 3 _ rfl
    have c4 := r6.cell 4 _ rfl
    have c5 := r6.cell 5 _ rfl
    have c6 := r6.cell 6 _ rfl
    have c7 := r6.cell 7 _ rfl
    have c8 := r6.cell 8 _ rfl
    have c9 := r6.cell 9 _ rfl
    have c10 := r6.cell 10 _ rfl
    have c11 := r6.cell 11 _ rfl
    have c12 := r6.cell 12 _ rfl
    have c13 := r6.cell 13 _ rfl
    have fr := r6.free
    have RR := row_all [.int .i64 0, .int .i64 0, .int .i64 0, .int .i64 0, .int .u32 0, .int .u32 0, .int .i64 0, .int .i64 0, .int .i64 0, .int .i64 0, .int .u32 0, .int .u32 0, .int .i64 0, .int .i64 0] r6 rfl
    have BB := bel.trans ((setRow_below (w.heap.size + 1) [.int .i64 0, .int .i64 0, .int .i64 0, .int .i64 0, .int .u32 0, .int .u32 0, .int .i64 0, .int .i64 0, .int .i64 0, .int .i64 0, .int .u32 0, .int .u32 0, .int .i64 0, .int .i64 0] 0 W1).mono (by omega))
    simp only [setRow, Nat.zero_add, Nat.reduceAdd] at RR BB
    have HF := hide (And.intro RR BB)
    clear RR BB r6 r8 re bel
    go_wp2_with fail
    obtain ⟨RR, BB⟩ := unhide HF
    have z0 := RR.cell 0 _ rfl
    have z1 := RR.cell 1 _ rfl
    have z2 := RR.cell 2 _ rfl
    have z3 := RR.cell 3 _ rfl
    have z4 := RR.cell 4 _ rfl
    have z5 := RR.cell 5 _ rfl
    have z6 := RR.cell 6 _ rfl
    have z7 := RR.cell 7 _ rfl
    have z8 := RR.cell 8 _ rfl
    have z9 := RR.cell 9 _ rfl
    have z10 := RR.cell 10 _ rfl
    have z11 := RR.cell 11 _ rfl
    have z12 := RR.cell 12 _ rfl
    have z13 := RR.cell 13 _ rfl
    refine bodyPost_ret (v := .tuple #[.agg #[.int .i64 0, .int .i64 0, .int .i64 0, .int .i64 0, .int .u32 0, .int .u32 0, .int .i64 0, .int .i64 0, .int .i64 0, .int .i64 0, .int .u32 0, .int .u32 0, .int .i64 0, .int .i64 0], .int .i64 x]) (by simp [results, Tryz.results22, go_sem, z0, z1, z2, z3, z4, z5, z6, z7, z8, z9, z10, z11, z12, z13]) rfl ⟨ret_pi (unhide HP).symm (unhide HA).symm, BB⟩
  subst hx
  replace A1 := A1 rfl
  replace A2 := A2 rfl
  replace A3 := A3 rfl
  replace A4 := A4 rfl
  replace A5 := A5 rfl
  by_cases hk : p.kind = kind
  case neg =>
    have hA : AE = 1 := A1 hk
    have hP : AP = zeroPk := P0 (by rw [hA]; decide)
    have HA := hide hA
    have HP := hide hP
    clear hA A0 A1 A2 A3 A4 A5 hP P0 P1
    have t1 : (p.kind != kind) = true := by simpa using hk
    go_enter Tryz.func22, Tryz.ntmps22
    go_wp2_with fail
    refine (unhide HC _ ((unhide HE).on (unhide HR).2.2)).mono ?_
    rintro e w1 ⟨rfl, hb⟩
    obtain ⟨re, r6, bel⟩ := unhide HR
    have n1 := alloc_on' w1 (.cells p.cells.toArray 45)
    have r8 := row_new w1 p.cells 45
    replace re := (re.on' hb).on' n1
    replace r6 := (r6.on' hb).on' n1
    replace bel := Below.then bel hb
    have hgw : w.heap.size ≤ w1.heap.size := bel.size
    have hne : w.heap.size + 1 ≠ w1.heap.size := by have := (unhide HR).2.1.lt; have := hb.size; omega
    replace bel := Below.then bel n1
    obtain ⟨W1, e1⟩ : ∃ V, w1.alloc (.cells p.cells.toArray 45) = V := ⟨_, rfl⟩
    rw [e1] at n1 r8 re r6 bel
    obtain ⟨g, hg⟩ : ∃ g, w1.heap.size = g := ⟨_, rfl⟩
    rw [hg] at r8 hgw hne
    clear HR n1 hb
    have k0 := r8.cell 0 _ rfl
    clear hk
    have c0 := r6.cell 0 _ rfl
    have c1 := r6.cell 1 _ rfl
    have c2 := r6.cell 2 _ rfl
    have c3 := r6.cell 3 _ rfl
    have c4 := r6.cell 4 _ rfl
    have c5 := r6.cell 5 _ rfl
    have c6 := r6.cell 6 _ rfl
    have c7 := r6.cell 7 _ rfl
    have c8 := r6.cell 8 _ rfl
    have c9 := r6.cell 9 _ rfl
    have c10 := r6.cell 10 _ rfl
    have c11 := r6.cell 11 _ rfl
    have c12 := r6.cell 12 _ rfl
    have c13 := r6.cell 13 _ rfl
    have fr := r6.free
    have RR := row_all [.int .i64 0, .int .i64 0, .int .i64 0, .int .i64 0, .int .u32 0, .int .u32 0, .int .i64 0, .int .i64 0, .int .i64 0, .int .i64 0, .int .u32 0, .int .u32 0, .int .i64 0, .int .i64 0] r6 rfl
    have BB := bel.trans ((setRow_below (w.heap.size + 1) [.int .i64 0, .int .i64 0, .int .i64 0, .int .i64 0, .int .u32 0, .int .u32 0, .int .i64 0, .int .i64 0, .int .i64 0, .int .i64 0, .int .u32 0, .int .u32 0, .int .i64 0, .int .i64 0] 0 W1).mono (by omega))
    simp only [setRow, Nat.zero_add, Nat.reduceAdd] at RR BB
    have HF := hide (And.intro RR BB)
    clear RR BB r6 r8 re bel
    go_wp2_with fail
    obtain ⟨RR, BB⟩ := unhide HF
    have z0 := RR.cell 0 _ rfl
    have z1 := RR.cell 1 _ rfl
    have z2 := RR.cell 2 _ rfl
    have z3 := RR.cell 3 _ rfl
    have z4 := RR.cell 4 _ rfl
    have z5 := RR.cell 5 _ rfl
    have z6 := RR.cell 6 _ rfl
    have z7 := RR.cell 7 _ rfl
    have z8 := RR.cell 8 _ rfl
    have z9 := RR.cell 9 _ rfl
    have z10 := RR.cell 10 _ rfl
    have z11 := RR.cell 11 _ rfl
    have z12 := RR.cell 12 _ rfl
    have z13 := RR.cell 13 _ rfl
    refine bodyPost_ret (v := .tuple #[.agg #[.int .i64 0, .int .i64 0, .int .i64 0, .int .i64 0, .int .u32 0, .int .u32 0, .int .i64 0, .int .i64 0, .int .i64 0, .int .i64 0, .int .u32 0, .int .u32 0, .int .i64 0, .int .i64 0], .int .i64 1]) (by simp [results, Tryz.results22, go_sem, z0, z1, z2, z3, z4, z5, z6, z7, z8, z9, z10, z11, z12, z13]) rfl ⟨ret_pi (unhide HP).symm (unhide HA).symm, BB⟩
  replace A2 := A2 hk
  replace A3 := A3 hk
  replace A4 := A4 hk
  replace A5 := A5 hk
  have t1 : (p.kind != kind) = false := by simpa using hk
  have HK := hide hk
  clear hk
  cases hsp : prtB t.sport with
  | false =>
    have hA : AE = 1 := A2 hsp
    have hP : AP = zeroPk := P0 (by rw [hA]; decide)
    have HA := hide hA
    have HP := hide hP
    clear hA A0 A1 A2 A3 A4 A5 hP P0 P1
    go_enter Tryz.func22, Tryz.ntmps22
    go_wp2_with fail
    refine (unhide HC _ ((unhide HE).on (unhide HR).2.2)).mono ?_
    rintro e w1 ⟨rfl, hb⟩
    obtain ⟨re, r6, bel⟩ := unhide HR
    have n1 := alloc_on' w1 (.cells p.cells.toArray 45)
    have r8 := row_new w1 p.cells 45
    replace re := (re.on' hb).on' n1
    replace r6 := (r6.on' hb).on' n1
    replace bel := Below.then bel hb
    have hgw : w.heap.size ≤ w1.heap.size := bel.size
    have hne : w.heap.size + 1 ≠ w1.heap.size := by have := (unhide HR).2.1.lt; have := hb.size; omega
    replace bel := Below.then bel n1
    obtain ⟨W1, e1⟩ : ∃ V, w1.alloc (.cells p.cells.toArray 45) = V := ⟨_, rfl⟩
    rw [e1] at n1 r8 re r6 bel
    obtain ⟨g, hg⟩ : ∃ g, w1.heap.size = g := ⟨_, rfl⟩
    rw [hg] at r8 hgw hne
    clear HR n1 hb
    have k0 := r8.cell 0 _ rfl
    have v2 := re.cell 2 _ rfl
    have v3 := re.cell 3 _ rfl
    go_wp2_with fail
    refine (unhide HI _ _).mono ?_
    rintro e w2 ⟨rfl, hb⟩
    replace re := re.on' hb
    replace r6 := r6.on' hb
    replace r8 := r8.on' hb
    replace bel := Below.then bel hb
    clear hb
    rw [hsp]
    clear hsp k0 v2 v3
    have c0 := r6.cell 0 _ rfl
    have c1 := r6.cell 1 _ rfl
    have c2 := r6.cell 2 _ rfl
    have c3 := r6.cell 3 _ rfl
    have c4 := r6.cell 4 _ rfl
    have c5 := r6.cell 5 _ rfl
    have c6 := r6.cell 6 _ rfl
    have c7 := r6.cell 7 _ rfl
    have c8 := r6.cell 8 _ rfl
    have c9 := r6.cell 9 _ rfl
    have c10 := r6.cell 10 _ rfl
    have c11 := r6.cell 11 _ rfl
    have c12 := r6.cell 12 _ rfl
    have c13 := r6.cell 13 _ rfl
    have fr := r6.free
    have RR := row_all [.int .i64 0, .int .i64 0, .int .i64 0, .int .i64 0, .int .u32 0, .int .u32 0, .int .i64 0, .int .i64 0, .int .i64 0, .int .i64 0, .int .u32 0, .int .u32 0, .int .i64 0, .int .i64 0] r6 rfl
    have BB := bel.trans ((setRow_below (w.heap.size + 1) [.int .i64 0, .int .i64 0, .int .i64 0, .int .i64 0, .int .u32 0, .int .u32 0, .int .i64 0, .int .i64 0, .int .i64 0, .int .i64 0, .int .u32 0, .int .u32 0, .int .i64 0, .int .i64 0] 0 w2).mono (by omega))
    simp only [setRow, Nat.zero_add, Nat.reduceAdd] at RR BB
    have HF := hide (And.intro RR BB)
    clear RR BB r6 r8 re bel
    go_wp2_with fail
    obtain ⟨RR, BB⟩ := unhide HF
    have z0 := RR.cell 0 _ rfl
    have z1 := RR.cell 1 _ rfl
    have z2 := RR.cell 2 _ rfl
    have z3 := RR.cell 3 _ rfl
    have z4 := RR.cell 4 _ rfl
    have z5 := RR.cell 5 _ rfl
    have z6 := RR.cell 6 _ rfl
    have z7 := RR.cell 7 _ rfl
    have z8 := RR.cell 8 _ rfl
    have z9 := RR.cell 9 _ rfl
    have z10 := RR.cell 10 _ rfl
    have z11 := RR.cell 11 _ rfl
    have z12 := RR.cell 12 _ rfl
    have z13 := RR.cell 13 _ rfl
    refine bodyPost_ret (v := .tuple #[.agg #[.int .i64 0, .int .i64 0, .int .i64 0, .int .i64 0, .int .u32 0, .int .u32 0, .int .i64 0, .int .i64 0, .int .i64 0, .int .i64 0, .int .u32 0, .int .u32 0, .int .i64 0, .int .i64 0], .int .i64 1]) (by simp [results, Tryz.results22, go_sem, z0, z1, z2, z3, z4, z5, z6, z7, z8, z9, z10, z11, z12, z13]) rfl ⟨ret_pi (unhide HP).symm (unhide HA).symm, BB⟩
  | true =>
    replace A3 := A3 hsp
    replace A4 := A4 hsp
    replace A5 := A5 hsp
    cases hdp : prtB t.dport with
    | false =>
      have hA : AE = 1 := A3 hdp
      have hP : AP = zeroPk := P0 (by rw [hA]; decide)
      have HA := hide hA
      have HP := hide hP
      clear hA A0 A1 A2 A3 A4 A5 hP P0 P1
      go_enter Tryz.func22, Tryz.ntmps22
      go_wp2_with fail
      refine (unhide HC _ ((unhide HE).on (unhide HR).2.2)).mono ?_
      rintro e w1 ⟨rfl, hb⟩
      obtain ⟨re, r6, bel⟩ := unhide HR
      have n1 := alloc_on' w1 (.cells p.cells.toArray 45)
      have r8 := row_new w1 p.cells 45
      replace re := (re.on' hb).on' n1
      replace r6 := (r6.on' hb).on' n1
      replace bel := Below.then bel hb
      have hgw : w.heap.size ≤ w1.heap.size := bel.size
      have hne : w.heap.size + 1 ≠ w1.heap.size := by have := (unhide HR).2.1.lt; have := hb.size; omega
      replace bel := Below.then bel n1
      obtain ⟨W1, e1⟩ : ∃ V, w1.alloc (.cells p.cells.toArray 45) = V := ⟨_, rfl⟩
      rw [e1] at n1 r8 re r6 bel
      obtain ⟨g, hg⟩ : ∃ g, w1.heap.size = g := ⟨_, rfl⟩
      rw [hg] at r8 hgw hne
      clear HR n1 hb
      have k0 := r8.cell 0 _ rfl
      have v2 := re.cell 2 _ rfl
      have v3 := re.cell 3 _ rfl
      go_wp2_with fail
      refine (unhide HI _ _).mono ?_
      rintro e w2 ⟨rfl, hb⟩
      replace re := re.on' hb
      replace r6 := r6.on' hb
      replace r8 := r8.on' hb
      replace bel := Below.then bel hb
      clear hb
      rw [hsp]
      clear k0 v2 v3
      have v3 := re.cell 3 _ rfl
      go_wp2_with fail
      refine (unhide HI _ _).mono ?_
      rintro e w3 ⟨rfl, hb⟩
      replace re := re.on' hb
      replace r6 := r6.on' hb
      replace r8 := r8.on' hb
      replace bel := Below.then bel hb
      clear hb
      rw [hdp]
      clear hsp hdp v3
      have c0 := r6.cell 0 _ rfl
      have c1 := r6.cell 1 _ rfl
      have c2 := r6.cell 2 _ rfl
      have c3 := r6.cell 3 _ rfl
      have c4 := r6.cell 4 _ rfl
      have c5 := r6.cell 5 _ rfl
      have c6 := r6.cell 6 _ rfl
      have c7 := r6.cell 7 _ rfl
      have c8 := r6.cell 8 _ rfl
      have c9 := r6.cell 9 _ rfl
      have c10 := r6.cell 10 _ rfl
      have c11 := r6.cell 11 _ rfl
      have c12 := r6.cell 12 _ rfl
      have c13 := r6.cell 13 _ rfl
      have fr := r6.free
      have RR := row_all [.int .i64 0, .int .i64 0, .int .i64 0, .int .i64 0, .int .u32 0, .int .u32 0, .int .i64 0, .int .i64 0, .int .i64 0, .int .i64 0, .int .u32 0, .int .u32 0, .int .i64 0, .int .i64 0] r6 rfl
      have BB := bel.trans ((setRow_below (w.heap.size + 1) [.int .i64 0, .int .i64 0, .int .i64 0, .int .i64 0, .int .u32 0, .int .u32 0, .int .i64 0, .int .i64 0, .int .i64 0, .int .i64 0, .int .u32 0, .int .u32 0, .int .i64 0, .int .i64 0] 0 w3).mono (by omega))
      simp only [setRow, Nat.zero_add, Nat.reduceAdd] at RR BB
      have HF := hide (And.intro RR BB)
      clear RR BB r6 r8 re bel
      go_wp2_with fail
      obtain ⟨RR, BB⟩ := unhide HF
      have z0 := RR.cell 0 _ rfl
      have z1 := RR.cell 1 _ rfl
      have z2 := RR.cell 2 _ rfl
      have z3 := RR.cell 3 _ rfl
      have z4 := RR.cell 4 _ rfl
      have z5 := RR.cell 5 _ rfl
      have z6 := RR.cell 6 _ rfl
      have z7 := RR.cell 7 _ rfl
      have z8 := RR.cell 8 _ rfl
      have z9 := RR.cell 9 _ rfl
      have z10 := RR.cell 10 _ rfl
      have z11 := RR.cell 11 _ rfl
      have z12 := RR.cell 12 _ rfl
      have z13 := RR.cell 13 _ rfl
      refine bodyPost_ret (v := .tuple #[.agg #[.int .i64 0, .int .i64 0, .int .i64 0, .int .i64 0, .int .u32 0, .int .u32 0, .int .i64 0, .int .i64 0, .int .i64 0, .int .i64 0, .int .u32 0, .int .u32 0, .int .i64 0, .int .i64 0], .int .i64 1]) (by simp [results, Tryz.results22, go_sem, z0, z1, z2, z3, z4, z5, z6, z7, z8, z9, z10, z11, z12, z13]) rfl ⟨ret_pi (unhide HP).symm (unhide HA).symm, BB⟩
    | true =>
      replace A4 := A4 hdp
      replace A5 := A5 hdp
      by_cases ht : p.ttl < 2
      case pos =>
        have hA : AE = 11 := A4 ht
        have hP : AP = zeroPk := P0 (by rw [hA]; decide)
        have HA := hide hA
        have HP := hide hP
        clear hA A0 A1 A2 A3 A4 A5 hP P0 P1
        go_enter Tryz.func22, Tryz.ntmps22
        go_wp2_with fail
        refine (unhide HC _ ((unhide HE).on (unhide HR).2.2)).mono ?_
        rintro e w1 ⟨rfl, hb⟩
        obtain ⟨re, r6, bel⟩ := unhide HR
        have n1 := alloc_on' w1 (.cells p.cells.toArray 45)
        have r8 := row_new w1 p.cells 45
        replace re := (re.on' hb).on' n1
        replace r6 := (r6.on' hb).on' n1
        replace bel := Below.then bel hb
        have hgw : w.heap.size ≤ w1.heap.size := bel.size
        have hne : w.heap.size + 1 ≠ w1.heap.size := by have := (unhide HR).2.1.lt; have := hb.size; omega
        replace bel := Below.then bel n1
        obtain ⟨W1, e1⟩ : ∃ V, w1.alloc (.cells p.cells.toArray 45) = V := ⟨_, rfl⟩
        rw [e1] at n1 r8 re r6 bel
        obtain ⟨g, hg⟩ : ∃ g, w1.heap.size = g := ⟨_, rfl⟩
        rw [hg] at r8 hgw hne
        clear HR n1 hb
        have k0 := r8.cell 0 _ rfl
        have v2 := re.cell 2 _ rfl
        have v3 := re.cell 3 _ rfl
        go_wp2_with fail
        refine (unhide HI _ _).mono ?_
        rintro e w2 ⟨rfl, hb⟩
        replace re := re.on' hb
        replace r6 := r6.on' hb
        replace r8 := r8.on' hb
        replace bel := Below.then bel hb
        clear hb
        rw [hsp]
        clear k0 v2 v3
        have v3 := re.cell 3 _ rfl
        go_wp2_with fail
        refine (unhide HI _ _).mono ?_
        rintro e w3 ⟨rfl, hb⟩
        replace re := re.on' hb
        replace r6 := r6.on' hb
        replace r8 := r8.on' hb
        replace bel := Below.then bel hb
        clear hb
        rw [hdp]
        clear hsp hdp v3
        have k9 := r8.cell 9 _ rfl
        have c0 := r6.cell 0 _ rfl
        have c1 := r6.cell 1 _ rfl
        have c2 := r6.cell 2 _ rfl
        have c3 := r6.cell 3 _ rfl
        have c4 := r6.cell 4 _ rfl
        have c5 := r6.cell 5 _ rfl
        have c6 := r6.cell 6 _ rfl
        have c7 := r6.cell 7 _ rfl
        have c8 := r6.cell 8 _ rfl
        have c9 := r6.cell 9 _ rfl
        have c10 := r6.cell 10 _ rfl
        have c11 := r6.cell 11 _ rfl
        have c12 := r6.cell 12 _ rfl
        have c13 := r6.cell 13 _ rfl
        have fr := r6.free
        have RR := row_all [.int .i64 0, .int .i64 0, .int .i64 0, .int .i64 0, .int .u32 0, .int .u32 0, .int .i64 0, .int .i64 0, .int .i64 0, .int .i64 0, .int .u32 0, .int .u32 0, .int .i64 0, .int .i64 0] r6 rfl
        have BB := bel.trans ((setRow_below (w.heap.size + 1) [.int .i64 0, .int .i64 0, .int .i64 0, .int .i64 0, .int .u32 0, .int .u32 0, .int .i64 0, .int .i64 0, .int .i64 0, .int .i64 0, .int .u32 0, .int .u32 0, .int .i64 0, .int .i64 0] 0 w3).mono (by omega))
        simp only [setRow, Nat.zero_add, Nat.reduceAdd] at RR BB
        have HF := hide (And.intro RR BB)
        clear RR BB r6 r8 re bel
        go_wp2_with fail
        obtain ⟨RR, BB⟩ := unhide HF
        have z0 := RR.cell 0 _ rfl
        have z1 := RR.cell 1 _ rfl
        have z2 := RR.cell 2 _ rfl
        have z3 := RR.cell 3 _ rfl
        have z4 := RR.cell 4 _ rfl
        have z5 := RR.cell 5 _ rfl
        have z6 := RR.cell 6 _ rfl
        have z7 := RR.cell 7 _ rfl
        have z8 := RR.cell 8 _ rfl
        have z9 := RR.cell 9 _ rfl
        have z10 := RR.cell 10 _ rfl
        have z11 := RR.cell 11 _ rfl
        have z12 := RR.cell 12 _ rfl
        have z13 := RR.cell 13 _ rfl
        refine bodyPost_ret (v := .tuple #[.agg #[.int .i64 0, .int .i64 0, .int .i64 0, .int .i64 0, .int .u32 0, .int .u32 0, .int .i64 0, .int .i64 0, .int .i64 0, .int .i64 0, .int .u32 0, .int .u32 0, .int .i64 0, .int .i64 0], .int .i64 11]) (by simp [results, Tryz.results22, go_sem, z0, z1, z2, z3, z4, z5, z6, z7, z8, z9, z10, z11, z12, z13]) rfl ⟨ret_pi (unhide HP).symm (unhide HA).symm, BB⟩
      case neg =>
        have hA : AE = 0 := A5 ht
        have hP : AP = p := P1 hA
        have HA := hide hA
        have HP := hide hP
        clear hA A0 A1 A2 A3 A4 A5 hP P0 P1
        go_enter Tryz.func22, Tryz.ntmps22
        go_wp2_with fail
        refine (unhide HC _ ((unhide HE).on (unhide HR).2.2)).mono ?_
        rintro e w1 ⟨rfl, hb⟩
        obtain ⟨re, r6, bel⟩ := unhide HR
        have n1 := alloc_on' w1 (.cells p.cells.toArray 45)
        have r8 := row_new w1 p.cells 45
        replace re := (re.on' hb).on' n1
        replace r6 := (r6.on' hb).on' n1
        replace bel := Below.then bel hb
        have hgw : w.heap.size ≤ w1.heap.size := bel.size
        have hne : w.heap.size + 1 ≠ w1.heap.size := by have := (unhide HR).2.1.lt; have := hb.size; omega
        replace bel := Below.then bel n1
        obtain ⟨W1, e1⟩ : ∃ V, w1.alloc (.cells p.cells.toArray 45) = V := ⟨_, rfl⟩
        rw [e1] at n1 r8 re r6 bel
        obtain ⟨g, hg⟩ : ∃ g, w1.heap.size = g := ⟨_, rfl⟩
        rw [hg] at r8 hgw hne
        clear HR n1 hb
        have k0 := r8.cell 0 _ rfl
        have v2 := re.cell 2 _ rfl
        have v3 := re.cell 3 _ rfl
        go_wp2_with fail
        refine (unhide HI _ _).mono ?_
        rintro e w2 ⟨rfl, hb⟩
        replace re := re.on' hb
        replace r6 := r6.on' hb
        replace r8 := r8.on' hb
        replace bel := Below.then bel hb
        clear hb
        rw [hsp]
        clear k0 v2 v3
        have v3 := re.cell 3 _ rfl
        go_wp2_with fail
        refine (unhide HI _ _).mono ?_
        rintro e w3 ⟨rfl, hb⟩
        replace re := re.on' hb
        replace r6 := r6.on' hb
        replace r8 := r8.on' hb
        replace bel := Below.then bel hb
        clear hb
        rw [hdp]
        clear hsp hdp v3
        have k9 := r8.cell 9 _ rfl
        have b0 := r8.cell 0 _ rfl
        have b1 := r8.cell 1 _ rfl
        have b2 := r8.cell 2 _ rfl
        have b3 := r8.cell 3 _ rfl
        have b4 := r8.cell 4 _ rfl
        have b5 := r8.cell 5 _ rfl
        have b6 := r8.cell 6 _ rfl
        have b7 := r8.cell 7 _ rfl
        have b8 := r8.cell 8 _ rfl
        have b9 := r8.cell 9 _ rfl
        have b10 := r8.cell 10 _ rfl
        have b11 := r8.cell 11 _ rfl
        have b12 := r8.cell 12 _ rfl
        have b13 := r8.cell 13 _ rfl
        have c0 := r6.cell 0 _ rfl
        have c1 := r6.cell 1 _ rfl
        have c2 := r6.cell 2 _ rfl
        have c3 := r6.cell 3 _ rfl
        have c4 := r6.cell 4 _ rfl
        have c5 := r6.cell 5 _ rfl
        have c6 := r6.cell 6 _ rfl
        have c7 := r6.cell 7 _ rfl
        have c8 := r6.cell 8 _ rfl
        have c9 := r6.cell 9 _ rfl
        have c10 := r6.cell 10 _ rfl
        have c11 := r6.cell 11 _ rfl
        have c12 := r6.cell 12 _ rfl
        have c13 := r6.cell 13 _ rfl
        have fr := r6.free
        have RR := row_all p.cells r6 rfl
        have BB := bel.trans ((setRow_below (w.heap.size + 1) p.cells 0 w3).mono (by omega))
        simp only [setRow, Nat.zero_add, Nat.reduceAdd] at RR BB
        have HF := hide (And.intro RR BB)
        clear RR BB r6 r8 re bel
        go_wp2_with fail
        obtain ⟨RR, BB⟩ := unhide HF
        have z0 := RR.cell 0 _ rfl
        have z1 := RR.cell 1 _ rfl
        have z2 := RR.cell 2 _ rfl
        have z3 := RR.cell 3 _ rfl
        have z4 := RR.cell 4 _ rfl
        have z5 := RR.cell 5 _ rfl
        have z6 := RR.cell 6 _ rfl
        have z7 := RR.cell 7 _ rfl
        have z8 := RR.cell 8 _ rfl
        have z9 := RR.cell 9 _ rfl
        have z10 := RR.cell 10 _ rfl
        have z11 := RR.cell 11 _ rfl
        have z12 := RR.cell 12 _ rfl
        have z13 := RR.cell 13 _ rfl
        refine bodyPost_ret (v := .tuple #[p.val, .int .i64 0]) (by simp [results, Tryz.results22, go_sem, z0, z1, z2, z3, z4, z5, z6, z7, z8, z9, z10, z11, z12, z13]) rfl ⟨ret_pi (unhide HP).symm (unhide HA).symm, BB⟩
end Go.Proofs.YtpjaajeojiaeiaaGreatDoor
