/- Choose of the reference of chapter 13. -/
import Derived.Test.YtckkdgifjgkoaaaPoVar
namespace Go.Proofs.Ytckkdgifjgkoaaa
open Go.ChangeShapes Go.WideShapes Go.ChangeAt Go.RowKit An

section
variable {base : Nat} {w : World} {key : ByteArray} {room : Nat} {b : RBk} {v vL : Value} {s : An} {L : List Mem} {own : Nat → Nat}
theorem choose_start (w : World) (t0 t1 t2 t3 t4 : Int) : Below w.heap.size w ((w.alloc (.cells #[.int .i64 t0, .int .u32 t1, .int .u32 t2, .int .i64 t3, .int .i64 t4] 35)).alloc (.cells #[.int .i64 0, .int .u32 0, .int .i64 0] 33)) ∧ Row ((w.alloc (.cells #[.int .i64 t0, .int .u32 t1, .int .u32 t2, .int .i64 t3, .int .i64 t4] 35)).alloc (.cells #[.int .i64 0, .int .u32 0, .int .i64 0] 33)) (w.heap.size + 1) [.int .i64 0, .int .u32 0, .int .i64 0] := by
  refine ⟨((Below.refl _ _).alloc (Nat.le_refl _) _).alloc (by simp) _, ?_⟩
  have h := row_new (w.alloc (.cells #[.int .i64 t0, .int .u32 t1, .int .u32 t2, .int .i64 t3, .int .i64 t4] 35)) [.int .i64 0, .int .u32 0, .int .i64 0] 33
  rw [World.size_alloc] at h
  exact h
set_option maxRecDepth 100000 in
set_option maxHeartbeats 4000000 in
theorem rchoose_some (h : RAt base w key room b v vL s L own) (wf : WF s) (hrr : s.r = room) (hr : room ≤ 65536) (hl : L.length ≤ 1000000) (t0 t1 t2 t3 t4 : Int) (K : ByteArray) (H : Sp.B) (hb : Bool)
    (hkey : ∀ u, Calls Try.prog 47 #[.agg #[.int .i64 t0, .int .u32 t1, .int .u32 t2, .int .i64 t3, .int .i64 t4]] u fun e w' => e = .returned (.tuple #[.string K, .bool true]) ∧ Below u.heap.size u w')
    (hhash : ∀ u, Calls Try.prog 48 #[.string key, .string K] u fun e w' => e = .returned (.tuple #[.int .u64 (Sp.nn H), .bool hb]) ∧ Below u.heap.size u w')
    (hact : 0 < Po.active L) (m : Mem) (B : Nat) (hB : An.bucket s (gmix H) = B) (hBr : B < room) (ht : Po.there L (own B : Int) = true) (hm : L[Po.place L (own B : Int)]? = some m) :
    Calls Try.prog 29 #[.pointer (some ⟨b.p, 0, none⟩), .agg #[.int .i64 t0, .int .u32 t1, .int .u32 t2, .int .i64 t3, .int .i64 t4]] w fun e w' => e = .returned (.tuple #[m.back, .bool true]) ∧ Below w.heap.size w w' := by
  obtain ⟨hb0, hr0⟩ := choose_start w t0 t1 t2 t3 t4
  have HX : Shut _ := ⟨hb0⟩
  have HR0 : Shut _ := ⟨hr0⟩
  have HA0 : Shut _ := ⟨h.on hb0⟩
  have HF : Shut (WF s ∧ s.r = room ∧ room ≤ 65536 ∧ L.length ≤ 1000000 ∧ An.bucket s (gmix H) = B ∧ Po.there L (own B : Int) = true ∧ L[Po.place L (own B : Int)]? = some m) := ⟨wf, hrr, hr, hl, hB, ht, hm⟩
  obtain ⟨A, hA⟩ : ∃ A, Po.active L = A := ⟨_, rfl⟩
  have HAC : Shut (Po.active L = A) := ⟨hA⟩
  rw [hA] at hact
  have na1 : ((A : Int) == 0) = false := by rw [beq_eq_false_iff_ne]; omega
  have na2 : (A == 0) = false := by rw [beq_eq_false_iff_ne]; omega
  have na3 : ¬ A = 0 := by omega
  have hB1 : (B : Int) < room := by omega
  have HKEY : Shut _ := ⟨hkey⟩
  have HHASH : Shut _ := ⟨hhash⟩
  clear h wf hrr hr hl hb0 hr0 hA hact hB ht hm hkey hhash
  go_enter Try.func29, Try.ntmps29
  go_wp2_with fail
  refine (HKEY.out _).mono ?_
  rintro e w1 ⟨rfl, hb1⟩
  have HX1 : Shut (Below w.heap.size w w1) := ⟨Below.then HX.out hb1⟩
  have HR1 : Shut (Row w1 (w.heap.size + 1) [.int .i64 0, .int .u32 0, .int .i64 0]) := ⟨HR0.out.on' hb1⟩
  have HA1 : Shut (RAt base w1 key room b v vL s L own) := ⟨HA0.out.on hb1⟩
  clear hb1 HX HR0 HA0 HKEY
  go_wp2_with fail
  refine (ractive_any HA1.out HF.out.2.2.2.1).mono ?_
  rintro e w2 ⟨rfl, hw2⟩
  obtain rfl := hw2.symm
  clear hw2
  rw [HAC.out]
  obtain ⟨c0, c1, c2, c3, c4⟩ := HA1.out.cells
  go_wp2_with fail
  refine (HHASH.out _).mono ?_
  rintro e w3 ⟨rfl, hb3⟩
  have HX3 : Shut (Below w.heap.size w w3) := ⟨Below.then HX1.out hb3⟩
  have HR3 : Shut (Row w3 (w.heap.size + 1) [.int .i64 0, .int .u32 0, .int .i64 0]) := ⟨HR1.out.on' hb3⟩
  have HA3 : Shut (RAt base w3 key room b v vL s L own) := ⟨HA1.out.on hb3⟩
  clear hb3 HX1 HR1 HA1 HHASH c0 c1 c2 c3 c4 na1 na2 na3
  obtain ⟨x0, e0⟩ : ∃ x : Int, (m.id : Int) = x := ⟨_, rfl⟩
  obtain ⟨x1, e1⟩ : ∃ x : Int, (m.addr : Int) = x := ⟨_, rfl⟩
  obtain ⟨x2, e2⟩ : ∃ x : Int, (m.port : Int) = x := ⟨_, rfl⟩
  have HV : Shut (m.back = .agg #[.int .i64 x0, .int .u32 x1, .int .i64 x2]) := ⟨by unfold Mem.back; rw [e0, e1, e2]⟩
  clear e0 e1 e2
  have hcb : ∀ u, Below w3.heap.size w3.drew u → Calls Try.prog 49 #[.pointer (some ⟨b.bk.p, 0, none⟩), .int .u64 (Sp.nn H)] u fun e w' => e = .returned (.int .i64 (B : Int)) ∧ Below u.heap.size u w' := fun u hb => by
    have h := rbucket_any (HA3.out.drew.on hb).an HF.out.1 (by have := HF.out; omega) H
    rw [HF.out.2.2.2.2.1] at h
    exact h
  have hcg : ∀ u, Below w3.heap.size w3.drew u → Calls Try.prog 28 #[.pointer (some ⟨b.p, 0, none⟩), .int .i64 (own B : Int)] u fun e w' => e = .returned (.tuple #[.agg #[.int .i64 x0, .int .u32 x1, .int .i64 x2], .int .i64 (m.st : Int), .int .i64 0]) ∧ Below u.heap.size u w' := fun u hb => by
    have h := rget_ok (HA3.out.drew.on hb) HF.out.2.2.2.1 (own B : Int) HF.out.2.2.2.2.2.1 m HF.out.2.2.2.2.2.2
    rw [HV.out] at h
    exact h
  go_wp2_with fail
  refine wp_region_var (by kernel_rfl) [.pointer (some ⟨b.p, 0, none⟩), .pointer (some ⟨b.p, 0, none⟩), .pointer (some ⟨b.p, 0, none⟩), .pointer (some ⟨b.p, 3, none⟩), .slice (some ⟨b.o, 0, none⟩) room b.co, .pointer (some ⟨b.p, 0, none⟩), .pointer (some ⟨b.p, 0, none⟩), .pointer (some ⟨b.p, 1, none⟩), .pointer (some ⟨b.bk.p, 0, none⟩), .int .u64 (Sp.nn H), .int .i64 (B : Int), .pointer (some ⟨b.o, B, none⟩), .int .i64 (own B : Int), .tuple #[.agg #[.int .i64 x0, .int .u32 x1, .int .i64 x2], .int .i64 (m.st : Int), .int .i64 0], .tuple #[.agg #[.int .i64 x0, .int .u32 x1, .int .i64 x2], .int .i64 (m.st : Int), .int .i64 0], .agg #[.int .i64 x0, .int .u32 x1, .int .i64 x2], .int .i64 (m.st : Int), .int .i64 0, undef, undef, .int .i64 (m.st : Int), .int .i64 0] 18 19 11 [.int .i64 0, .int .u32 0, .int .i64 0] [.int .i64 x0, .int .u32 x1, .int .i64 x2] (by kernel_rfl) (by decide) (by decide) (by decide) (by kernel_rfl) (by kernel_rfl) (by kernel_rfl) rfl (by kernel_rfl) ?op ?alloc ?store ?fin
  case op =>
    intro iop o bx u ho hne1 hne2 hbel hS
    match iop, ho with
    | 0, ho =>
      obtain rfl := Option.some.inj ho
      have d0 : bx.tmps.getD 0 undef = .pointer (some ⟨b.p, 0, none⟩) := hS.base 0 (by kernel_rfl)
      refine ⟨rfl, ends_value' (c := .pointer (some ⟨b.p, 0, none⟩)) ?_⟩
      simp [execOp, Act.eval, d0]
    | 1, ho =>
      obtain rfl := Option.some.inj ho
      have d0 : bx.tmps.getD 0 undef = .pointer (some ⟨b.p, 0, none⟩) := hS.base 0 (by kernel_rfl)
      refine ⟨rfl, ends_value' (c := .pointer (some ⟨b.p, 0, none⟩)) ?_⟩
      simp [execOp, Act.eval, d0]
    | 2, ho =>
      obtain rfl := Option.some.inj ho
      have d39 : bx.tmps.getD 39 undef = .pointer (some ⟨b.p, 0, none⟩) := hS.dep 1 39 (by decide) (by kernel_rfl) (by kernel_rfl)
      refine ⟨rfl, ends_value' (c := .pointer (some ⟨b.p, 0, none⟩)) ?_⟩
      simp [execOp, Act.eval, d39]
    | 3, ho =>
      obtain rfl := Option.some.inj ho
      have d40 : bx.tmps.getD 40 undef = .pointer (some ⟨b.p, 0, none⟩) := hS.dep 2 40 (by decide) (by kernel_rfl) (by kernel_rfl)
      refine ⟨rfl, ends_value' (c := .pointer (some ⟨b.p, 3, none⟩)) ?_⟩
      simp [Act.eval, d40, go_sem]
    | 4, ho =>
      obtain rfl := Option.some.inj ho
      have d41 : bx.tmps.getD 41 undef = .pointer (some ⟨b.p, 3, none⟩) := hS.dep 3 41 (by decide) (by kernel_rfl) (by kernel_rfl)
      have hl := (HA3.out.drew.on hbel).cells.2.2.2.1
      refine ⟨rfl, ends_value' (c := .slice (some ⟨b.o, 0, none⟩) room b.co) ?_⟩
      simp [Act.eval, d41, go_sem, hl]
    | 5, ho =>
      obtain rfl := Option.some.inj ho
      have d0 : bx.tmps.getD 0 undef = .pointer (some ⟨b.p, 0, none⟩) := hS.base 0 (by kernel_rfl)
      refine ⟨rfl, ends_value' (c := .pointer (some ⟨b.p, 0, none⟩)) ?_⟩
      simp [execOp, Act.eval, d0]
    | 6, ho =>
      obtain rfl := Option.some.inj ho
      have d43 : bx.tmps.getD 43 undef = .pointer (some ⟨b.p, 0, none⟩) := hS.dep 5 43 (by decide) (by kernel_rfl) (by kernel_rfl)
      refine ⟨rfl, ends_value' (c := .pointer (some ⟨b.p, 0, none⟩)) ?_⟩
      simp [execOp, Act.eval, d43]
    | 7, ho =>
      obtain rfl := Option.some.inj ho
      have d44 : bx.tmps.getD 44 undef = .pointer (some ⟨b.p, 0, none⟩) := hS.dep 6 44 (by decide) (by kernel_rfl) (by kernel_rfl)
      refine ⟨rfl, ends_value' (c := .pointer (some ⟨b.p, 1, none⟩)) ?_⟩
      simp [Act.eval, d44, go_sem]
    | 8, ho =>
      obtain rfl := Option.some.inj ho
      have d45 : bx.tmps.getD 45 undef = .pointer (some ⟨b.p, 1, none⟩) := hS.dep 7 45 (by decide) (by kernel_rfl) (by kernel_rfl)
      have hl := (HA3.out.drew.on hbel).cells.2.1
      refine ⟨rfl, ends_value' (c := .pointer (some ⟨b.bk.p, 0, none⟩)) ?_⟩
      simp [Act.eval, d45, go_sem, hl]
    | 9, ho =>
      obtain rfl := Option.some.inj ho
      have d9 : bx.tmps.getD 9 undef = .int .u64 (Sp.nn H) := hS.base 9 (by kernel_rfl)
      refine ⟨rfl, ends_value' (c := .int .u64 (Sp.nn H)) ?_⟩
      simp [execOp, Act.eval, d9]
    | 10, ho =>
      obtain rfl := Option.some.inj ho
      have d46 : bx.tmps.getD 46 undef = .pointer (some ⟨b.bk.p, 0, none⟩) := hS.dep 8 46 (by decide) (by kernel_rfl) (by kernel_rfl)
      have d47 : bx.tmps.getD 47 undef = .int .u64 (Sp.nn H) := hS.dep 9 47 (by decide) (by kernel_rfl) (by kernel_rfl)
      refine ⟨rfl, ends_call' (c := .int .i64 (B : Int)) (f := 49) (args := #[.pointer (some ⟨b.bk.p, 0, none⟩), .int .u64 (Sp.nn H)]) ?_ (hcb u hbel)⟩
      simp [Act.eval, d46, d47, go_sem]
    | 11, ho =>
      obtain rfl := Option.some.inj ho
      have d42 : bx.tmps.getD 42 undef = .slice (some ⟨b.o, 0, none⟩) room b.co := hS.dep 4 42 (by decide) (by kernel_rfl) (by kernel_rfl)
      have d48 : bx.tmps.getD 48 undef = .int .i64 (B : Int) := hS.dep 10 48 (by decide) (by kernel_rfl) (by kernel_rfl)
      refine ⟨rfl, ends_value' (c := .pointer (some ⟨b.o, B, none⟩)) ?_⟩
      simp [Act.eval, d42, d48, go_sem, hB1]
    | 12, ho =>
      obtain rfl := Option.some.inj ho
      have d49 : bx.tmps.getD 49 undef = .pointer (some ⟨b.o, B, none⟩) := hS.dep 11 49 (by decide) (by kernel_rfl) (by kernel_rfl)
      have hl := (HA3.out.drew.on hbel).own.cell B (by omega)
      refine ⟨rfl, ends_value' (c := .int .i64 (own B : Int)) ?_⟩
      simp [Act.eval, d49, go_sem, hl]
    | 13, ho =>
      obtain rfl := Option.some.inj ho
      have d38 : bx.tmps.getD 38 undef = .pointer (some ⟨b.p, 0, none⟩) := hS.dep 0 38 (by decide) (by kernel_rfl) (by kernel_rfl)
      have d50 : bx.tmps.getD 50 undef = .int .i64 (own B : Int) := hS.dep 12 50 (by decide) (by kernel_rfl) (by kernel_rfl)
      refine ⟨rfl, ends_call' (c := .tuple #[.agg #[.int .i64 x0, .int .u32 x1, .int .i64 x2], .int .i64 (m.st : Int), .int .i64 0]) (f := 28) (args := #[.pointer (some ⟨b.p, 0, none⟩), .int .i64 (own B : Int)]) ?_ (hcg u hbel)⟩
      simp [Act.eval, d38, d50, go_sem]
    | 14, ho =>
      obtain rfl := Option.some.inj ho
      have d51 : bx.tmps.getD 51 undef = .tuple #[.agg #[.int .i64 x0, .int .u32 x1, .int .i64 x2], .int .i64 (m.st : Int), .int .i64 0] := hS.dep 13 51 (by decide) (by kernel_rfl) (by kernel_rfl)
      refine ⟨rfl, ends_value' (c := .tuple #[.agg #[.int .i64 x0, .int .u32 x1, .int .i64 x2], .int .i64 (m.st : Int), .int .i64 0]) ?_⟩
      simp [execOp, Act.eval, d51]
    | 15, ho =>
      obtain rfl := Option.some.inj ho
      have d37 : bx.tmps.getD 37 undef = .tuple #[.agg #[.int .i64 x0, .int .u32 x1, .int .i64 x2], .int .i64 (m.st : Int), .int .i64 0] := hS.dep 14 37 (by decide) (by kernel_rfl) (by kernel_rfl)
      refine ⟨rfl, ends_value' (c := .agg #[.int .i64 x0, .int .u32 x1, .int .i64 x2]) ?_⟩
      simp [Act.eval, d37, go_sem]
    | 16, ho =>
      obtain rfl := Option.some.inj ho
      have d37 : bx.tmps.getD 37 undef = .tuple #[.agg #[.int .i64 x0, .int .u32 x1, .int .i64 x2], .int .i64 (m.st : Int), .int .i64 0] := hS.dep 14 37 (by decide) (by kernel_rfl) (by kernel_rfl)
      refine ⟨rfl, ends_value' (c := .int .i64 (m.st : Int)) ?_⟩
      simp [Act.eval, d37, go_sem]
    | 17, ho =>
      obtain rfl := Option.some.inj ho
      have d37 : bx.tmps.getD 37 undef = .tuple #[.agg #[.int .i64 x0, .int .u32 x1, .int .i64 x2], .int .i64 (m.st : Int), .int .i64 0] := hS.dep 14 37 (by decide) (by kernel_rfl) (by kernel_rfl)
      refine ⟨rfl, ends_value' (c := .int .i64 0) ?_⟩
      simp [Act.eval, d37, go_sem]
    | 18, _ => exact absurd rfl hne1
    | 19, _ => exact absurd rfl hne2
    | 20, ho =>
      obtain rfl := Option.some.inj ho
      have d53 : bx.tmps.getD 53 undef = .int .i64 (m.st : Int) := hS.dep 16 53 (by decide) (by kernel_rfl) (by kernel_rfl)
      refine ⟨rfl, ends_value' (c := .int .i64 (m.st : Int)) ?_⟩
      simp [execOp, Act.eval, d53]
    | 21, ho =>
      obtain rfl := Option.some.inj ho
      have d54 : bx.tmps.getD 54 undef = .int .i64 0 := hS.dep 17 54 (by decide) (by kernel_rfl) (by kernel_rfl)
      refine ⟨rfl, ends_value' (c := .int .i64 0) ?_⟩
      simp [execOp, Act.eval, d54]
    | n + 22, ho => exact absurd ho (by simp)
  case alloc =>
    intro o bx u ho
    obtain rfl := Option.some.inj ho
    refine ⟨rfl, 33, ?_⟩
    simp [go_sem]
  case store =>
    intro o bx u p ho hS hp hz
    obtain rfl := Option.some.inj ho
    have d52 : bx.tmps.getD 52 undef = .agg #[.int .i64 x0, .int .u32 x1, .int .i64 x2] := hS.dep 15 52 (by decide) (by kernel_rfl) (by kernel_rfl)
    have hd11 : bx.tmps.getD 11 undef = .pointer (some ⟨p, 0, none⟩) := hp
    have z0 := hz.cell 0 _ rfl
    have z1 := hz.cell 1 _ rfl
    have z2 := hz.cell 2 _ rfl
    have f0 := hz.free 0
    have f1 := hz.free 1
    have f2 := hz.free 2
    refine ⟨rfl, ((u.setCell ⟨p, 0, none⟩ (.int .i64 x0)).setCell ⟨p, 1, none⟩ (.int .u32 x1)).setCell ⟨p, 2, none⟩ (.int .i64 x2), ?_, ((hz.set 0 (.int .i64 x0)).set 1 (.int .u32 x1)).set 2 (.int .i64 x2), ((((Below.refl p u).setCell (p := ⟨p, 0, none⟩) (Nat.le_refl _) (.int .i64 x0)).setCell (p := ⟨p, 1, none⟩) (Nat.le_refl _) (.int .u32 x1)).setCell (p := ⟨p, 2, none⟩) (Nat.le_refl _) (.int .i64 x2))⟩
    simp [Act.eval, d52, hd11, go_sem, z0, z1, z2, f0, f1, f2]
  case fin =>
    intro p u hbel hp hrow
    have HU : Shut (Below w.heap.size w u) := ⟨Below.then (below_drewN HX3.out 1) hbel⟩
    have HRr : Shut (Row u (w.heap.size + 1) [.int .i64 0, .int .u32 0, .int .i64 0]) := ⟨HR3.out.of_block (hbel.block _ HR3.out.lt)⟩
    have HP : Shut (w3.heap.size ≤ p ∧ Row u p [.int .i64 x0, .int .u32 x1, .int .i64 x2]) := ⟨hp, hrow⟩
    clear hbel hp hrow hcb hcg
    simp [putAll, dstAt, Act.put]
    have s0 := HP.out.2.cell 0 _ rfl
    have s1 := HP.out.2.cell 1 _ rfl
    have s2 := HP.out.2.cell 2 _ rfl
    have z0 := HRr.out.cell 0 _ rfl
    have z1 := HRr.out.cell 1 _ rfl
    have z2 := HRr.out.cell 2 _ rfl
    have f0 := HRr.out.free 0
    have f1 := HRr.out.free 1
    have f2 := HRr.out.free 2
    obtain ⟨R, hR⟩ : ∃ R, w.heap.size + 1 = R := ⟨_, rfl⟩
    have HR4 : Shut (Row (((u.setCell ⟨R, 0, none⟩ (.int .i64 x0)).setCell ⟨R, 1, none⟩ (.int .u32 x1)).setCell ⟨R, 2, none⟩ (.int .i64 x2)) R [.int .i64 x0, .int .u32 x1, .int .i64 x2]) := ⟨by
      rw [← hR]
      exact ((HRr.out.set 0 (.int .i64 x0)).set 1 (.int .u32 x1)).set 2 (.int .i64 x2)⟩
    have HB4 : Shut (Below w.heap.size w (((u.setCell ⟨R, 0, none⟩ (.int .i64 x0)).setCell ⟨R, 1, none⟩ (.int .u32 x1)).setCell ⟨R, 2, none⟩ (.int .i64 x2))) := ⟨((HU.out.setCell (p := ⟨R, 0, none⟩) (by show w.heap.size ≤ R; omega) (.int .i64 x0)).setCell (p := ⟨R, 1, none⟩) (by show w.heap.size ≤ R; omega) (.int .u32 x1)).setCell (p := ⟨R, 2, none⟩) (by show w.heap.size ≤ R; omega) (.int .i64 x2)⟩
    rw [hR] at z0 z1 z2 f0 f1 f2
    simp only [hR]
    clear hR HRr HU HP
    go_wp2_with fail
    generalize ((u.setCell ⟨R, 0, none⟩ (.int .i64 x0)).setCell ⟨R, 1, none⟩ (.int .u32 x1)).setCell ⟨R, 2, none⟩ (.int .i64 x2) = V1 at *
    have d0 := HR4.out.cell 0 _ rfl
    have d1 := HR4.out.cell 1 _ rfl
    have d2 := HR4.out.cell 2 _ rfl
    refine bodyPost_ret (v := .tuple #[.agg #[.int .i64 x0, .int .u32 x1, .int .i64 x2], .bool true]) (by simp [results, Try.results29, go_sem, d0, d1, d2]) rfl ⟨by rw [HV.out], HB4.out⟩
set_option maxRecDepth 100000 in
set_option maxHeartbeats 4000000 in
theorem rchoose_none (h : RAt base w key room b v vL s L own) (hl : L.length ≤ 1000000) (t0 t1 t2 t3 t4 : Int) (K : ByteArray) (ok : Bool)
    (hkey : ∀ u, Calls Try.prog 47 #[.agg #[.int .i64 t0, .int .u32 t1, .int .u32 t2, .int .i64 t3, .int .i64 t4]] u fun e w' => e = .returned (.tuple #[.string K, .bool ok]) ∧ Below u.heap.size u w')
    (hno : ok = false ∨ Po.active L = 0) :
    Calls Try.prog 29 #[.pointer (some ⟨b.p, 0, none⟩), .agg #[.int .i64 t0, .int .u32 t1, .int .u32 t2, .int .i64 t3, .int .i64 t4]] w fun e w' => e = .returned (.tuple #[noBack, .bool false]) ∧ Below w.heap.size w w' := by
  obtain ⟨hb0, hr0⟩ := choose_start w t0 t1 t2 t3 t4
  have HX : Shut _ := ⟨hb0⟩
  have HR0 : Shut _ := ⟨hr0⟩
  have HA0 : Shut _ := ⟨h.on hb0⟩
  have HL : Shut (L.length ≤ 1000000) := ⟨hl⟩
  have HKEY : Shut _ := ⟨hkey⟩
  have HNO : Shut _ := ⟨hno⟩
  clear h hl hb0 hr0 hkey hno
  go_enter Try.func29, Try.ntmps29
  go_wp2_with fail
  refine (HKEY.out _).mono ?_
  rintro e w1 ⟨rfl, hb1⟩
  have HX1 : Shut (Below w.heap.size w w1) := ⟨Below.then HX.out hb1⟩
  have HR1 : Shut (Row w1 (w.heap.size + 1) [.int .i64 0, .int .u32 0, .int .i64 0]) := ⟨HR0.out.on' hb1⟩
  have HA1 : Shut (RAt base w1 key room b v vL s L own) := ⟨HA0.out.on hb1⟩
  clear hb1 HX HR0 HA0 HKEY
  go_wp2_with fail
  refine (ractive_any HA1.out HL.out).mono ?_
  rintro e w2 ⟨rfl, hw2⟩
  obtain rfl := hw2.symm
  clear hw2
  have z0 := HR1.out.cell 0 _ rfl
  have z1 := HR1.out.cell 1 _ rfl
  have z2 := HR1.out.cell 2 _ rfl
  have f0 := HR1.out.free 0
  have f1 := HR1.out.free 1
  have f2 := HR1.out.free 2
  obtain ⟨R, hR⟩ : ∃ R, w.heap.size + 1 = R := ⟨_, rfl⟩
  have HR4 : Shut (Row (((w1.setCell ⟨R, 0, none⟩ (.int .i64 0)).setCell ⟨R, 1, none⟩ (.int .u32 0)).setCell ⟨R, 2, none⟩ (.int .i64 0)) R [.int .i64 0, .int .u32 0, .int .i64 0]) := ⟨by
    rw [← hR]
    exact ((HR1.out.set 0 (.int .i64 0)).set 1 (.int .u32 0)).set 2 (.int .i64 0)⟩
  have HB4 : Shut (Below w.heap.size w (((w1.setCell ⟨R, 0, none⟩ (.int .i64 0)).setCell ⟨R, 1, none⟩ (.int .u32 0)).setCell ⟨R, 2, none⟩ (.int .i64 0))) := ⟨((HX1.out.setCell (p := ⟨R, 0, none⟩) (by show w.heap.size ≤ R; omega) (.int .i64 0)).setCell (p := ⟨R, 1, none⟩) (by show w.heap.size ≤ R; omega) (.int .u32 0)).setCell (p := ⟨R, 2, none⟩) (by show w.heap.size ≤ R; omega) (.int .i64 0)⟩
  rw [hR] at z0 z1 z2 f0 f1 f2
  simp only [hR]
  have HN : Shut (ok = false ∨ (ok = true ∧ Po.active L = 0)) := ⟨by
    rcases HNO.out with h | h
    · exact .inl h
    · cases ok
      · exact .inl rfl
      · exact .inr ⟨rfl, h⟩⟩
  clear hR HR1 HX1 HA1 HNO
  rcases HN.out with rfl | ⟨rfl, hz⟩
  · clear HN
    go_wp2_with fail
    generalize ((w1.setCell ⟨R, 0, none⟩ (.int .i64 0)).setCell ⟨R, 1, none⟩ (.int .u32 0)).setCell ⟨R, 2, none⟩ (.int .i64 0) = V1 at *
    have d0 := HR4.out.cell 0 _ rfl
    have d1 := HR4.out.cell 1 _ rfl
    have d2 := HR4.out.cell 2 _ rfl
    refine bodyPost_ret (v := .tuple #[noBack, .bool false]) (by unfold noBack; simp [results, Try.results29, go_sem, d0, d1, d2]) rfl ⟨rfl, HB4.out⟩
  · rw [hz]
    clear HN hz
    go_wp2_with fail
    generalize ((w1.setCell ⟨R, 0, none⟩ (.int .i64 0)).setCell ⟨R, 1, none⟩ (.int .u32 0)).setCell ⟨R, 2, none⟩ (.int .i64 0) = V1 at *
    have d0 := HR4.out.cell 0 _ rfl
    have d1 := HR4.out.cell 1 _ rfl
    have d2 := HR4.out.cell 2 _ rfl
    refine bodyPost_ret (v := .tuple #[noBack, .bool false]) (by unfold noBack; simp [results, Try.results29, go_sem, d0, d1, d2]) rfl ⟨rfl, HB4.out⟩
end
end Go.Proofs.Ytckkdgifjgkoaaa
