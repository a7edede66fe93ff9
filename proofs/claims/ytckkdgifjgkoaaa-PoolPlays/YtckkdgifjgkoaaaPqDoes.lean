/- does of the law's package: a deed, on both pools. -/
import Derived.Test.YtckkdgifjgkoaaaPqPair
namespace Go.Proofs.Ytckkdgifjgkoaaa
open Go.ChangeShapes Go.WideShapes Go.ChangeAt Go.RowKit Go.Maps An Sp
set_option linter.unusedVariables false
section
variable {w W : World} {base base' room : Nat} {fx : List (Nat × Obj)} {b : QBk} {v : Value} {c : RBk} {u uL : Value} {p : Pl}
set_option maxRecDepth 100000 in
set_option maxHeartbeats 4000000 in
theorem does_p0 (hP : Pair w base base' room fx W b v c u uL p p) (h1 : 1 ≤ room) (kind id addr port t0 t1 t2 t3 t4 : Int) (hk1 : -9223372036854775808 ≤ kind) (hk2 : kind ≤ 9223372036854775807) (hi : -9223372036854775808 ≤ id ∧ id ≤ 9223372036854775807) (ha : 0 ≤ addr) (ht : Tp.Wf ⟨t0, t1, t2, t3, t4⟩) (hs : ¬ kind < 0) (hR : kind.tmod 7 = 0) :
    Calls Try.prog 11 #[.pointer (some ⟨b.p, 0, none⟩), .pointer (some ⟨c.p, 0, none⟩), .agg #[.int .i64 kind, .int .i64 id, .int .u32 addr, .int .i64 port, .int .i64 t0, .int .u32 t1, .int .u32 t2, .int .i64 t3, .int .i64 t4]] W fun e w' => e = .returned (.bool true) ∧ ∃ v' u' uL' p', Pair w base base' room fx w' b v' c u' uL' p' p' := by
  have h2 := hP.box [.int .i64 kind, .int .i64 id, .int .u32 addr, .int .i64 port, .int .i64 t0, .int .u32 t1, .int .u32 t2, .int .i64 t3, .int .i64 t4] 37
  have h2 : Pair w base base' room ((W.heap.size, Obj.cells #[.int .i64 kind, .int .i64 id, .int .u32 addr, .int .i64 port, .int .i64 t0, .int .u32 t1, .int .u32 t2, .int .i64 t3, .int .i64 t4] 37 (0, 0)) :: fx) (W.alloc (.cells #[.int .i64 kind, .int .i64 id, .int .u32 addr, .int .i64 port, .int .i64 t0, .int .u32 t1, .int .u32 t2, .int .i64 t3, .int .i64 t4] 37)) b v c u uL p p := h2
  have HP2 : Shut _ := ⟨h2⟩
  have HW : Shut (1 ≤ room ∧ (-9223372036854775808 ≤ id ∧ id ≤ 9223372036854775807) ∧ 0 ≤ addr) := ⟨h1, hi, ha⟩
  clear h2 hP h1 hi ha ht
  go_enter Try.func11, Try.ntmps11
  go_wp2_with fail
  obtain ⟨h1, hi, ha⟩ := HW.out
  have h2 := HP2.out
  clear HP2 HW
  obtain ⟨W1, hW1⟩ : ∃ W1, W.alloc (.cells #[.int .i64 kind, .int .i64 id, .int .u32 addr, .int .i64 port, .int .i64 t0, .int .u32 t1, .int .u32 t2, .int .i64 t3, .int .i64 t4] 37) = W1 := ⟨_, rfl⟩
  obtain ⟨T, hT⟩ : ∃ T, W.heap.size = T := ⟨_, rfl⟩
  rw [hW1, hT] at h2
  rw [hW1, hT]
  clear hW1 hT
  obtain ⟨E, hE⟩ : ∃ E, Po.putE room p id port = E := ⟨_, rfl⟩
  obtain ⟨pp, hpp⟩ : ∃ pp, Po.putP room p id addr port = pp := ⟨_, rfl⟩
  obtain ⟨J, hJd⟩ : ∃ J : Bool → Bool → World → Prop, J = fun x y z => ∃ v' u' uL', Pair w base base' room ((T, Obj.cells #[.int .i64 kind, .int .i64 id, .int .u32 addr, .int .i64 port, .int .i64 t0, .int .u32 t1, .int .u32 t2, .int .i64 t3, .int .i64 t4] 37 (0, 0)) :: fx) z b v' c u' uL' (if x = true then pp else p) (if y = true then pp else p) := ⟨_, rfl⟩
  have hcall1 : ∀ z y, J false y z → Calls Try.prog 15 #[.pointer (some ⟨b.p, 0, none⟩), .agg #[.int .i64 id, .int .u32 addr, .int .i64 port]] z fun e z' => e = .returned (.int .i64 E) ∧ J true y z' := by
    rw [hJd]
    rintro z y ⟨v', u', uL', hz⟩
    have hz : Pair w base base' room ((T, Obj.cells #[.int .i64 kind, .int .i64 id, .int .u32 addr, .int .i64 port, .int .i64 t0, .int .u32 t1, .int .u32 t2, .int .i64 t3, .int .i64 t4] 37 (0, 0)) :: fx) z b v' c u' uL' p (if y = true then pp else p) := hz
    refine (hz.putQ id addr port ha).mono ?_
    rintro e z' ⟨rfl, v2, h2⟩
    rw [hpp] at h2
    exact ⟨by rw [hE], v2, u', uL', h2⟩
  have hcall2 : ∀ z x, J x false z → Calls Try.prog 25 #[.pointer (some ⟨c.p, 0, none⟩), .agg #[.int .i64 id, .int .u32 addr, .int .i64 port]] z fun e z' => e = .returned (.int .i64 E) ∧ J x true z' := by
    rw [hJd]
    rintro z x ⟨v', u', uL', hz⟩
    have hz : Pair w base base' room ((T, Obj.cells #[.int .i64 kind, .int .i64 id, .int .u32 addr, .int .i64 port, .int .i64 t0, .int .u32 t1, .int .u32 t2, .int .i64 t3, .int .i64 t4] 37 (0, 0)) :: fx) z b v' c u' uL' (if x = true then pp else p) p := hz
    refine (hz.putR h1 id addr port ha).mono ?_
    rintro e z' ⟨rfl, u2, uL2, h2⟩
    rw [hpp] at h2
    exact ⟨by rw [hE], v', u2, uL2, h2⟩
  have hJ0 : J false false W1.drew := by
    rw [hJd]
    exact ⟨v, u, uL, h2.drew⟩
  clear hE hpp
  refine wp_region_two (by kernel_rfl) [.pointer (some ⟨b.p, 0, none⟩), .pointer (some ⟨T, 1, none⟩), .agg #[.int .i64 id, .int .u32 addr, .int .i64 port], .int .i64 E, .pointer (some ⟨c.p, 0, none⟩), .pointer (some ⟨T, 1, none⟩), .agg #[.int .i64 id, .int .u32 addr, .int .i64 port], .int .i64 E, .bool true, .bool true] 3 7 J (by kernel_rfl) (by decide) (by decide) (by decide) hJ0 ?op ?op1 ?op2 ?fin
  case op =>
    intro i o bx z x y ho hne1 hne2 hJ hS
    rw [hJd] at hJ
    obtain ⟨v', u', uL', hz⟩ := hJ
    have hr := hz.row (l := [.int .i64 kind, .int .i64 id, .int .u32 addr, .int .i64 port, .int .i64 t0, .int .u32 t1, .int .u32 t2, .int .i64 t3, .int .i64 t4]) List.mem_cons_self
    match i, ho with
      | 0, ho =>
        obtain rfl := Option.some.inj ho
        have d0 : bx.tmps.getD 0 undef = .pointer (some ⟨b.p, 0, none⟩) := hS.base 0 (by kernel_rfl)
        refine ⟨rfl, rests_value (c := .pointer (some ⟨b.p, 0, none⟩)) ?_⟩
        simp [execOp, Act.eval, d0]
      | 1, ho =>
        obtain rfl := Option.some.inj ho
        have d5 : bx.tmps.getD 5 undef = .pointer (some ⟨T, 0, none⟩) := hS.base 5 (by kernel_rfl)
        refine ⟨rfl, rests_value (c := .pointer (some ⟨T, 1, none⟩)) ?_⟩
        simp [Act.eval, d5, go_sem]
      | 2, ho =>
        obtain rfl := Option.some.inj ho
        have d : bx.tmps.getD 31 undef = .pointer (some ⟨T, 1, none⟩) := hS.dep 1 31 (by kernel_rfl) (by kernel_rfl)
        have hl1 := hr.cell 1 _ rfl
        have hl2 := hr.cell 2 _ rfl
        have hl3 := hr.cell 3 _ rfl
        refine ⟨rfl, rests_value (c := .agg #[.int .i64 id, .int .u32 addr, .int .i64 port]) ?_⟩
        simp [Act.eval, d, go_sem, hl1, hl2, hl3]
      | 3, ho =>
        obtain rfl := Option.some.inj ho
        exact absurd rfl hne1
      | 4, ho =>
        obtain rfl := Option.some.inj ho
        have d1 : bx.tmps.getD 1 undef = .pointer (some ⟨c.p, 0, none⟩) := hS.base 1 (by kernel_rfl)
        refine ⟨rfl, rests_value (c := .pointer (some ⟨c.p, 0, none⟩)) ?_⟩
        simp [execOp, Act.eval, d1]
      | 5, ho =>
        obtain rfl := Option.some.inj ho
        have d5 : bx.tmps.getD 5 undef = .pointer (some ⟨T, 0, none⟩) := hS.base 5 (by kernel_rfl)
        refine ⟨rfl, rests_value (c := .pointer (some ⟨T, 1, none⟩)) ?_⟩
        simp [Act.eval, d5, go_sem]
      | 6, ho =>
        obtain rfl := Option.some.inj ho
        have d : bx.tmps.getD 35 undef = .pointer (some ⟨T, 1, none⟩) := hS.dep 5 35 (by kernel_rfl) (by kernel_rfl)
        have hl1 := hr.cell 1 _ rfl
        have hl2 := hr.cell 2 _ rfl
        have hl3 := hr.cell 3 _ rfl
        refine ⟨rfl, rests_value (c := .agg #[.int .i64 id, .int .u32 addr, .int .i64 port]) ?_⟩
        simp [Act.eval, d, go_sem, hl1, hl2, hl3]
      | 7, ho =>
        obtain rfl := Option.some.inj ho
        exact absurd rfl hne2
      | 8, ho =>
        obtain rfl := Option.some.inj ho
        have e1 : bx.tmps.getD 33 undef = .int .i64 E := hS.dep 3 33 (by kernel_rfl) (by kernel_rfl)
        have e2 : bx.tmps.getD 37 undef = .int .i64 E := hS.dep 7 37 (by kernel_rfl) (by kernel_rfl)
        refine ⟨rfl, rests_value (c := .bool true) ?_⟩
        simp [Act.eval, e1, e2, go_sem]
      | 9, ho =>
        obtain rfl := Option.some.inj ho
        have e1 : bx.tmps.getD 38 undef = .bool true := hS.dep 8 38 (by kernel_rfl) (by kernel_rfl)
        refine ⟨rfl, rests_value (c := .bool true) ?_⟩
        simp [execOp, Act.eval, e1]
      | n + 10, ho => exact absurd ho (by simp)
  case op1 =>
    intro o bx z y ho hJ hS
    obtain rfl := Option.some.inj ho
    have d30 : bx.tmps.getD 30 undef = .pointer (some ⟨b.p, 0, none⟩) := hS.dep 0 30 (by kernel_rfl) (by kernel_rfl)
    have d32 : bx.tmps.getD 32 undef = .agg #[.int .i64 id, .int .u32 addr, .int .i64 port] := hS.dep 2 32 (by kernel_rfl) (by kernel_rfl)
    have hcall := hcall1 z y hJ
    refine ⟨rfl, yieldsY_call (f := 15) (args := #[.pointer (some ⟨b.p, 0, none⟩), .agg #[.int .i64 id, .int .u32 addr, .int .i64 port]]) (u := z) ?_ (hcall.mono fun e z' h => ⟨_, h.1, rfl, h.2⟩) (K := fun v z' => v = .int .i64 E ∧ J true y z') (fun v z' h => h)⟩
    simp [Act.eval, d30, d32, go_sem]
  case op2 =>
    intro o bx z y ho hJ hS
    obtain rfl := Option.some.inj ho
    have d34 : bx.tmps.getD 34 undef = .pointer (some ⟨c.p, 0, none⟩) := hS.dep 4 34 (by kernel_rfl) (by kernel_rfl)
    have d36 : bx.tmps.getD 36 undef = .agg #[.int .i64 id, .int .u32 addr, .int .i64 port] := hS.dep 6 36 (by kernel_rfl) (by kernel_rfl)
    have hcall := hcall2 z y hJ
    refine ⟨rfl, yieldsY_call (f := 25) (args := #[.pointer (some ⟨c.p, 0, none⟩), .agg #[.int .i64 id, .int .u32 addr, .int .i64 port]]) (u := z) ?_ (hcall.mono fun e z' h => ⟨_, h.1, rfl, h.2⟩) (K := fun v z' => v = .int .i64 E ∧ J y true z') (fun v z' h => h)⟩
    simp [Act.eval, d34, d36, go_sem]
  case fin =>
    rintro z hz
    rw [hJd] at hz
    obtain ⟨v', u', uL', hz⟩ := hz
    simp only [if_true] at hz
    have HZ : Shut _ := ⟨hz⟩
    clear hz
    simp [putAll, dstAt, Act.put]
    go_wp2_with fail
    go_ret
    exact ⟨rfl, v', u', uL', _, HZ.out.less (fun f hf => List.mem_cons_of_mem _ hf)⟩
set_option maxRecDepth 100000 in
set_option maxHeartbeats 4000000 in
theorem does_p1 (hP : Pair w base base' room fx W b v c u uL p p) (h1 : 1 ≤ room) (kind id addr port t0 t1 t2 t3 t4 : Int) (hk1 : -9223372036854775808 ≤ kind) (hk2 : kind ≤ 9223372036854775807) (hi : -9223372036854775808 ≤ id ∧ id ≤ 9223372036854775807) (ha : 0 ≤ addr) (ht : Tp.Wf ⟨t0, t1, t2, t3, t4⟩) (hs : ¬ kind < 0) (hR : kind.tmod 7 = 1) :
    Calls Try.prog 11 #[.pointer (some ⟨b.p, 0, none⟩), .pointer (some ⟨c.p, 0, none⟩), .agg #[.int .i64 kind, .int .i64 id, .int .u32 addr, .int .i64 port, .int .i64 t0, .int .u32 t1, .int .u32 t2, .int .i64 t3, .int .i64 t4]] W fun e w' => e = .returned (.bool true) ∧ ∃ v' u' uL' p', Pair w base base' room fx w' b v' c u' uL' p' p' := by
  have h2 := hP.box [.int .i64 kind, .int .i64 id, .int .u32 addr, .int .i64 port, .int .i64 t0, .int .u32 t1, .int .u32 t2, .int .i64 t3, .int .i64 t4] 37
  have h2 : Pair w base base' room ((W.heap.size, Obj.cells #[.int .i64 kind, .int .i64 id, .int .u32 addr, .int .i64 port, .int .i64 t0, .int .u32 t1, .int .u32 t2, .int .i64 t3, .int .i64 t4] 37 (0, 0)) :: fx) (W.alloc (.cells #[.int .i64 kind, .int .i64 id, .int .u32 addr, .int .i64 port, .int .i64 t0, .int .u32 t1, .int .u32 t2, .int .i64 t3, .int .i64 t4] 37)) b v c u uL p p := h2
  have HP2 : Shut _ := ⟨h2⟩
  have HW : Shut (1 ≤ room ∧ (-9223372036854775808 ≤ id ∧ id ≤ 9223372036854775807) ∧ 0 ≤ addr) := ⟨h1, hi, ha⟩
  clear h2 hP h1 hi ha ht
  go_enter Try.func11, Try.ntmps11
  go_wp2_with fail
  obtain ⟨h1, hi, ha⟩ := HW.out
  have h2 := HP2.out
  clear HP2 HW
  obtain ⟨W1, hW1⟩ : ∃ W1, W.alloc (.cells #[.int .i64 kind, .int .i64 id, .int .u32 addr, .int .i64 port, .int .i64 t0, .int .u32 t1, .int .u32 t2, .int .i64 t3, .int .i64 t4] 37) = W1 := ⟨_, rfl⟩
  obtain ⟨T, hT⟩ : ∃ T, W.heap.size = T := ⟨_, rfl⟩
  rw [hW1, hT] at h2
  rw [hW1, hT]
  clear hW1 hT
  obtain ⟨E, hE⟩ : ∃ E, Po.putE room p id port = E := ⟨_, rfl⟩
  obtain ⟨pp, hpp⟩ : ∃ pp, Po.putP room p id addr port = pp := ⟨_, rfl⟩
  obtain ⟨J, hJd⟩ : ∃ J : Bool → Bool → World → Prop, J = fun x y z => ∃ v' u' uL', Pair w base base' room ((T, Obj.cells #[.int .i64 kind, .int .i64 id, .int .u32 addr, .int .i64 port, .int .i64 t0, .int .u32 t1, .int .u32 t2, .int .i64 t3, .int .i64 t4] 37 (0, 0)) :: fx) z b v' c u' uL' (if x = true then pp else p) (if y = true then pp else p) := ⟨_, rfl⟩
  have hcall1 : ∀ z y, J false y z → Calls Try.prog 15 #[.pointer (some ⟨b.p, 0, none⟩), .agg #[.int .i64 id, .int .u32 addr, .int .i64 port]] z fun e z' => e = .returned (.int .i64 E) ∧ J true y z' := by
    rw [hJd]
    rintro z y ⟨v', u', uL', hz⟩
    have hz : Pair w base base' room ((T, Obj.cells #[.int .i64 kind, .int .i64 id, .int .u32 addr, .int .i64 port, .int .i64 t0, .int .u32 t1, .int .u32 t2, .int .i64 t3, .int .i64 t4] 37 (0, 0)) :: fx) z b v' c u' uL' p (if y = true then pp else p) := hz
    refine (hz.putQ id addr port ha).mono ?_
    rintro e z' ⟨rfl, v2, h2⟩
    rw [hpp] at h2
    exact ⟨by rw [hE], v2, u', uL', h2⟩
  have hcall2 : ∀ z x, J x false z → Calls Try.prog 25 #[.pointer (some ⟨c.p, 0, none⟩), .agg #[.int .i64 id, .int .u32 addr, .int .i64 port]] z fun e z' => e = .returned (.int .i64 E) ∧ J x true z' := by
    rw [hJd]
    rintro z x ⟨v', u', uL', hz⟩
    have hz : Pair w base base' room ((T, Obj.cells #[.int .i64 kind, .int .i64 id, .int .u32 addr, .int .i64 port, .int .i64 t0, .int .u32 t1, .int .u32 t2, .int .i64 t3, .int .i64 t4] 37 (0, 0)) :: fx) z b v' c u' uL' (if x = true then pp else p) p := hz
    refine (hz.putR h1 id addr port ha).mono ?_
    rintro e z' ⟨rfl, u2, uL2, h2⟩
    rw [hpp] at h2
    exact ⟨by rw [hE], v', u2, uL2, h2⟩
  have hJ0 : J false false W1.drew := by
    rw [hJd]
    exact ⟨v, u, uL, h2.drew⟩
  clear hE hpp
  refine wp_region_two (by kernel_rfl) [.pointer (some ⟨b.p, 0, none⟩), .pointer (some ⟨T, 1, none⟩), .agg #[.int .i64 id, .int .u32 addr, .int .i64 port], .int .i64 E, .pointer (some ⟨c.p, 0, none⟩), .pointer (some ⟨T, 1, none⟩), .agg #[.int .i64 id, .int .u32 addr, .int .i64 port], .int .i64 E, .bool true, .bool true] 3 7 J (by kernel_rfl) (by decide) (by decide) (by decide) hJ0 ?op ?op1 ?op2 ?fin
  case op =>
    intro i o bx z x y ho hne1 hne2 hJ hS
    rw [hJd] at hJ
    obtain ⟨v', u', uL', hz⟩ := hJ
    have hr := hz.row (l := [.int .i64 kind, .int .i64 id, .int .u32 addr, .int .i64 port, .int .i64 t0, .int .u32 t1, .int .u32 t2, .int .i64 t3, .int .i64 t4]) List.mem_cons_self
    match i, ho with
      | 0, ho =>
        obtain rfl := Option.some.inj ho
        have d0 : bx.tmps.getD 0 undef = .pointer (some ⟨b.p, 0, none⟩) := hS.base 0 (by kernel_rfl)
        refine ⟨rfl, rests_value (c := .pointer (some ⟨b.p, 0, none⟩)) ?_⟩
        simp [execOp, Act.eval, d0]
      | 1, ho =>
        obtain rfl := Option.some.inj ho
        have d5 : bx.tmps.getD 5 undef = .pointer (some ⟨T, 0, none⟩) := hS.base 5 (by kernel_rfl)
        refine ⟨rfl, rests_value (c := .pointer (some ⟨T, 1, none⟩)) ?_⟩
        simp [Act.eval, d5, go_sem]
      | 2, ho =>
        obtain rfl := Option.some.inj ho
        have d : bx.tmps.getD 31 undef = .pointer (some ⟨T, 1, none⟩) := hS.dep 1 31 (by kernel_rfl) (by kernel_rfl)
        have hl1 := hr.cell 1 _ rfl
        have hl2 := hr.cell 2 _ rfl
        have hl3 := hr.cell 3 _ rfl
        refine ⟨rfl, rests_value (c := .agg #[.int .i64 id, .int .u32 addr, .int .i64 port]) ?_⟩
        simp [Act.eval, d, go_sem, hl1, hl2, hl3]
      | 3, ho =>
        obtain rfl := Option.some.inj ho
        exact absurd rfl hne1
      | 4, ho =>
        obtain rfl := Option.some.inj ho
        have d1 : bx.tmps.getD 1 undef = .pointer (some ⟨c.p, 0, none⟩) := hS.base 1 (by kernel_rfl)
        refine ⟨rfl, rests_value (c := .pointer (some ⟨c.p, 0, none⟩)) ?_⟩
        simp [execOp, Act.eval, d1]
      | 5, ho =>
        obtain rfl := Option.some.inj ho
        have d5 : bx.tmps.getD 5 undef = .pointer (some ⟨T, 0, none⟩) := hS.base 5 (by kernel_rfl)
        refine ⟨rfl, rests_value (c := .pointer (some ⟨T, 1, none⟩)) ?_⟩
        simp [Act.eval, d5, go_sem]
      | 6, ho =>
        obtain rfl := Option.some.inj ho
        have d : bx.tmps.getD 35 undef = .pointer (some ⟨T, 1, none⟩) := hS.dep 5 35 (by kernel_rfl) (by kernel_rfl)
        have hl1 := hr.cell 1 _ rfl
        have hl2 := hr.cell 2 _ rfl
        have hl3 := hr.cell 3 _ rfl
        refine ⟨rfl, rests_value (c := .agg #[.int .i64 id, .int .u32 addr, .int .i64 port]) ?_⟩
        simp [Act.eval, d, go_sem, hl1, hl2, hl3]
      | 7, ho =>
        obtain rfl := Option.some.inj ho
        exact absurd rfl hne2
      | 8, ho =>
        obtain rfl := Option.some.inj ho
        have e1 : bx.tmps.getD 33 undef = .int .i64 E := hS.dep 3 33 (by kernel_rfl) (by kernel_rfl)
        have e2 : bx.tmps.getD 37 undef = .int .i64 E := hS.dep 7 37 (by kernel_rfl) (by kernel_rfl)
        refine ⟨rfl, rests_value (c := .bool true) ?_⟩
        simp [Act.eval, e1, e2, go_sem]
      | 9, ho =>
        obtain rfl := Option.some.inj ho
        have e1 : bx.tmps.getD 38 undef = .bool true := hS.dep 8 38 (by kernel_rfl) (by kernel_rfl)
        refine ⟨rfl, rests_value (c := .bool true) ?_⟩
        simp [execOp, Act.eval, e1]
      | n + 10, ho => exact absurd ho (by simp)
  case op1 =>
    intro o bx z y ho hJ hS
    obtain rfl := Option.some.inj ho
    have d30 : bx.tmps.getD 30 undef = .pointer (some ⟨b.p, 0, none⟩) := hS.dep 0 30 (by kernel_rfl) (by kernel_rfl)
    have d32 : bx.tmps.getD 32 undef = .agg #[.int .i64 id, .int .u32 addr, .int .i64 port] := hS.dep 2 32 (by kernel_rfl) (by kernel_rfl)
    have hcall := hcall1 z y hJ
    refine ⟨rfl, yieldsY_call (f := 15) (args := #[.pointer (some ⟨b.p, 0, none⟩), .agg #[.int .i64 id, .int .u32 addr, .int .i64 port]]) (u := z) ?_ (hcall.mono fun e z' h => ⟨_, h.1, rfl, h.2⟩) (K := fun v z' => v = .int .i64 E ∧ J true y z') (fun v z' h => h)⟩
    simp [Act.eval, d30, d32, go_sem]
  case op2 =>
    intro o bx z y ho hJ hS
    obtain rfl := Option.some.inj ho
    have d34 : bx.tmps.getD 34 undef = .pointer (some ⟨c.p, 0, none⟩) := hS.dep 4 34 (by kernel_rfl) (by kernel_rfl)
    have d36 : bx.tmps.getD 36 undef = .agg #[.int .i64 id, .int .u32 addr, .int .i64 port] := hS.dep 6 36 (by kernel_rfl) (by kernel_rfl)
    have hcall := hcall2 z y hJ
    refine ⟨rfl, yieldsY_call (f := 25) (args := #[.pointer (some ⟨c.p, 0, none⟩), .agg #[.int .i64 id, .int .u32 addr, .int .i64 port]]) (u := z) ?_ (hcall.mono fun e z' h => ⟨_, h.1, rfl, h.2⟩) (K := fun v z' => v = .int .i64 E ∧ J y true z') (fun v z' h => h)⟩
    simp [Act.eval, d34, d36, go_sem]
  case fin =>
    rintro z hz
    rw [hJd] at hz
    obtain ⟨v', u', uL', hz⟩ := hz
    simp only [if_true] at hz
    have HZ : Shut _ := ⟨hz⟩
    clear hz
    simp [putAll, dstAt, Act.put]
    go_wp2_with fail
    go_ret
    exact ⟨rfl, v', u', uL', _, HZ.out.less (fun f hf => List.mem_cons_of_mem _ hf)⟩
set_option maxRecDepth 100000 in
set_option maxHeartbeats 4000000 in
theorem does_p2 (hP : Pair w base base' room fx W b v c u uL p p) (h1 : 1 ≤ room) (kind id addr port t0 t1 t2 t3 t4 : Int) (hk1 : -9223372036854775808 ≤ kind) (hk2 : kind ≤ 9223372036854775807) (hi : -9223372036854775808 ≤ id ∧ id ≤ 9223372036854775807) (ha : 0 ≤ addr) (ht : Tp.Wf ⟨t0, t1, t2, t3, t4⟩) (hs : ¬ kind < 0) (hR : kind.tmod 7 = 2) :
    Calls Try.prog 11 #[.pointer (some ⟨b.p, 0, none⟩), .pointer (some ⟨c.p, 0, none⟩), .agg #[.int .i64 kind, .int .i64 id, .int .u32 addr, .int .i64 port, .int .i64 t0, .int .u32 t1, .int .u32 t2, .int .i64 t3, .int .i64 t4]] W fun e w' => e = .returned (.bool true) ∧ ∃ v' u' uL' p', Pair w base base' room fx w' b v' c u' uL' p' p' := by
  have h2 := hP.box [.int .i64 kind, .int .i64 id, .int .u32 addr, .int .i64 port, .int .i64 t0, .int .u32 t1, .int .u32 t2, .int .i64 t3, .int .i64 t4] 37
  have h2 : Pair w base base' room ((W.heap.size, Obj.cells #[.int .i64 kind, .int .i64 id, .int .u32 addr, .int .i64 port, .int .i64 t0, .int .u32 t1, .int .u32 t2, .int .i64 t3, .int .i64 t4] 37 (0, 0)) :: fx) (W.alloc (.cells #[.int .i64 kind, .int .i64 id, .int .u32 addr, .int .i64 port, .int .i64 t0, .int .u32 t1, .int .u32 t2, .int .i64 t3, .int .i64 t4] 37)) b v c u uL p p := h2
  have HP2 : Shut _ := ⟨h2⟩
  have HW : Shut (1 ≤ room ∧ (-9223372036854775808 ≤ id ∧ id ≤ 9223372036854775807) ∧ 0 ≤ addr) := ⟨h1, hi, ha⟩
  clear h2 hP h1 hi ha ht
  go_enter Try.func11, Try.ntmps11
  go_wp2_with fail
  obtain ⟨h1, hi, ha⟩ := HW.out
  have h2 := HP2.out
  clear HP2 HW
  obtain ⟨W1, hW1⟩ : ∃ W1, W.alloc (.cells #[.int .i64 kind, .int .i64 id, .int .u32 addr, .int .i64 port, .int .i64 t0, .int .u32 t1, .int .u32 t2, .int .i64 t3, .int .i64 t4] 37) = W1 := ⟨_, rfl⟩
  obtain ⟨T, hT⟩ : ∃ T, W.heap.size = T := ⟨_, rfl⟩
  rw [hW1, hT] at h2
  rw [hW1, hT]
  clear hW1 hT
  obtain ⟨E, hE⟩ : ∃ E, Po.drainE p id = E := ⟨_, rfl⟩
  obtain ⟨pp, hpp⟩ : ∃ pp, Po.drainP p id = pp := ⟨_, rfl⟩
  obtain ⟨J, hJd⟩ : ∃ J : Bool → Bool → World → Prop, J = fun x y z => ∃ v' u' uL', Pair w base base' room ((T, Obj.cells #[.int .i64 kind, .int .i64 id, .int .u32 addr, .int .i64 port, .int .i64 t0, .int .u32 t1, .int .u32 t2, .int .i64 t3, .int .i64 t4] 37 (0, 0)) :: fx) z b v' c u' uL' (if x = true then pp else p) (if y = true then pp else p) := ⟨_, rfl⟩
  have hcall1 : ∀ z y, J false y z → Calls Try.prog 18 #[.pointer (some ⟨b.p, 0, none⟩), .int .i64 id] z fun e z' => e = .returned (.int .i64 E) ∧ J true y z' := by
    rw [hJd]
    rintro z y ⟨v', u', uL', hz⟩
    have hz : Pair w base base' room ((T, Obj.cells #[.int .i64 kind, .int .i64 id, .int .u32 addr, .int .i64 port, .int .i64 t0, .int .u32 t1, .int .u32 t2, .int .i64 t3, .int .i64 t4] 37 (0, 0)) :: fx) z b v' c u' uL' p (if y = true then pp else p) := hz
    refine (hz.drainQ id hi).mono ?_
    rintro e z' ⟨rfl, v2, h2⟩
    rw [hpp] at h2
    exact ⟨by rw [hE], v2, u', uL', h2⟩
  have hcall2 : ∀ z x, J x false z → Calls Try.prog 26 #[.pointer (some ⟨c.p, 0, none⟩), .int .i64 id] z fun e z' => e = .returned (.int .i64 E) ∧ J x true z' := by
    rw [hJd]
    rintro z x ⟨v', u', uL', hz⟩
    have hz : Pair w base base' room ((T, Obj.cells #[.int .i64 kind, .int .i64 id, .int .u32 addr, .int .i64 port, .int .i64 t0, .int .u32 t1, .int .u32 t2, .int .i64 t3, .int .i64 t4] 37 (0, 0)) :: fx) z b v' c u' uL' (if x = true then pp else p) p := hz
    refine (hz.drainR id).mono ?_
    rintro e z' ⟨rfl, u2, uL2, h2⟩
    rw [hpp] at h2
    exact ⟨by rw [hE], v', u2, uL2, h2⟩
  have hJ0 : J false false W1.drew := by
    rw [hJd]
    exact ⟨v, u, uL, h2.drew⟩
  clear hE hpp
  refine wp_region_two (by kernel_rfl) [.pointer (some ⟨b.p, 0, none⟩), .pointer (some ⟨T, 1, none⟩), .pointer (some ⟨T, 1, none⟩), .int .i64 id, .int .i64 E, .pointer (some ⟨c.p, 0, none⟩), .pointer (some ⟨T, 1, none⟩), .pointer (some ⟨T, 1, none⟩), .int .i64 id, .int .i64 E, .bool true, .bool true] 4 9 J (by kernel_rfl) (by decide) (by decide) (by decide) hJ0 ?op ?op1 ?op2 ?fin
  case op =>
    intro i o bx z x y ho hne1 hne2 hJ hS
    rw [hJd] at hJ
    obtain ⟨v', u', uL', hz⟩ := hJ
    have hr := hz.row (l := [.int .i64 kind, .int .i64 id, .int .u32 addr, .int .i64 port, .int .i64 t0, .int .u32 t1, .int .u32 t2, .int .i64 t3, .int .i64 t4]) List.mem_cons_self
    match i, ho with
      | 0, ho =>
        obtain rfl := Option.some.inj ho
        have d0 : bx.tmps.getD 0 undef = .pointer (some ⟨b.p, 0, none⟩) := hS.base 0 (by kernel_rfl)
        refine ⟨rfl, rests_value (c := .pointer (some ⟨b.p, 0, none⟩)) ?_⟩
        simp [execOp, Act.eval, d0]
      | 1, ho =>
        obtain rfl := Option.some.inj ho
        have d5 : bx.tmps.getD 5 undef = .pointer (some ⟨T, 0, none⟩) := hS.base 5 (by kernel_rfl)
        refine ⟨rfl, rests_value (c := .pointer (some ⟨T, 1, none⟩)) ?_⟩
        simp [Act.eval, d5, go_sem]
      | 2, ho =>
        obtain rfl := Option.some.inj ho
        have d : bx.tmps.getD 42 undef = .pointer (some ⟨T, 1, none⟩) := hS.dep 1 42 (by kernel_rfl) (by kernel_rfl)
        refine ⟨rfl, rests_value (c := .pointer (some ⟨T, 1, none⟩)) ?_⟩
        simp [Act.eval, d, go_sem]
      | 3, ho =>
        obtain rfl := Option.some.inj ho
        have d : bx.tmps.getD 43 undef = .pointer (some ⟨T, 1, none⟩) := hS.dep 2 43 (by kernel_rfl) (by kernel_rfl)
        have hl1 := hr.cell 1 _ rfl
        refine ⟨rfl, rests_value (c := .int .i64 id) ?_⟩
        simp [Act.eval, d, go_sem, hl1]
      | 4, ho =>
        obtain rfl := Option.some.inj ho
        exact absurd rfl hne1
      | 5, ho =>
        obtain rfl := Option.some.inj ho
        have d1 : bx.tmps.getD 1 undef = .pointer (some ⟨c.p, 0, none⟩) := hS.base 1 (by kernel_rfl)
        refine ⟨rfl, rests_value (c := .pointer (some ⟨c.p, 0, none⟩)) ?_⟩
        simp [execOp, Act.eval, d1]
      | 6, ho =>
        obtain rfl := Option.some.inj ho
        have d5 : bx.tmps.getD 5 undef = .pointer (some ⟨T, 0, none⟩) := hS.base 5 (by kernel_rfl)
        refine ⟨rfl, rests_value (c := .pointer (some ⟨T, 1, none⟩)) ?_⟩
        simp [Act.eval, d5, go_sem]
      | 7, ho =>
        obtain rfl := Option.some.inj ho
        have d : bx.tmps.getD 47 undef = .pointer (some ⟨T, 1, none⟩) := hS.dep 6 47 (by kernel_rfl) (by kernel_rfl)
        refine ⟨rfl, rests_value (c := .pointer (some ⟨T, 1, none⟩)) ?_⟩
        simp [Act.eval, d, go_sem]
      | 8, ho =>
        obtain rfl := Option.some.inj ho
        have d : bx.tmps.getD 48 undef = .pointer (some ⟨T, 1, none⟩) := hS.dep 7 48 (by kernel_rfl) (by kernel_rfl)
        have hl1 := hr.cell 1 _ rfl
        refine ⟨rfl, rests_value (c := .int .i64 id) ?_⟩
        simp [Act.eval, d, go_sem, hl1]
      | 9, ho =>
        obtain rfl := Option.some.inj ho
        exact absurd rfl hne2
      | 10, ho =>
        obtain rfl := Option.some.inj ho
        have e1 : bx.tmps.getD 45 undef = .int .i64 E := hS.dep 4 45 (by kernel_rfl) (by kernel_rfl)
        have e2 : bx.tmps.getD 50 undef = .int .i64 E := hS.dep 9 50 (by kernel_rfl) (by kernel_rfl)
        refine ⟨rfl, rests_value (c := .bool true) ?_⟩
        simp [Act.eval, e1, e2, go_sem]
      | 11, ho =>
        obtain rfl := Option.some.inj ho
        have e1 : bx.tmps.getD 51 undef = .bool true := hS.dep 10 51 (by kernel_rfl) (by kernel_rfl)
        refine ⟨rfl, rests_value (c := .bool true) ?_⟩
        simp [execOp, Act.eval, e1]
      | n + 12, ho => exact absurd ho (by simp)
  case op1 =>
    intro o bx z y ho hJ hS
    obtain rfl := Option.some.inj ho
    have d41 : bx.tmps.getD 41 undef = .pointer (some ⟨b.p, 0, none⟩) := hS.dep 0 41 (by kernel_rfl) (by kernel_rfl)
    have d44 : bx.tmps.getD 44 undef = .int .i64 id := hS.dep 3 44 (by kernel_rfl) (by kernel_rfl)
    have hcall := hcall1 z y hJ
    refine ⟨rfl, yieldsY_call (f := 18) (args := #[.pointer (some ⟨b.p, 0, none⟩), .int .i64 id]) (u := z) ?_ (hcall.mono fun e z' h => ⟨_, h.1, rfl, h.2⟩) (K := fun v z' => v = .int .i64 E ∧ J true y z') (fun v z' h => h)⟩
    simp [Act.eval, d41, d44, go_sem]
  case op2 =>
    intro o bx z y ho hJ hS
    obtain rfl := Option.some.inj ho
    have d46 : bx.tmps.getD 46 undef = .pointer (some ⟨c.p, 0, none⟩) := hS.dep 5 46 (by kernel_rfl) (by kernel_rfl)
    have d49 : bx.tmps.getD 49 undef = .int .i64 id := hS.dep 8 49 (by kernel_rfl) (by kernel_rfl)
    have hcall := hcall2 z y hJ
    refine ⟨rfl, yieldsY_call (f := 26) (args := #[.pointer (some ⟨c.p, 0, none⟩), .int .i64 id]) (u := z) ?_ (hcall.mono fun e z' h => ⟨_, h.1, rfl, h.2⟩) (K := fun v z' => v = .int .i64 E ∧ J y true z') (fun v z' h => h)⟩
    simp [Act.eval, d46, d49, go_sem]
  case fin =>
    rintro z hz
    rw [hJd] at hz
    obtain ⟨v', u', uL', hz⟩ := hz
    simp only [if_true] at hz
    have HZ : Shut _ := ⟨hz⟩
    clear hz
    simp [putAll, dstAt, Act.put]
    go_wp2_with fail
    go_ret
    exact ⟨rfl, v', u', uL', _, HZ.out.less (fun f hf => List.mem_cons_of_mem _ hf)⟩
set_option maxRecDepth 100000 in
set_option maxHeartbeats 4000000 in
theorem does_p3 (hP : Pair w base base' room fx W b v c u uL p p) (h1 : 1 ≤ room) (kind id addr port t0 t1 t2 t3 t4 : Int) (hk1 : -9223372036854775808 ≤ kind) (hk2 : kind ≤ 9223372036854775807) (hi : -9223372036854775808 ≤ id ∧ id ≤ 9223372036854775807) (ha : 0 ≤ addr) (ht : Tp.Wf ⟨t0, t1, t2, t3, t4⟩) (hs : ¬ kind < 0) (hR : kind.tmod 7 = 3) :
    Calls Try.prog 11 #[.pointer (some ⟨b.p, 0, none⟩), .pointer (some ⟨c.p, 0, none⟩), .agg #[.int .i64 kind, .int .i64 id, .int .u32 addr, .int .i64 port, .int .i64 t0, .int .u32 t1, .int .u32 t2, .int .i64 t3, .int .i64 t4]] W fun e w' => e = .returned (.bool true) ∧ ∃ v' u' uL' p', Pair w base base' room fx w' b v' c u' uL' p' p' := by
  have h2 := hP.box [.int .i64 kind, .int .i64 id, .int .u32 addr, .int .i64 port, .int .i64 t0, .int .u32 t1, .int .u32 t2, .int .i64 t3, .int .i64 t4] 37
  have h2 : Pair w base base' room ((W.heap.size, Obj.cells #[.int .i64 kind, .int .i64 id, .int .u32 addr, .int .i64 port, .int .i64 t0, .int .u32 t1, .int .u32 t2, .int .i64 t3, .int .i64 t4] 37 (0, 0)) :: fx) (W.alloc (.cells #[.int .i64 kind, .int .i64 id, .int .u32 addr, .int .i64 port, .int .i64 t0, .int .u32 t1, .int .u32 t2, .int .i64 t3, .int .i64 t4] 37)) b v c u uL p p := h2
  have HP2 : Shut _ := ⟨h2⟩
  have HW : Shut (1 ≤ room ∧ (-9223372036854775808 ≤ id ∧ id ≤ 9223372036854775807) ∧ 0 ≤ addr) := ⟨h1, hi, ha⟩
  clear h2 hP h1 hi ha ht
  go_enter Try.func11, Try.ntmps11
  go_wp2_with fail
  obtain ⟨h1, hi, ha⟩ := HW.out
  have h2 := HP2.out
  clear HP2 HW
  obtain ⟨W1, hW1⟩ : ∃ W1, W.alloc (.cells #[.int .i64 kind, .int .i64 id, .int .u32 addr, .int .i64 port, .int .i64 t0, .int .u32 t1, .int .u32 t2, .int .i64 t3, .int .i64 t4] 37) = W1 := ⟨_, rfl⟩
  obtain ⟨T, hT⟩ : ∃ T, W.heap.size = T := ⟨_, rfl⟩
  rw [hW1, hT] at h2
  rw [hW1, hT]
  clear hW1 hT
  obtain ⟨E, hE⟩ : ∃ E, Po.goneE p id = E := ⟨_, rfl⟩
  obtain ⟨pp, hpp⟩ : ∃ pp, Po.goneP p id = pp := ⟨_, rfl⟩
  obtain ⟨J, hJd⟩ : ∃ J : Bool → Bool → World → Prop, J = fun x y z => ∃ v' u' uL', Pair w base base' room ((T, Obj.cells #[.int .i64 kind, .int .i64 id, .int .u32 addr, .int .i64 port, .int .i64 t0, .int .u32 t1, .int .u32 t2, .int .i64 t3, .int .i64 t4] 37 (0, 0)) :: fx) z b v' c u' uL' (if x = true then pp else p) (if y = true then pp else p) := ⟨_, rfl⟩
  have hcall1 : ∀ z y, J false y z → Calls Try.prog 19 #[.pointer (some ⟨b.p, 0, none⟩), .int .i64 id] z fun e z' => e = .returned (.int .i64 E) ∧ J true y z' := by
    rw [hJd]
    rintro z y ⟨v', u', uL', hz⟩
    have hz : Pair w base base' room ((T, Obj.cells #[.int .i64 kind, .int .i64 id, .int .u32 addr, .int .i64 port, .int .i64 t0, .int .u32 t1, .int .u32 t2, .int .i64 t3, .int .i64 t4] 37 (0, 0)) :: fx) z b v' c u' uL' p (if y = true then pp else p) := hz
    refine (hz.goneQ id hi).mono ?_
    rintro e z' ⟨rfl, v2, h2⟩
    rw [hpp] at h2
    exact ⟨by rw [hE], v2, u', uL', h2⟩
  have hcall2 : ∀ z x, J x false z → Calls Try.prog 27 #[.pointer (some ⟨c.p, 0, none⟩), .int .i64 id] z fun e z' => e = .returned (.int .i64 E) ∧ J x true z' := by
    rw [hJd]
    rintro z x ⟨v', u', uL', hz⟩
    have hz : Pair w base base' room ((T, Obj.cells #[.int .i64 kind, .int .i64 id, .int .u32 addr, .int .i64 port, .int .i64 t0, .int .u32 t1, .int .u32 t2, .int .i64 t3, .int .i64 t4] 37 (0, 0)) :: fx) z b v' c u' uL' (if x = true then pp else p) p := hz
    refine (hz.goneR id).mono ?_
    rintro e z' ⟨rfl, u2, uL2, h2⟩
    rw [hpp] at h2
    exact ⟨by rw [hE], v', u2, uL2, h2⟩
  have hJ0 : J false false W1.drew := by
    rw [hJd]
    exact ⟨v, u, uL, h2.drew⟩
  clear hE hpp
  refine wp_region_two (by kernel_rfl) [.pointer (some ⟨b.p, 0, none⟩), .pointer (some ⟨T, 1, none⟩), .pointer (some ⟨T, 1, none⟩), .int .i64 id, .int .i64 E, .pointer (some ⟨c.p, 0, none⟩), .pointer (some ⟨T, 1, none⟩), .pointer (some ⟨T, 1, none⟩), .int .i64 id, .int .i64 E, .bool true, .bool true] 4 9 J (by kernel_rfl) (by decide) (by decide) (by decide) hJ0 ?op ?op1 ?op2 ?fin
  case op =>
    intro i o bx z x y ho hne1 hne2 hJ hS
    rw [hJd] at hJ
    obtain ⟨v', u', uL', hz⟩ := hJ
    have hr := hz.row (l := [.int .i64 kind, .int .i64 id, .int .u32 addr, .int .i64 port, .int .i64 t0, .int .u32 t1, .int .u32 t2, .int .i64 t3, .int .i64 t4]) List.mem_cons_self
    match i, ho with
      | 0, ho =>
        obtain rfl := Option.some.inj ho
        have d0 : bx.tmps.getD 0 undef = .pointer (some ⟨b.p, 0, none⟩) := hS.base 0 (by kernel_rfl)
        refine ⟨rfl, rests_value (c := .pointer (some ⟨b.p, 0, none⟩)) ?_⟩
        simp [execOp, Act.eval, d0]
      | 1, ho =>
        obtain rfl := Option.some.inj ho
        have d5 : bx.tmps.getD 5 undef = .pointer (some ⟨T, 0, none⟩) := hS.base 5 (by kernel_rfl)
        refine ⟨rfl, rests_value (c := .pointer (some ⟨T, 1, none⟩)) ?_⟩
        simp [Act.eval, d5, go_sem]
      | 2, ho =>
        obtain rfl := Option.some.inj ho
        have d : bx.tmps.getD 55 undef = .pointer (some ⟨T, 1, none⟩) := hS.dep 1 55 (by kernel_rfl) (by kernel_rfl)
        refine ⟨rfl, rests_value (c := .pointer (some ⟨T, 1, none⟩)) ?_⟩
        simp [Act.eval, d, go_sem]
      | 3, ho =>
        obtain rfl := Option.some.inj ho
        have d : bx.tmps.getD 56 undef = .pointer (some ⟨T, 1, none⟩) := hS.dep 2 56 (by kernel_rfl) (by kernel_rfl)
        have hl1 := hr.cell 1 _ rfl
        refine ⟨rfl, rests_value (c := .int .i64 id) ?_⟩
        simp [Act.eval, d, go_sem, hl1]
      | 4, ho =>
        obtain rfl := Option.some.inj ho
        exact absurd rfl hne1
      | 5, ho =>
        obtain rfl := Option.some.inj ho
        have d1 : bx.tmps.getD 1 undef = .pointer (some ⟨c.p, 0, none⟩) := hS.base 1 (by kernel_rfl)
        refine ⟨rfl, rests_value (c := .pointer (some ⟨c.p, 0, none⟩)) ?_⟩
        simp [execOp, Act.eval, d1]
      | 6, ho =>
        obtain rfl := Option.some.inj ho
        have d5 : bx.tmps.getD 5 undef = .pointer (some ⟨T, 0, none⟩) := hS.base 5 (by kernel_rfl)
        refine ⟨rfl, rests_value (c := .pointer (some ⟨T, 1, none⟩)) ?_⟩
        simp [Act.eval, d5, go_sem]
      | 7, ho =>
        obtain rfl := Option.some.inj ho
        have d : bx.tmps.getD 60 undef = .pointer (some ⟨T, 1, none⟩) := hS.dep 6 60 (by kernel_rfl) (by kernel_rfl)
        refine ⟨rfl, rests_value (c := .pointer (some ⟨T, 1, none⟩)) ?_⟩
        simp [Act.eval, d, go_sem]
      | 8, ho =>
        obtain rfl := Option.some.inj ho
        have d : bx.tmps.getD 61 undef = .pointer (some ⟨T, 1, none⟩) := hS.dep 7 61 (by kernel_rfl) (by kernel_rfl)
        have hl1 := hr.cell 1 _ rfl
        refine ⟨rfl, rests_value (c := .int .i64 id) ?_⟩
        simp [Act.eval, d, go_sem, hl1]
      | 9, ho =>
        obtain rfl := Option.some.inj ho
        exact absurd rfl hne2
      | 10, ho =>
        obtain rfl := Option.some.inj ho
        have e1 : bx.tmps.getD 58 undef = .int .i64 E := hS.dep 4 58 (by kernel_rfl) (by kernel_rfl)
        have e2 : bx.tmps.getD 63 undef = .int .i64 E := hS.dep 9 63 (by kernel_rfl) (by kernel_rfl)
        refine ⟨rfl, rests_value (c := .bool true) ?_⟩
        simp [Act.eval, e1, e2, go_sem]
      | 11, ho =>
        obtain rfl := Option.some.inj ho
        have e1 : bx.tmps.getD 64 undef = .bool true := hS.dep 10 64 (by kernel_rfl) (by kernel_rfl)
        refine ⟨rfl, rests_value (c := .bool true) ?_⟩
        simp [execOp, Act.eval, e1]
      | n + 12, ho => exact absurd ho (by simp)
  case op1 =>
    intro o bx z y ho hJ hS
    obtain rfl := Option.some.inj ho
    have d54 : bx.tmps.getD 54 undef = .pointer (some ⟨b.p, 0, none⟩) := hS.dep 0 54 (by kernel_rfl) (by kernel_rfl)
    have d57 : bx.tmps.getD 57 undef = .int .i64 id := hS.dep 3 57 (by kernel_rfl) (by kernel_rfl)
    have hcall := hcall1 z y hJ
    refine ⟨rfl, yieldsY_call (f := 19) (args := #[.pointer (some ⟨b.p, 0, none⟩), .int .i64 id]) (u := z) ?_ (hcall.mono fun e z' h => ⟨_, h.1, rfl, h.2⟩) (K := fun v z' => v = .int .i64 E ∧ J true y z') (fun v z' h => h)⟩
    simp [Act.eval, d54, d57, go_sem]
  case op2 =>
    intro o bx z y ho hJ hS
    obtain rfl := Option.some.inj ho
    have d59 : bx.tmps.getD 59 undef = .pointer (some ⟨c.p, 0, none⟩) := hS.dep 5 59 (by kernel_rfl) (by kernel_rfl)
    have d62 : bx.tmps.getD 62 undef = .int .i64 id := hS.dep 8 62 (by kernel_rfl) (by kernel_rfl)
    have hcall := hcall2 z y hJ
    refine ⟨rfl, yieldsY_call (f := 27) (args := #[.pointer (some ⟨c.p, 0, none⟩), .int .i64 id]) (u := z) ?_ (hcall.mono fun e z' h => ⟨_, h.1, rfl, h.2⟩) (K := fun v z' => v = .int .i64 E ∧ J y true z') (fun v z' h => h)⟩
    simp [Act.eval, d59, d62, go_sem]
  case fin =>
    rintro z hz
    rw [hJd] at hz
    obtain ⟨v', u', uL', hz⟩ := hz
    simp only [if_true] at hz
    have HZ : Shut _ := ⟨hz⟩
    clear hz
    simp [putAll, dstAt, Act.put]
    go_wp2_with fail
    go_ret
    exact ⟨rfl, v', u', uL', _, HZ.out.less (fun f hf => List.mem_cons_of_mem _ hf)⟩
set_option maxRecDepth 100000 in
set_option maxHeartbeats 4000000 in
theorem does_p6 (hP : Pair w base base' room fx W b v c u uL p p) (h1 : 1 ≤ room) (kind id addr port t0 t1 t2 t3 t4 : Int) (hk1 : -9223372036854775808 ≤ kind) (hk2 : kind ≤ 9223372036854775807) (hi : -9223372036854775808 ≤ id ∧ id ≤ 9223372036854775807) (ha : 0 ≤ addr) (ht : Tp.Wf ⟨t0, t1, t2, t3, t4⟩) (hs : ¬ kind < 0) (hR : kind.tmod 7 = 6) :
    Calls Try.prog 11 #[.pointer (some ⟨b.p, 0, none⟩), .pointer (some ⟨c.p, 0, none⟩), .agg #[.int .i64 kind, .int .i64 id, .int .u32 addr, .int .i64 port, .int .i64 t0, .int .u32 t1, .int .u32 t2, .int .i64 t3, .int .i64 t4]] W fun e w' => e = .returned (.bool true) ∧ ∃ v' u' uL' p', Pair w base base' room fx w' b v' c u' uL' p' p' := by
  have h2 := hP.box [.int .i64 kind, .int .i64 id, .int .u32 addr, .int .i64 port, .int .i64 t0, .int .u32 t1, .int .u32 t2, .int .i64 t3, .int .i64 t4] 37
  have h2 : Pair w base base' room ((W.heap.size, Obj.cells #[.int .i64 kind, .int .i64 id, .int .u32 addr, .int .i64 port, .int .i64 t0, .int .u32 t1, .int .u32 t2, .int .i64 t3, .int .i64 t4] 37 (0, 0)) :: fx) (W.alloc (.cells #[.int .i64 kind, .int .i64 id, .int .u32 addr, .int .i64 port, .int .i64 t0, .int .u32 t1, .int .u32 t2, .int .i64 t3, .int .i64 t4] 37)) b v c u uL p p := h2
  clear hP h1
  go_enter Try.func11, Try.ntmps11
  obtain ⟨x, y, z, s, ee, hV⟩ := Po.get_form p id
  have hq := h2.one.get id hi
  rw [hV] at hq
  have HPX : Shut _ := ⟨h2⟩
  have hQ := hide hq
  clear hq h2
  have c1 := (HPX.out.row (l := [.int .i64 kind, .int .i64 id, .int .u32 addr, .int .i64 port, .int .i64 t0, .int .u32 t1, .int .u32 t2, .int .i64 t3, .int .i64 t4]) List.mem_cons_self).cell 1 _ rfl
  go_wp2_with fail
  refine (unhide hQ).mono ?_
  rintro e w2 ⟨rfl, hb⟩
  have hb' := Below.then hb (alloc_on w2 (.cells #[.int .i64 (x : Int), .int .u32 (y : Int), .int .i64 (z : Int)] 33))
  have HP2 : Shut _ := ⟨HPX.out.on hb'⟩
  have HX2 : Shut _ := ⟨row_new w2 [.int .i64 (x : Int), .int .u32 (y : Int), .int .i64 (z : Int)] 33⟩
  have hr := rget_any HP2.out.two HP2.out.inv id
  rw [hV] at hr
  have hR2 := hide hr
  clear hb hb' hQ hr hV HPX c1
  have HPX := HP2
  have c1 := (HPX.out.row (l := [.int .i64 kind, .int .i64 id, .int .u32 addr, .int .i64 port, .int .i64 t0, .int .u32 t1, .int .u32 t2, .int .i64 t3, .int .i64 t4]) List.mem_cons_self).cell 1 _ rfl
  go_wp2_with fail
  refine (unhide hR2).mono ?_
  rintro e w3 ⟨rfl, hb⟩
  have hb' := Below.then hb (alloc_on w3 (.cells #[.int .i64 (x : Int), .int .u32 (y : Int), .int .i64 (z : Int)] 33))
  have HP3 : Shut _ := ⟨HP2.out.on hb'⟩
  have hX := HX2.out.on' hb'
  have x0 := hX.cell 0 _ rfl
  have x1 := hX.cell 1 _ rfl
  have x2 := hX.cell 2 _ rfl
  clear hb hb' hR2 HX2 hX HPX HP2 c1
  go_wp2_with fail
  go_ret
  exact ⟨by first | rfl | simp, v, u, uL, _, HP3.out.less (fun f hf => List.mem_cons_of_mem _ hf)⟩
set_option maxRecDepth 100000 in
set_option maxHeartbeats 4000000 in
theorem does_pd (hP : Pair w base base' room fx W b v c u uL p p) (h1 : 1 ≤ room) (kind id addr port t0 t1 t2 t3 t4 : Int) (hk1 : -9223372036854775808 ≤ kind) (hk2 : kind ≤ 9223372036854775807) (hi : -9223372036854775808 ≤ id ∧ id ≤ 9223372036854775807) (ha : 0 ≤ addr) (ht : Tp.Wf ⟨t0, t1, t2, t3, t4⟩) (hs : ¬ kind < 0) (R : Int) (hR : kind.tmod 7 = R) (q0 : (R == 0) = false) (q1 : (R == 1) = false) (q2 : (R == 2) = false) (q3 : (R == 3) = false) (q6 : (R == 6) = false) :
    Calls Try.prog 11 #[.pointer (some ⟨b.p, 0, none⟩), .pointer (some ⟨c.p, 0, none⟩), .agg #[.int .i64 kind, .int .i64 id, .int .u32 addr, .int .i64 port, .int .i64 t0, .int .u32 t1, .int .u32 t2, .int .i64 t3, .int .i64 t4]] W fun e w' => e = .returned (.bool true) ∧ ∃ v' u' uL' p', Pair w base base' room fx w' b v' c u' uL' p' p' := by
  have h2 := hP.box [.int .i64 kind, .int .i64 id, .int .u32 addr, .int .i64 port, .int .i64 t0, .int .u32 t1, .int .u32 t2, .int .i64 t3, .int .i64 t4] 37
  have h2 : Pair w base base' room ((W.heap.size, Obj.cells #[.int .i64 kind, .int .i64 id, .int .u32 addr, .int .i64 port, .int .i64 t0, .int .u32 t1, .int .u32 t2, .int .i64 t3, .int .i64 t4] 37 (0, 0)) :: fx) (W.alloc (.cells #[.int .i64 kind, .int .i64 id, .int .u32 addr, .int .i64 port, .int .i64 t0, .int .u32 t1, .int .u32 t2, .int .i64 t3, .int .i64 t4] 37)) b v c u uL p p := h2
  clear hP h1
  go_enter Try.func11, Try.ntmps11
  obtain ⟨x, y, z, ok, hV⟩ := Po.pick_form p key0 ⟨t0, t1, t2, t3, t4⟩
  have hq := h2.one.pick ⟨t0, t1, t2, t3, t4⟩ ht
  rw [hV] at hq
  have HPX : Shut _ := ⟨h2⟩
  have hQ := hide hq
  clear hq h2
  have c4 := (HPX.out.row (l := [.int .i64 kind, .int .i64 id, .int .u32 addr, .int .i64 port, .int .i64 t0, .int .u32 t1, .int .u32 t2, .int .i64 t3, .int .i64 t4]) List.mem_cons_self).cell 4 _ rfl
  have c5 := (HPX.out.row (l := [.int .i64 kind, .int .i64 id, .int .u32 addr, .int .i64 port, .int .i64 t0, .int .u32 t1, .int .u32 t2, .int .i64 t3, .int .i64 t4]) List.mem_cons_self).cell 5 _ rfl
  have c6 := (HPX.out.row (l := [.int .i64 kind, .int .i64 id, .int .u32 addr, .int .i64 port, .int .i64 t0, .int .u32 t1, .int .u32 t2, .int .i64 t3, .int .i64 t4]) List.mem_cons_self).cell 6 _ rfl
  have c7 := (HPX.out.row (l := [.int .i64 kind, .int .i64 id, .int .u32 addr, .int .i64 port, .int .i64 t0, .int .u32 t1, .int .u32 t2, .int .i64 t3, .int .i64 t4]) List.mem_cons_self).cell 7 _ rfl
  have c8 := (HPX.out.row (l := [.int .i64 kind, .int .i64 id, .int .u32 addr, .int .i64 port, .int .i64 t0, .int .u32 t1, .int .u32 t2, .int .i64 t3, .int .i64 t4]) List.mem_cons_self).cell 8 _ rfl
  go_wp2_with fail
  refine (unhide hQ).mono ?_
  rintro e w2 ⟨rfl, hb⟩
  have hb' := Below.then hb (alloc_on w2 (.cells #[.int .i64 (x : Int), .int .u32 (y : Int), .int .i64 (z : Int)] 33))
  have HP2 : Shut _ := ⟨HPX.out.on hb'⟩
  have HX2 : Shut _ := ⟨row_new w2 [.int .i64 (x : Int), .int .u32 (y : Int), .int .i64 (z : Int)] 33⟩
  have hr := rpick_any HP2.out.two HP2.out.inv HP2.out.one.hr key0_size ⟨t0, t1, t2, t3, t4⟩ ht
  rw [hV] at hr
  have hR2 := hide hr
  clear hb hb' hQ hr hV HPX c4 c5 c6 c7 c8
  have HPX := HP2
  have c4 := (HPX.out.row (l := [.int .i64 kind, .int .i64 id, .int .u32 addr, .int .i64 port, .int .i64 t0, .int .u32 t1, .int .u32 t2, .int .i64 t3, .int .i64 t4]) List.mem_cons_self).cell 4 _ rfl
  have c5 := (HPX.out.row (l := [.int .i64 kind, .int .i64 id, .int .u32 addr, .int .i64 port, .int .i64 t0, .int .u32 t1, .int .u32 t2, .int .i64 t3, .int .i64 t4]) List.mem_cons_self).cell 5 _ rfl
  have c6 := (HPX.out.row (l := [.int .i64 kind, .int .i64 id, .int .u32 addr, .int .i64 port, .int .i64 t0, .int .u32 t1, .int .u32 t2, .int .i64 t3, .int .i64 t4]) List.mem_cons_self).cell 6 _ rfl
  have c7 := (HPX.out.row (l := [.int .i64 kind, .int .i64 id, .int .u32 addr, .int .i64 port, .int .i64 t0, .int .u32 t1, .int .u32 t2, .int .i64 t3, .int .i64 t4]) List.mem_cons_self).cell 7 _ rfl
  have c8 := (HPX.out.row (l := [.int .i64 kind, .int .i64 id, .int .u32 addr, .int .i64 port, .int .i64 t0, .int .u32 t1, .int .u32 t2, .int .i64 t3, .int .i64 t4]) List.mem_cons_self).cell 8 _ rfl
  go_wp2_with fail
  refine (unhide hR2).mono ?_
  rintro e w3 ⟨rfl, hb⟩
  have hb' := Below.then hb (alloc_on w3 (.cells #[.int .i64 (x : Int), .int .u32 (y : Int), .int .i64 (z : Int)] 33))
  have HP3 : Shut _ := ⟨HP2.out.on hb'⟩
  have hX := HX2.out.on' hb'
  have x0 := hX.cell 0 _ rfl
  have x1 := hX.cell 1 _ rfl
  have x2 := hX.cell 2 _ rfl
  clear hb hb' hR2 HX2 hX HPX HP2 c4 c5 c6 c7 c8
  go_wp2_with fail
  go_ret
  exact ⟨by first | rfl | simp, v, u, uL, _, HP3.out.less (fun f hf => List.mem_cons_of_mem _ hf)⟩
set_option maxRecDepth 100000 in
set_option maxHeartbeats 4000000 in
theorem does_n0 (hP : Pair w base base' room fx W b v c u uL p p) (h1 : 1 ≤ room) (kind id addr port t0 t1 t2 t3 t4 : Int) (hk1 : -9223372036854775808 ≤ kind) (hk2 : kind ≤ 9223372036854775807) (hi : -9223372036854775808 ≤ id ∧ id ≤ 9223372036854775807) (ha : 0 ≤ addr) (ht : Tp.Wf ⟨t0, t1, t2, t3, t4⟩) (K : Int) (hs : kind < 0) (hK : -(kind + 1) = K) (hR : K.tmod 7 = 0) :
    Calls Try.prog 11 #[.pointer (some ⟨b.p, 0, none⟩), .pointer (some ⟨c.p, 0, none⟩), .agg #[.int .i64 kind, .int .i64 id, .int .u32 addr, .int .i64 port, .int .i64 t0, .int .u32 t1, .int .u32 t2, .int .i64 t3, .int .i64 t4]] W fun e w' => e = .returned (.bool true) ∧ ∃ v' u' uL' p', Pair w base base' room fx w' b v' c u' uL' p' p' := by
  have h2 := hP.box [.int .i64 kind, .int .i64 id, .int .u32 addr, .int .i64 port, .int .i64 t0, .int .u32 t1, .int .u32 t2, .int .i64 t3, .int .i64 t4] 37
  have h2 : Pair w base base' room ((W.heap.size, Obj.cells #[.int .i64 kind, .int .i64 id, .int .u32 addr, .int .i64 port, .int .i64 t0, .int .u32 t1, .int .u32 t2, .int .i64 t3, .int .i64 t4] 37 (0, 0)) :: fx) (W.alloc (.cells #[.int .i64 kind, .int .i64 id, .int .u32 addr, .int .i64 port, .int .i64 t0, .int .u32 t1, .int .u32 t2, .int .i64 t3, .int .i64 t4] 37)) b v c u uL p p := h2
  have HP2 : Shut _ := ⟨h2⟩
  have HW : Shut (1 ≤ room ∧ (-9223372036854775808 ≤ id ∧ id ≤ 9223372036854775807) ∧ 0 ≤ addr) := ⟨h1, hi, ha⟩
  clear h2 hP h1 hi ha ht
  go_enter Try.func11, Try.ntmps11
  go_wp2_with fail
  obtain ⟨h1, hi, ha⟩ := HW.out
  have h2 := HP2.out
  clear HP2 HW
  obtain ⟨W1, hW1⟩ : ∃ W1, W.alloc (.cells #[.int .i64 kind, .int .i64 id, .int .u32 addr, .int .i64 port, .int .i64 t0, .int .u32 t1, .int .u32 t2, .int .i64 t3, .int .i64 t4] 37) = W1 := ⟨_, rfl⟩
  obtain ⟨T, hT⟩ : ∃ T, W.heap.size = T := ⟨_, rfl⟩
  rw [hW1, hT] at h2
  rw [hW1, hT]
  clear hW1 hT
  obtain ⟨E, hE⟩ : ∃ E, Po.putE room p id port = E := ⟨_, rfl⟩
  obtain ⟨pp, hpp⟩ : ∃ pp, Po.putP room p id addr port = pp := ⟨_, rfl⟩
  obtain ⟨J, hJd⟩ : ∃ J : Bool → Bool → World → Prop, J = fun x y z => ∃ v' u' uL', Pair w base base' room ((T, Obj.cells #[.int .i64 kind, .int .i64 id, .int .u32 addr, .int .i64 port, .int .i64 t0, .int .u32 t1, .int .u32 t2, .int .i64 t3, .int .i64 t4] 37 (0, 0)) :: fx) z b v' c u' uL' (if x = true then pp else p) (if y = true then pp else p) := ⟨_, rfl⟩
  have hcall1 : ∀ z y, J false y z → Calls Try.prog 15 #[.pointer (some ⟨b.p, 0, none⟩), .agg #[.int .i64 id, .int .u32 addr, .int .i64 port]] z fun e z' => e = .returned (.int .i64 E) ∧ J true y z' := by
    rw [hJd]
    rintro z y ⟨v', u', uL', hz⟩
    have hz : Pair w base base' room ((T, Obj.cells #[.int .i64 kind, .int .i64 id, .int .u32 addr, .int .i64 port, .int .i64 t0, .int .u32 t1, .int .u32 t2, .int .i64 t3, .int .i64 t4] 37 (0, 0)) :: fx) z b v' c u' uL' p (if y = true then pp else p) := hz
    refine (hz.putQ id addr port ha).mono ?_
    rintro e z' ⟨rfl, v2, h2⟩
    rw [hpp] at h2
    exact ⟨by rw [hE], v2, u', uL', h2⟩
  have hcall2 : ∀ z x, J x false z → Calls Try.prog 25 #[.pointer (some ⟨c.p, 0, none⟩), .agg #[.int .i64 id, .int .u32 addr, .int .i64 port]] z fun e z' => e = .returned (.int .i64 E) ∧ J x true z' := by
    rw [hJd]
    rintro z x ⟨v', u', uL', hz⟩
    have hz : Pair w base base' room ((T, Obj.cells #[.int .i64 kind, .int .i64 id, .int .u32 addr, .int .i64 port, .int .i64 t0, .int .u32 t1, .int .u32 t2, .int .i64 t3, .int .i64 t4] 37 (0, 0)) :: fx) z b v' c u' uL' (if x = true then pp else p) p := hz
    refine (hz.putR h1 id addr port ha).mono ?_
    rintro e z' ⟨rfl, u2, uL2, h2⟩
    rw [hpp] at h2
    exact ⟨by rw [hE], v', u2, uL2, h2⟩
  have hJ0 : J false false W1.drew := by
    rw [hJd]
    exact ⟨v, u, uL, h2.drew⟩
  clear hE hpp
  refine wp_region_two (by kernel_rfl) [.pointer (some ⟨b.p, 0, none⟩), .pointer (some ⟨T, 1, none⟩), .agg #[.int .i64 id, .int .u32 addr, .int .i64 port], .int .i64 E, .pointer (some ⟨c.p, 0, none⟩), .pointer (some ⟨T, 1, none⟩), .agg #[.int .i64 id, .int .u32 addr, .int .i64 port], .int .i64 E, .bool true, .bool true] 3 7 J (by kernel_rfl) (by decide) (by decide) (by decide) hJ0 ?op ?op1 ?op2 ?fin
  case op =>
    intro i o bx z x y ho hne1 hne2 hJ hS
    rw [hJd] at hJ
    obtain ⟨v', u', uL', hz⟩ := hJ
    have hr := hz.row (l := [.int .i64 kind, .int .i64 id, .int .u32 addr, .int .i64 port, .int .i64 t0, .int .u32 t1, .int .u32 t2, .int .i64 t3, .int .i64 t4]) List.mem_cons_self
    match i, ho with
      | 0, ho =>
        obtain rfl := Option.some.inj ho
        have d0 : bx.tmps.getD 0 undef = .pointer (some ⟨b.p, 0, none⟩) := hS.base 0 (by kernel_rfl)
        refine ⟨rfl, rests_value (c := .pointer (some ⟨b.p, 0, none⟩)) ?_⟩
        simp [execOp, Act.eval, d0]
      | 1, ho =>
        obtain rfl := Option.some.inj ho
        have d5 : bx.tmps.getD 5 undef = .pointer (some ⟨T, 0, none⟩) := hS.base 5 (by kernel_rfl)
        refine ⟨rfl, rests_value (c := .pointer (some ⟨T, 1, none⟩)) ?_⟩
        simp [Act.eval, d5, go_sem]
      | 2, ho =>
        obtain rfl := Option.some.inj ho
        have d : bx.tmps.getD 31 undef = .pointer (some ⟨T, 1, none⟩) := hS.dep 1 31 (by kernel_rfl) (by kernel_rfl)
        have hl1 := hr.cell 1 _ rfl
        have hl2 := hr.cell 2 _ rfl
        have hl3 := hr.cell 3 _ rfl
        refine ⟨rfl, rests_value (c := .agg #[.int .i64 id, .int .u32 addr, .int .i64 port]) ?_⟩
        simp [Act.eval, d, go_sem, hl1, hl2, hl3]
      | 3, ho =>
        obtain rfl := Option.some.inj ho
        exact absurd rfl hne1
      | 4, ho =>
        obtain rfl := Option.some.inj ho
        have d1 : bx.tmps.getD 1 undef = .pointer (some ⟨c.p, 0, none⟩) := hS.base 1 (by kernel_rfl)
        refine ⟨rfl, rests_value (c := .pointer (some ⟨c.p, 0, none⟩)) ?_⟩
        simp [execOp, Act.eval, d1]
      | 5, ho =>
        obtain rfl := Option.some.inj ho
        have d5 : bx.tmps.getD 5 undef = .pointer (some ⟨T, 0, none⟩) := hS.base 5 (by kernel_rfl)
        refine ⟨rfl, rests_value (c := .pointer (some ⟨T, 1, none⟩)) ?_⟩
        simp [Act.eval, d5, go_sem]
      | 6, ho =>
        obtain rfl := Option.some.inj ho
        have d : bx.tmps.getD 35 undef = .pointer (some ⟨T, 1, none⟩) := hS.dep 5 35 (by kernel_rfl) (by kernel_rfl)
        have hl1 := hr.cell 1 _ rfl
        have hl2 := hr.cell 2 _ rfl
        have hl3 := hr.cell 3 _ rfl
        refine ⟨rfl, rests_value (c := .agg #[.int .i64 id, .int .u32 addr, .int .i64 port]) ?_⟩
        simp [Act.eval, d, go_sem, hl1, hl2, hl3]
      | 7, ho =>
        obtain rfl := Option.some.inj ho
        exact absurd rfl hne2
      | 8, ho =>
        obtain rfl := Option.some.inj ho
        have e1 : bx.tmps.getD 33 undef = .int .i64 E := hS.dep 3 33 (by kernel_rfl) (by kernel_rfl)
        have e2 : bx.tmps.getD 37 undef = .int .i64 E := hS.dep 7 37 (by kernel_rfl) (by kernel_rfl)
        refine ⟨rfl, rests_value (c := .bool true) ?_⟩
        simp [Act.eval, e1, e2, go_sem]
      | 9, ho =>
        obtain rfl := Option.some.inj ho
        have e1 : bx.tmps.getD 38 undef = .bool true := hS.dep 8 38 (by kernel_rfl) (by kernel_rfl)
        refine ⟨rfl, rests_value (c := .bool true) ?_⟩
        simp [execOp, Act.eval, e1]
      | n + 10, ho => exact absurd ho (by simp)
  case op1 =>
    intro o bx z y ho hJ hS
    obtain rfl := Option.some.inj ho
    have d30 : bx.tmps.getD 30 undef = .pointer (some ⟨b.p, 0, none⟩) := hS.dep 0 30 (by kernel_rfl) (by kernel_rfl)
    have d32 : bx.tmps.getD 32 undef = .agg #[.int .i64 id, .int .u32 addr, .int .i64 port] := hS.dep 2 32 (by kernel_rfl) (by kernel_rfl)
    have hcall := hcall1 z y hJ
    refine ⟨rfl, yieldsY_call (f := 15) (args := #[.pointer (some ⟨b.p, 0, none⟩), .agg #[.int .i64 id, .int .u32 addr, .int .i64 port]]) (u := z) ?_ (hcall.mono fun e z' h => ⟨_, h.1, rfl, h.2⟩) (K := fun v z' => v = .int .i64 E ∧ J true y z') (fun v z' h => h)⟩
    simp [Act.eval, d30, d32, go_sem]
  case op2 =>
    intro o bx z y ho hJ hS
    obtain rfl := Option.some.inj ho
    have d34 : bx.tmps.getD 34 undef = .pointer (some ⟨c.p, 0, none⟩) := hS.dep 4 34 (by kernel_rfl) (by kernel_rfl)
    have d36 : bx.tmps.getD 36 undef = .agg #[.int .i64 id, .int .u32 addr, .int .i64 port] := hS.dep 6 36 (by kernel_rfl) (by kernel_rfl)
    have hcall := hcall2 z y hJ
    refine ⟨rfl, yieldsY_call (f := 25) (args := #[.pointer (some ⟨c.p, 0, none⟩), .agg #[.int .i64 id, .int .u32 addr, .int .i64 port]]) (u := z) ?_ (hcall.mono fun e z' h => ⟨_, h.1, rfl, h.2⟩) (K := fun v z' => v = .int .i64 E ∧ J y true z') (fun v z' h => h)⟩
    simp [Act.eval, d34, d36, go_sem]
  case fin =>
    rintro z hz
    rw [hJd] at hz
    obtain ⟨v', u', uL', hz⟩ := hz
    simp only [if_true] at hz
    have HZ : Shut _ := ⟨hz⟩
    clear hz
    simp [putAll, dstAt, Act.put]
    go_wp2_with fail
    go_ret
    exact ⟨rfl, v', u', uL', _, HZ.out.less (fun f hf => List.mem_cons_of_mem _ hf)⟩
set_option maxRecDepth 100000 in
set_option maxHeartbeats 4000000 in
theorem does_n1 (hP : Pair w base base' room fx W b v c u uL p p) (h1 : 1 ≤ room) (kind id addr port t0 t1 t2 t3 t4 : Int) (hk1 : -9223372036854775808 ≤ kind) (hk2 : kind ≤ 9223372036854775807) (hi : -9223372036854775808 ≤ id ∧ id ≤ 9223372036854775807) (ha : 0 ≤ addr) (ht : Tp.Wf ⟨t0, t1, t2, t3, t4⟩) (K : Int) (hs : kind < 0) (hK : -(kind + 1) = K) (hR : K.tmod 7 = 1) :
    Calls Try.prog 11 #[.pointer (some ⟨b.p, 0, none⟩), .pointer (some ⟨c.p, 0, none⟩), .agg #[.int .i64 kind, .int .i64 id, .int .u32 addr, .int .i64 port, .int .i64 t0, .int .u32 t1, .int .u32 t2, .int .i64 t3, .int .i64 t4]] W fun e w' => e = .returned (.bool true) ∧ ∃ v' u' uL' p', Pair w base base' room fx w' b v' c u' uL' p' p' := by
  have h2 := hP.box [.int .i64 kind, .int .i64 id, .int .u32 addr, .int .i64 port, .int .i64 t0, .int .u32 t1, .int .u32 t2, .int .i64 t3, .int .i64 t4] 37
  have h2 : Pair w base base' room ((W.heap.size, Obj.cells #[.int .i64 kind, .int .i64 id, .int .u32 addr, .int .i64 port, .int .i64 t0, .int .u32 t1, .int .u32 t2, .int .i64 t3, .int .i64 t4] 37 (0, 0)) :: fx) (W.alloc (.cells #[.int .i64 kind, .int .i64 id, .int .u32 addr, .int .i64 port, .int .i64 t0, .int .u32 t1, .int .u32 t2, .int .i64 t3, .int .i64 t4] 37)) b v c u uL p p := h2
  have HP2 : Shut _ := ⟨h2⟩
  have HW : Shut (1 ≤ room ∧ (-9223372036854775808 ≤ id ∧ id ≤ 9223372036854775807) ∧ 0 ≤ addr) := ⟨h1, hi, ha⟩
  clear h2 hP h1 hi ha ht
  go_enter Try.func11, Try.ntmps11
  go_wp2_with fail
  obtain ⟨h1, hi, ha⟩ := HW.out
  have h2 := HP2.out
  clear HP2 HW
  obtain ⟨W1, hW1⟩ : ∃ W1, W.alloc (.cells #[.int .i64 kind, .int .i64 id, .int .u32 addr, .int .i64 port, .int .i64 t0, .int .u32 t1, .int .u32 t2, .int .i64 t3, .int .i64 t4] 37) = W1 := ⟨_, rfl⟩
  obtain ⟨T, hT⟩ : ∃ T, W.heap.size = T := ⟨_, rfl⟩
  rw [hW1, hT] at h2
  rw [hW1, hT]
  clear hW1 hT
  obtain ⟨E, hE⟩ : ∃ E, Po.putE room p id port = E := ⟨_, rfl⟩
  obtain ⟨pp, hpp⟩ : ∃ pp, Po.putP room p id addr port = pp := ⟨_, rfl⟩
  obtain ⟨J, hJd⟩ : ∃ J : Bool → Bool → World → Prop, J = fun x y z => ∃ v' u' uL', Pair w base base' room ((T, Obj.cells #[.int .i64 kind, .int .i64 id, .int .u32 addr, .int .i64 port, .int .i64 t0, .int .u32 t1, .int .u32 t2, .int .i64 t3, .int .i64 t4] 37 (0, 0)) :: fx) z b v' c u' uL' (if x = true then pp else p) (if y = true then pp else p) := ⟨_, rfl⟩
  have hcall1 : ∀ z y, J false y z → Calls Try.prog 15 #[.pointer (some ⟨b.p, 0, none⟩), .agg #[.int .i64 id, .int .u32 addr, .int .i64 port]] z fun e z' => e = .returned (.int .i64 E) ∧ J true y z' := by
    rw [hJd]
    rintro z y ⟨v', u', uL', hz⟩
    have hz : Pair w base base' room ((T, Obj.cells #[.int .i64 kind, .int .i64 id, .int .u32 addr, .int .i64 port, .int .i64 t0, .int .u32 t1, .int .u32 t2, .int .i64 t3, .int .i64 t4] 37 (0, 0)) :: fx) z b v' c u' uL' p (if y = true then pp else p) := hz
    refine (hz.putQ id addr port ha).mono ?_
    rintro e z' ⟨rfl, v2, h2⟩
    rw [hpp] at h2
    exact ⟨by rw [hE], v2, u', uL', h2⟩
  have hcall2 : ∀ z x, J x false z → Calls Try.prog 25 #[.pointer (some ⟨c.p, 0, none⟩), .agg #[.int .i64 id, .int .u32 addr, .int .i64 port]] z fun e z' => e = .returned (.int .i64 E) ∧ J x true z' := by
    rw [hJd]
    rintro z x ⟨v', u', uL', hz⟩
    have hz : Pair w base base' room ((T, Obj.cells #[.int .i64 kind, .int .i64 id, .int .u32 addr, .int .i64 port, .int .i64 t0, .int .u32 t1, .int .u32 t2, .int .i64 t3, .int .i64 t4] 37 (0, 0)) :: fx) z b v' c u' uL' (if x = true then pp else p) p := hz
    refine (hz.putR h1 id addr port ha).mono ?_
    rintro e z' ⟨rfl, u2, uL2, h2⟩
    rw [hpp] at h2
    exact ⟨by rw [hE], v', u2, uL2, h2⟩
  have hJ0 : J false false W1.drew := by
    rw [hJd]
    exact ⟨v, u, uL, h2.drew⟩
  clear hE hpp
  refine wp_region_two (by kernel_rfl) [.pointer (some ⟨b.p, 0, none⟩), .pointer (some ⟨T, 1, none⟩), .agg #[.int .i64 id, .int .u32 addr, .int .i64 port], .int .i64 E, .pointer (some ⟨c.p, 0, none⟩), .pointer (some ⟨T, 1, none⟩), .agg #[.int .i64 id, .int .u32 addr, .int .i64 port], .int .i64 E, .bool true, .bool true] 3 7 J (by kernel_rfl) (by decide) (by decide) (by decide) hJ0 ?op ?op1 ?op2 ?fin
  case op =>
    intro i o bx z x y ho hne1 hne2 hJ hS
    rw [hJd] at hJ
    obtain ⟨v', u', uL', hz⟩ := hJ
    have hr := hz.row (l := [.int .i64 kind, .int .i64 id, .int .u32 addr, .int .i64 port, .int .i64 t0, .int .u32 t1, .int .u32 t2, .int .i64 t3, .int .i64 t4]) List.mem_cons_self
    match i, ho with
      | 0, ho =>
        obtain rfl := Option.some.inj ho
        have d0 : bx.tmps.getD 0 undef = .pointer (some ⟨b.p, 0, none⟩) := hS.base 0 (by kernel_rfl)
        refine ⟨rfl, rests_value (c := .pointer (some ⟨b.p, 0, none⟩)) ?_⟩
        simp [execOp, Act.eval, d0]
      | 1, ho =>
        obtain rfl := Option.some.inj ho
        have d5 : bx.tmps.getD 5 undef = .pointer (some ⟨T, 0, none⟩) := hS.base 5 (by kernel_rfl)
        refine ⟨rfl, rests_value (c := .pointer (some ⟨T, 1, none⟩)) ?_⟩
        simp [Act.eval, d5, go_sem]
      | 2, ho =>
        obtain rfl := Option.some.inj ho
        have d : bx.tmps.getD 31 undef = .pointer (some ⟨T, 1, none⟩) := hS.dep 1 31 (by kernel_rfl) (by kernel_rfl)
        have hl1 := hr.cell 1 _ rfl
        have hl2 := hr.cell 2 _ rfl
        have hl3 := hr.cell 3 _ rfl
        refine ⟨rfl, rests_value (c := .agg #[.int .i64 id, .int .u32 addr, .int .i64 port]) ?_⟩
        simp [Act.eval, d, go_sem, hl1, hl2, hl3]
      | 3, ho =>
        obtain rfl := Option.some.inj ho
        exact absurd rfl hne1
      | 4, ho =>
        obtain rfl := Option.some.inj ho
        have d1 : bx.tmps.getD 1 undef = .pointer (some ⟨c.p, 0, none⟩) := hS.base 1 (by kernel_rfl)
        refine ⟨rfl, rests_value (c := .pointer (some ⟨c.p, 0, none⟩)) ?_⟩
        simp [execOp, Act.eval, d1]
      | 5, ho =>
        obtain rfl := Option.some.inj ho
        have d5 : bx.tmps.getD 5 undef = .pointer (some ⟨T, 0, none⟩) := hS.base 5 (by kernel_rfl)
        refine ⟨rfl, rests_value (c := .pointer (some ⟨T, 1, none⟩)) ?_⟩
        simp [Act.eval, d5, go_sem]
      | 6, ho =>
        obtain rfl := Option.some.inj ho
        have d : bx.tmps.getD 35 undef = .pointer (some ⟨T, 1, none⟩) := hS.dep 5 35 (by kernel_rfl) (by kernel_rfl)
        have hl1 := hr.cell 1 _ rfl
        have hl2 := hr.cell 2 _ rfl
        have hl3 := hr.cell 3 _ rfl
        refine ⟨rfl, rests_value (c := .agg #[.int .i64 id, .int .u32 addr, .int .i64 port]) ?_⟩
        simp [Act.eval, d, go_sem, hl1, hl2, hl3]
      | 7, ho =>
        obtain rfl := Option.some.inj ho
        exact absurd rfl hne2
      | 8, ho =>
        obtain rfl := Option.some.inj ho
        have e1 : bx.tmps.getD 33 undef = .int .i64 E := hS.dep 3 33 (by kernel_rfl) (by kernel_rfl)
        have e2 : bx.tmps.getD 37 undef = .int .i64 E := hS.dep 7 37 (by kernel_rfl) (by kernel_rfl)
        refine ⟨rfl, rests_value (c := .bool true) ?_⟩
        simp [Act.eval, e1, e2, go_sem]
      | 9, ho =>
        obtain rfl := Option.some.inj ho
        have e1 : bx.tmps.getD 38 undef = .bool true := hS.dep 8 38 (by kernel_rfl) (by kernel_rfl)
        refine ⟨rfl, rests_value (c := .bool true) ?_⟩
        simp [execOp, Act.eval, e1]
      | n + 10, ho => exact absurd ho (by simp)
  case op1 =>
    intro o bx z y ho hJ hS
    obtain rfl := Option.some.inj ho
    have d30 : bx.tmps.getD 30 undef = .pointer (some ⟨b.p, 0, none⟩) := hS.dep 0 30 (by kernel_rfl) (by kernel_rfl)
    have d32 : bx.tmps.getD 32 undef = .agg #[.int .i64 id, .int .u32 addr, .int .i64 port] := hS.dep 2 32 (by kernel_rfl) (by kernel_rfl)
    have hcall := hcall1 z y hJ
    refine ⟨rfl, yieldsY_call (f := 15) (args := #[.pointer (some ⟨b.p, 0, none⟩), .agg #[.int .i64 id, .int .u32 addr, .int .i64 port]]) (u := z) ?_ (hcall.mono fun e z' h => ⟨_, h.1, rfl, h.2⟩) (K := fun v z' => v = .int .i64 E ∧ J true y z') (fun v z' h => h)⟩
    simp [Act.eval, d30, d32, go_sem]
  case op2 =>
    intro o bx z y ho hJ hS
    obtain rfl := Option.some.inj ho
    have d34 : bx.tmps.getD 34 undef = .pointer (some ⟨c.p, 0, none⟩) := hS.dep 4 34 (by kernel_rfl) (by kernel_rfl)
    have d36 : bx.tmps.getD 36 undef = .agg #[.int .i64 id, .int .u32 addr, .int .i64 port] := hS.dep 6 36 (by kernel_rfl) (by kernel_rfl)
    have hcall := hcall2 z y hJ
    refine ⟨rfl, yieldsY_call (f := 25) (args := #[.pointer (some ⟨c.p, 0, none⟩), .agg #[.int .i64 id, .int .u32 addr, .int .i64 port]]) (u := z) ?_ (hcall.mono fun e z' h => ⟨_, h.1, rfl, h.2⟩) (K := fun v z' => v = .int .i64 E ∧ J y true z') (fun v z' h => h)⟩
    simp [Act.eval, d34, d36, go_sem]
  case fin =>
    rintro z hz
    rw [hJd] at hz
    obtain ⟨v', u', uL', hz⟩ := hz
    simp only [if_true] at hz
    have HZ : Shut _ := ⟨hz⟩
    clear hz
    simp [putAll, dstAt, Act.put]
    go_wp2_with fail
    go_ret
    exact ⟨rfl, v', u', uL', _, HZ.out.less (fun f hf => List.mem_cons_of_mem _ hf)⟩
set_option maxRecDepth 100000 in
set_option maxHeartbeats 4000000 in
theorem does_n2 (hP : Pair w base base' room fx W b v c u uL p p) (h1 : 1 ≤ room) (kind id addr port t0 t1 t2 t3 t4 : Int) (hk1 : -9223372036854775808 ≤ kind) (hk2 : kind ≤ 9223372036854775807) (hi : -9223372036854775808 ≤ id ∧ id ≤ 9223372036854775807) (ha : 0 ≤ addr) (ht : Tp.Wf ⟨t0, t1, t2, t3, t4⟩) (K : Int) (hs : kind < 0) (hK : -(kind + 1) = K) (hR : K.tmod 7 = 2) :
    Calls Try.prog 11 #[.pointer (some ⟨b.p, 0, none⟩), .pointer (some ⟨c.p, 0, none⟩), .agg #[.int .i64 kind, .int .i64 id, .int .u32 addr, .int .i64 port, .int .i64 t0, .int .u32 t1, .int .u32 t2, .int .i64 t3, .int .i64 t4]] W fun e w' => e = .returned (.bool true) ∧ ∃ v' u' uL' p', Pair w base base' room fx w' b v' c u' uL' p' p' := by
  have h2 := hP.box [.int .i64 kind, .int .i64 id, .int .u32 addr, .int .i64 port, .int .i64 t0, .int .u32 t1, .int .u32 t2, .int .i64 t3, .int .i64 t4] 37
  have h2 : Pair w base base' room ((W.heap.size, Obj.cells #[.int .i64 kind, .int .i64 id, .int .u32 addr, .int .i64 port, .int .i64 t0, .int .u32 t1, .int .u32 t2, .int .i64 t3, .int .i64 t4] 37 (0, 0)) :: fx) (W.alloc (.cells #[.int .i64 kind, .int .i64 id, .int .u32 addr, .int .i64 port, .int .i64 t0, .int .u32 t1, .int .u32 t2, .int .i64 t3, .int .i64 t4] 37)) b v c u uL p p := h2
  have HP2 : Shut _ := ⟨h2⟩
  have HW : Shut (1 ≤ room ∧ (-9223372036854775808 ≤ id ∧ id ≤ 9223372036854775807) ∧ 0 ≤ addr) := ⟨h1, hi, ha⟩
  clear h2 hP h1 hi ha ht
  go_enter Try.func11, Try.ntmps11
  go_wp2_with fail
  obtain ⟨h1, hi, ha⟩ := HW.out
  have h2 := HP2.out
  clear HP2 HW
  obtain ⟨W1, hW1⟩ : ∃ W1, W.alloc (.cells #[.int .i64 kind, .int .i64 id, .int .u32 addr, .int .i64 port, .int .i64 t0, .int .u32 t1, .int .u32 t2, .int .i64 t3, .int .i64 t4] 37) = W1 := ⟨_, rfl⟩
  obtain ⟨T, hT⟩ : ∃ T, W.heap.size = T := ⟨_, rfl⟩
  rw [hW1, hT] at h2
  rw [hW1, hT]
  clear hW1 hT
  obtain ⟨E, hE⟩ : ∃ E, Po.drainE p id = E := ⟨_, rfl⟩
  obtain ⟨pp, hpp⟩ : ∃ pp, Po.drainP p id = pp := ⟨_, rfl⟩
  obtain ⟨J, hJd⟩ : ∃ J : Bool → Bool → World → Prop, J = fun x y z => ∃ v' u' uL', Pair w base base' room ((T, Obj.cells #[.int .i64 kind, .int .i64 id, .int .u32 addr, .int .i64 port, .int .i64 t0, .int .u32 t1, .int .u32 t2, .int .i64 t3, .int .i64 t4] 37 (0, 0)) :: fx) z b v' c u' uL' (if x = true then pp else p) (if y = true then pp else p) := ⟨_, rfl⟩
  have hcall1 : ∀ z y, J false y z → Calls Try.prog 18 #[.pointer (some ⟨b.p, 0, none⟩), .int .i64 id] z fun e z' => e = .returned (.int .i64 E) ∧ J true y z' := by
    rw [hJd]
    rintro z y ⟨v', u', uL', hz⟩
    have hz : Pair w base base' room ((T, Obj.cells #[.int .i64 kind, .int .i64 id, .int .u32 addr, .int .i64 port, .int .i64 t0, .int .u32 t1, .int .u32 t2, .int .i64 t3, .int .i64 t4] 37 (0, 0)) :: fx) z b v' c u' uL' p (if y = true then pp else p) := hz
    refine (hz.drainQ id hi).mono ?_
    rintro e z' ⟨rfl, v2, h2⟩
    rw [hpp] at h2
    exact ⟨by rw [hE], v2, u', uL', h2⟩
  have hcall2 : ∀ z x, J x false z → Calls Try.prog 26 #[.pointer (some ⟨c.p, 0, none⟩), .int .i64 id] z fun e z' => e = .returned (.int .i64 E) ∧ J x true z' := by
    rw [hJd]
    rintro z x ⟨v', u', uL', hz⟩
    have hz : Pair w base base' room ((T, Obj.cells #[.int .i64 kind, .int .i64 id, .int .u32 addr, .int .i64 port, .int .i64 t0, .int .u32 t1, .int .u32 t2, .int .i64 t3, .int .i64 t4] 37 (0, 0)) :: fx) z b v' c u' uL' (if x = true then pp else p) p := hz
    refine (hz.drainR id).mono ?_
    rintro e z' ⟨rfl, u2, uL2, h2⟩
    rw [hpp] at h2
    exact ⟨by rw [hE], v', u2, uL2, h2⟩
  have hJ0 : J false false W1.drew := by
    rw [hJd]
    exact ⟨v, u, uL, h2.drew⟩
  clear hE hpp
  refine wp_region_two (by kernel_rfl) [.pointer (some ⟨b.p, 0, none⟩), .pointer (some ⟨T, 1, none⟩), .pointer (some ⟨T, 1, none⟩), .int .i64 id, .int .i64 E, .pointer (some ⟨c.p, 0, none⟩), .pointer (some ⟨T, 1, none⟩), .pointer (some ⟨T, 1, none⟩), .int .i64 id, .int .i64 E, .bool true, .bool true] 4 9 J (by kernel_rfl) (by decide) (by decide) (by decide) hJ0 ?op ?op1 ?op2 ?fin
  case op =>
    intro i o bx z x y ho hne1 hne2 hJ hS
    rw [hJd] at hJ
    obtain ⟨v', u', uL', hz⟩ := hJ
    have hr := hz.row (l := [.int .i64 kind, .int .i64 id, .int .u32 addr, .int .i64 port, .int .i64 t0, .int .u32 t1, .int .u32 t2, .int .i64 t3, .int .i64 t4]) List.mem_cons_self
    match i, ho with
      | 0, ho =>
        obtain rfl := Option.some.inj ho
        have d0 : bx.tmps.getD 0 undef = .pointer (some ⟨b.p, 0, none⟩) := hS.base 0 (by kernel_rfl)
        refine ⟨rfl, rests_value (c := .pointer (some ⟨b.p, 0, none⟩)) ?_⟩
        simp [execOp, Act.eval, d0]
      | 1, ho =>
        obtain rfl := Option.some.inj ho
        have d5 : bx.tmps.getD 5 undef = .pointer (some ⟨T, 0, none⟩) := hS.base 5 (by kernel_rfl)
        refine ⟨rfl, rests_value (c := .pointer (some ⟨T, 1, none⟩)) ?_⟩
        simp [Act.eval, d5, go_sem]
      | 2, ho =>
        obtain rfl := Option.some.inj ho
        have d : bx.tmps.getD 42 undef = .pointer (some ⟨T, 1, none⟩) := hS.dep 1 42 (by kernel_rfl) (by kernel_rfl)
        refine ⟨rfl, rests_value (c := .pointer (some ⟨T, 1, none⟩)) ?_⟩
        simp [Act.eval, d, go_sem]
      | 3, ho =>
        obtain rfl := Option.some.inj ho
        have d : bx.tmps.getD 43 undef = .pointer (some ⟨T, 1, none⟩) := hS.dep 2 43 (by kernel_rfl) (by kernel_rfl)
        have hl1 := hr.cell 1 _ rfl
        refine ⟨rfl, rests_value (c := .int .i64 id) ?_⟩
        simp [Act.eval, d, go_sem, hl1]
      | 4, ho =>
        obtain rfl := Option.some.inj ho
        exact absurd rfl hne1
      | 5, ho =>
        obtain rfl := Option.some.inj ho
        have d1 : bx.tmps.getD 1 undef = .pointer (some ⟨c.p, 0, none⟩) := hS.base 1 (by kernel_rfl)
        refine ⟨rfl, rests_value (c := .pointer (some ⟨c.p, 0, none⟩)) ?_⟩
        simp [execOp, Act.eval, d1]
      | 6, ho =>
        obtain rfl := Option.some.inj ho
        have d5 : bx.tmps.getD 5 undef = .pointer (some ⟨T, 0, none⟩) := hS.base 5 (by kernel_rfl)
        refine ⟨rfl, rests_value (c := .pointer (some ⟨T, 1, none⟩)) ?_⟩
        simp [Act.eval, d5, go_sem]
      | 7, ho =>
        obtain rfl := Option.some.inj ho
        have d : bx.tmps.getD 47 undef = .pointer (some ⟨T, 1, none⟩) := hS.dep 6 47 (by kernel_rfl) (by kernel_rfl)
        refine ⟨rfl, rests_value (c := .pointer (some ⟨T, 1, none⟩)) ?_⟩
        simp [Act.eval, d, go_sem]
      | 8, ho =>
        obtain rfl := Option.some.inj ho
        have d : bx.tmps.getD 48 undef = .pointer (some ⟨T, 1, none⟩) := hS.dep 7 48 (by kernel_rfl) (by kernel_rfl)
        have hl1 := hr.cell 1 _ rfl
        refine ⟨rfl, rests_value (c := .int .i64 id) ?_⟩
        simp [Act.eval, d, go_sem, hl1]
      | 9, ho =>
        obtain rfl := Option.some.inj ho
        exact absurd rfl hne2
      | 10, ho =>
        obtain rfl := Option.some.inj ho
        have e1 : bx.tmps.getD 45 undef = .int .i64 E := hS.dep 4 45 (by kernel_rfl) (by kernel_rfl)
        have e2 : bx.tmps.getD 50 undef = .int .i64 E := hS.dep 9 50 (by kernel_rfl) (by kernel_rfl)
        refine ⟨rfl, rests_value (c := .bool true) ?_⟩
        simp [Act.eval, e1, e2, go_sem]
      | 11, ho =>
        obtain rfl := Option.some.inj ho
        have e1 : bx.tmps.getD 51 undef = .bool true := hS.dep 10 51 (by kernel_rfl) (by kernel_rfl)
        refine ⟨rfl, rests_value (c := .bool true) ?_⟩
        simp [execOp, Act.eval, e1]
      | n + 12, ho => exact absurd ho (by simp)
  case op1 =>
    intro o bx z y ho hJ hS
    obtain rfl := Option.some.inj ho
    have d41 : bx.tmps.getD 41 undef = .pointer (some ⟨b.p, 0, none⟩) := hS.dep 0 41 (by kernel_rfl) (by kernel_rfl)
    have d44 : bx.tmps.getD 44 undef = .int .i64 id := hS.dep 3 44 (by kernel_rfl) (by kernel_rfl)
    have hcall := hcall1 z y hJ
    refine ⟨rfl, yieldsY_call (f := 18) (args := #[.pointer (some ⟨b.p, 0, none⟩), .int .i64 id]) (u := z) ?_ (hcall.mono fun e z' h => ⟨_, h.1, rfl, h.2⟩) (K := fun v z' => v = .int .i64 E ∧ J true y z') (fun v z' h => h)⟩
    simp [Act.eval, d41, d44, go_sem]
  case op2 =>
    intro o bx z y ho hJ hS
    obtain rfl := Option.some.inj ho
    have d46 : bx.tmps.getD 46 undef = .pointer (some ⟨c.p, 0, none⟩) := hS.dep 5 46 (by kernel_rfl) (by kernel_rfl)
    have d49 : bx.tmps.getD 49 undef = .int .i64 id := hS.dep 8 49 (by kernel_rfl) (by kernel_rfl)
    have hcall := hcall2 z y hJ
    refine ⟨rfl, yieldsY_call (f := 26) (args := #[.pointer (some ⟨c.p, 0, none⟩), .int .i64 id]) (u := z) ?_ (hcall.mono fun e z' h => ⟨_, h.1, rfl, h.2⟩) (K := fun v z' => v = .int .i64 E ∧ J y true z') (fun v z' h => h)⟩
    simp [Act.eval, d46, d49, go_sem]
  case fin =>
    rintro z hz
    rw [hJd] at hz
    obtain ⟨v', u', uL', hz⟩ := hz
    simp only [if_true] at hz
    have HZ : Shut _ := ⟨hz⟩
    clear hz
    simp [putAll, dstAt, Act.put]
    go_wp2_with fail
    go_ret
    exact ⟨rfl, v', u', uL', _, HZ.out.less (fun f hf => List.mem_cons_of_mem _ hf)⟩
set_option maxRecDepth 100000 in
set_option maxHeartbeats 4000000 in
theorem does_n3 (hP : Pair w base base' room fx W b v c u uL p p) (h1 : 1 ≤ room) (kind id addr port t0 t1 t2 t3 t4 : Int) (hk1 : -9223372036854775808 ≤ kind) (hk2 : kind ≤ 9223372036854775807) (hi : -9223372036854775808 ≤ id ∧ id ≤ 9223372036854775807) (ha : 0 ≤ addr) (ht : Tp.Wf ⟨t0, t1, t2, t3, t4⟩) (K : Int) (hs : kind < 0) (hK : -(kind + 1) = K) (hR : K.tmod 7 = 3) :
    Calls Try.prog 11 #[.pointer (some ⟨b.p, 0, none⟩), .pointer (some ⟨c.p, 0, none⟩), .agg #[.int .i64 kind, .int .i64 id, .int .u32 addr, .int .i64 port, .int .i64 t0, .int .u32 t1, .int .u32 t2, .int .i64 t3, .int .i64 t4]] W fun e w' => e = .returned (.bool true) ∧ ∃ v' u' uL' p', Pair w base base' room fx w' b v' c u' uL' p' p' := by
  have h2 := hP.box [.int .i64 kind, .int .i64 id, .int .u32 addr, .int .i64 port, .int .i64 t0, .int .u32 t1, .int .u32 t2, .int .i64 t3, .int .i64 t4] 37
  have h2 : Pair w base base' room ((W.heap.size, Obj.cells #[.int .i64 kind, .int .i64 id, .int .u32 addr, .int .i64 port, .int .i64 t0, .int .u32 t1, .int .u32 t2, .int .i64 t3, .int .i64 t4] 37 (0, 0)) :: fx) (W.alloc (.cells #[.int .i64 kind, .int .i64 id, .int .u32 addr, .int .i64 port, .int .i64 t0, .int .u32 t1, .int .u32 t2, .int .i64 t3, .int .i64 t4] 37)) b v c u uL p p := h2
  have HP2 : Shut _ := ⟨h2⟩
  have HW : Shut (1 ≤ room ∧ (-9223372036854775808 ≤ id ∧ id ≤ 9223372036854775807) ∧ 0 ≤ addr) := ⟨h1, hi, ha⟩
  clear h2 hP h1 hi ha ht
  go_enter Try.func11, Try.ntmps11
  go_wp2_with fail
  obtain ⟨h1, hi, ha⟩ := HW.out
  have h2 := HP2.out
  clear HP2 HW
  obtain ⟨W1, hW1⟩ : ∃ W1, W.alloc (.cells #[.int .i64 kind, .int .i64 id, .int .u32 addr, .int .i64 port, .int .i64 t0, .int .u32 t1, .int .u32 t2, .int .i64 t3, .int .i64 t4] 37) = W1 := ⟨_, rfl⟩
  obtain ⟨T, hT⟩ : ∃ T, W.heap.size = T := ⟨_, rfl⟩
  rw [hW1, hT] at h2
  rw [hW1, hT]
  clear hW1 hT
  obtain ⟨E, hE⟩ : ∃ E, Po.goneE p id = E := ⟨_, rfl⟩
  obtain ⟨pp, hpp⟩ : ∃ pp, Po.goneP p id = pp := ⟨_, rfl⟩
  obtain ⟨J, hJd⟩ : ∃ J : Bool → Bool → World → Prop, J = fun x y z => ∃ v' u' uL', Pair w base base' room ((T, Obj.cells #[.int .i64 kind, .int .i64 id, .int .u32 addr, .int .i64 port, .int .i64 t0, .int .u32 t1, .int .u32 t2, .int .i64 t3, .int .i64 t4] 37 (0, 0)) :: fx) z b v' c u' uL' (if x = true then pp else p) (if y = true then pp else p) := ⟨_, rfl⟩
  have hcall1 : ∀ z y, J false y z → Calls Try.prog 19 #[.pointer (some ⟨b.p, 0, none⟩), .int .i64 id] z fun e z' => e = .returned (.int .i64 E) ∧ J true y z' := by
    rw [hJd]
    rintro z y ⟨v', u', uL', hz⟩
    have hz : Pair w base base' room ((T, Obj.cells #[.int .i64 kind, .int .i64 id, .int .u32 addr, .int .i64 port, .int .i64 t0, .int .u32 t1, .int .u32 t2, .int .i64 t3, .int .i64 t4] 37 (0, 0)) :: fx) z b v' c u' uL' p (if y = true then pp else p) := hz
    refine (hz.goneQ id hi).mono ?_
    rintro e z' ⟨rfl, v2, h2⟩
    rw [hpp] at h2
    exact ⟨by rw [hE], v2, u', uL', h2⟩
  have hcall2 : ∀ z x, J x false z → Calls Try.prog 27 #[.pointer (some ⟨c.p, 0, none⟩), .int .i64 id] z fun e z' => e = .returned (.int .i64 E) ∧ J x true z' := by
    rw [hJd]
    rintro z x ⟨v', u', uL', hz⟩
    have hz : Pair w base base' room ((T, Obj.cells #[.int .i64 kind, .int .i64 id, .int .u32 addr, .int .i64 port, .int .i64 t0, .int .u32 t1, .int .u32 t2, .int .i64 t3, .int .i64 t4] 37 (0, 0)) :: fx) z b v' c u' uL' (if x = true then pp else p) p := hz
    refine (hz.goneR id).mono ?_
    rintro e z' ⟨rfl, u2, uL2, h2⟩
    rw [hpp] at h2
    exact ⟨by rw [hE], v', u2, uL2, h2⟩
  have hJ0 : J false false W1.drew := by
    rw [hJd]
    exact ⟨v, u, uL, h2.drew⟩
  clear hE hpp
  refine wp_region_two (by kernel_rfl) [.pointer (some ⟨b.p, 0, none⟩), .pointer (some ⟨T, 1, none⟩), .pointer (some ⟨T, 1, none⟩), .int .i64 id, .int .i64 E, .pointer (some ⟨c.p, 0, none⟩), .pointer (some ⟨T, 1, none⟩), .pointer (some ⟨T, 1, none⟩), .int .i64 id, .int .i64 E, .bool true, .bool true] 4 9 J (by kernel_rfl) (by decide) (by decide) (by decide) hJ0 ?op ?op1 ?op2 ?fin
  case op =>
    intro i o bx z x y ho hne1 hne2 hJ hS
    rw [hJd] at hJ
    obtain ⟨v', u', uL', hz⟩ := hJ
    have hr := hz.row (l := [.int .i64 kind, .int .i64 id, .int .u32 addr, .int .i64 port, .int .i64 t0, .int .u32 t1, .int .u32 t2, .int .i64 t3, .int .i64 t4]) List.mem_cons_self
    match i, ho with
      | 0, ho =>
        obtain rfl := Option.some.inj ho
        have d0 : bx.tmps.getD 0 undef = .pointer (some ⟨b.p, 0, none⟩) := hS.base 0 (by kernel_rfl)
        refine ⟨rfl, rests_value (c := .pointer (some ⟨b.p, 0, none⟩)) ?_⟩
        simp [execOp, Act.eval, d0]
      | 1, ho =>
        obtain rfl := Option.some.inj ho
        have d5 : bx.tmps.getD 5 undef = .pointer (some ⟨T, 0, none⟩) := hS.base 5 (by kernel_rfl)
        refine ⟨rfl, rests_value (c := .pointer (some ⟨T, 1, none⟩)) ?_⟩
        simp [Act.eval, d5, go_sem]
      | 2, ho =>
        obtain rfl := Option.some.inj ho
        have d : bx.tmps.getD 55 undef = .pointer (some ⟨T, 1, none⟩) := hS.dep 1 55 (by kernel_rfl) (by kernel_rfl)
        refine ⟨rfl, rests_value (c := .pointer (some ⟨T, 1, none⟩)) ?_⟩
        simp [Act.eval, d, go_sem]
      | 3, ho =>
        obtain rfl := Option.some.inj ho
        have d : bx.tmps.getD 56 undef = .pointer (some ⟨T, 1, none⟩) := hS.dep 2 56 (by kernel_rfl) (by kernel_rfl)
        have hl1 := hr.cell 1 _ rfl
        refine ⟨rfl, rests_value (c := .int .i64 id) ?_⟩
        simp [Act.eval, d, go_sem, hl1]
      | 4, ho =>
        obtain rfl := Option.some.inj ho
        exact absurd rfl hne1
      | 5, ho =>
        obtain rfl := Option.some.inj ho
        have d1 : bx.tmps.getD 1 undef = .pointer (some ⟨c.p, 0, none⟩) := hS.base 1 (by kernel_rfl)
        refine ⟨rfl, rests_value (c := .pointer (some ⟨c.p, 0, none⟩)) ?_⟩
        simp [execOp, Act.eval, d1]
      | 6, ho =>
        obtain rfl := Option.some.inj ho
        have d5 : bx.tmps.getD 5 undef = .pointer (some ⟨T, 0, none⟩) := hS.base 5 (by kernel_rfl)
        refine ⟨rfl, rests_value (c := .pointer (some ⟨T, 1, none⟩)) ?_⟩
        simp [Act.eval, d5, go_sem]
      | 7, ho =>
        obtain rfl := Option.some.inj ho
        have d : bx.tmps.getD 60 undef = .pointer (some ⟨T, 1, none⟩) := hS.dep 6 60 (by kernel_rfl) (by kernel_rfl)
        refine ⟨rfl, rests_value (c := .pointer (some ⟨T, 1, none⟩)) ?_⟩
        simp [Act.eval, d, go_sem]
      | 8, ho =>
        obtain rfl := Option.some.inj ho
        have d : bx.tmps.getD 61 undef = .pointer (some ⟨T, 1, none⟩) := hS.dep 7 61 (by kernel_rfl) (by kernel_rfl)
        have hl1 := hr.cell 1 _ rfl
        refine ⟨rfl, rests_value (c := .int .i64 id) ?_⟩
        simp [Act.eval, d, go_sem, hl1]
      | 9, ho =>
        obtain rfl := Option.some.inj ho
        exact absurd rfl hne2
      | 10, ho =>
        obtain rfl := Option.some.inj ho
        have e1 : bx.tmps.getD 58 undef = .int .i64 E := hS.dep 4 58 (by kernel_rfl) (by kernel_rfl)
        have e2 : bx.tmps.getD 63 undef = .int .i64 E := hS.dep 9 63 (by kernel_rfl) (by kernel_rfl)
        refine ⟨rfl, rests_value (c := .bool true) ?_⟩
        simp [Act.eval, e1, e2, go_sem]
      | 11, ho =>
        obtain rfl := Option.some.inj ho
        have e1 : bx.tmps.getD 64 undef = .bool true := hS.dep 10 64 (by kernel_rfl) (by kernel_rfl)
        refine ⟨rfl, rests_value (c := .bool true) ?_⟩
        simp [execOp, Act.eval, e1]
      | n + 12, ho => exact absurd ho (by simp)
  case op1 =>
    intro o bx z y ho hJ hS
    obtain rfl := Option.some.inj ho
    have d54 : bx.tmps.getD 54 undef = .pointer (some ⟨b.p, 0, none⟩) := hS.dep 0 54 (by kernel_rfl) (by kernel_rfl)
    have d57 : bx.tmps.getD 57 undef = .int .i64 id := hS.dep 3 57 (by kernel_rfl) (by kernel_rfl)
    have hcall := hcall1 z y hJ
    refine ⟨rfl, yieldsY_call (f := 19) (args := #[.pointer (some ⟨b.p, 0, none⟩), .int .i64 id]) (u := z) ?_ (hcall.mono fun e z' h => ⟨_, h.1, rfl, h.2⟩) (K := fun v z' => v = .int .i64 E ∧ J true y z') (fun v z' h => h)⟩
    simp [Act.eval, d54, d57, go_sem]
  case op2 =>
    intro o bx z y ho hJ hS
    obtain rfl := Option.some.inj ho
    have d59 : bx.tmps.getD 59 undef = .pointer (some ⟨c.p, 0, none⟩) := hS.dep 5 59 (by kernel_rfl) (by kernel_rfl)
    have d62 : bx.tmps.getD 62 undef = .int .i64 id := hS.dep 8 62 (by kernel_rfl) (by kernel_rfl)
    have hcall := hcall2 z y hJ
    refine ⟨rfl, yieldsY_call (f := 27) (args := #[.pointer (some ⟨c.p, 0, none⟩), .int .i64 id]) (u := z) ?_ (hcall.mono fun e z' h => ⟨_, h.1, rfl, h.2⟩) (K := fun v z' => v = .int .i64 E ∧ J y true z') (fun v z' h => h)⟩
    simp [Act.eval, d59, d62, go_sem]
  case fin =>
    rintro z hz
    rw [hJd] at hz
    obtain ⟨v', u', uL', hz⟩ := hz
    simp only [if_true] at hz
    have HZ : Shut _ := ⟨hz⟩
    clear hz
    simp [putAll, dstAt, Act.put]
    go_wp2_with fail
    go_ret
    exact ⟨rfl, v', u', uL', _, HZ.out.less (fun f hf => List.mem_cons_of_mem _ hf)⟩
set_option maxRecDepth 100000 in
set_option maxHeartbeats 4000000 in
theorem does_n6 (hP : Pair w base base' room fx W b v c u uL p p) (h1 : 1 ≤ room) (kind id addr port t0 t1 t2 t3 t4 : Int) (hk1 : -9223372036854775808 ≤ kind) (hk2 : kind ≤ 9223372036854775807) (hi : -9223372036854775808 ≤ id ∧ id ≤ 9223372036854775807) (ha : 0 ≤ addr) (ht : Tp.Wf ⟨t0, t1, t2, t3, t4⟩) (K : Int) (hs : kind < 0) (hK : -(kind + 1) = K) (hR : K.tmod 7 = 6) :
    Calls Try.prog 11 #[.pointer (some ⟨b.p, 0, none⟩), .pointer (some ⟨c.p, 0, none⟩), .agg #[.int .i64 kind, .int .i64 id, .int .u32 addr, .int .i64 port, .int .i64 t0, .int .u32 t1, .int .u32 t2, .int .i64 t3, .int .i64 t4]] W fun e w' => e = .returned (.bool true) ∧ ∃ v' u' uL' p', Pair w base base' room fx w' b v' c u' uL' p' p' := by
  have h2 := hP.box [.int .i64 kind, .int .i64 id, .int .u32 addr, .int .i64 port, .int .i64 t0, .int .u32 t1, .int .u32 t2, .int .i64 t3, .int .i64 t4] 37
  have h2 : Pair w base base' room ((W.heap.size, Obj.cells #[.int .i64 kind, .int .i64 id, .int .u32 addr, .int .i64 port, .int .i64 t0, .int .u32 t1, .int .u32 t2, .int .i64 t3, .int .i64 t4] 37 (0, 0)) :: fx) (W.alloc (.cells #[.int .i64 kind, .int .i64 id, .int .u32 addr, .int .i64 port, .int .i64 t0, .int .u32 t1, .int .u32 t2, .int .i64 t3, .int .i64 t4] 37)) b v c u uL p p := h2
  clear hP h1
  go_enter Try.func11, Try.ntmps11
  obtain ⟨x, y, z, s, ee, hV⟩ := Po.get_form p id
  have hq := h2.one.get id hi
  rw [hV] at hq
  have HPX : Shut _ := ⟨h2⟩
  have hQ := hide hq
  clear hq h2
  have c1 := (HPX.out.row (l := [.int .i64 kind, .int .i64 id, .int .u32 addr, .int .i64 port, .int .i64 t0, .int .u32 t1, .int .u32 t2, .int .i64 t3, .int .i64 t4]) List.mem_cons_self).cell 1 _ rfl
  go_wp2_with fail
  refine (unhide hQ).mono ?_
  rintro e w2 ⟨rfl, hb⟩
  have hb' := Below.then hb (alloc_on w2 (.cells #[.int .i64 (x : Int), .int .u32 (y : Int), .int .i64 (z : Int)] 33))
  have HP2 : Shut _ := ⟨HPX.out.on hb'⟩
  have HX2 : Shut _ := ⟨row_new w2 [.int .i64 (x : Int), .int .u32 (y : Int), .int .i64 (z : Int)] 33⟩
  have hr := rget_any HP2.out.two HP2.out.inv id
  rw [hV] at hr
  have hR2 := hide hr
  clear hb hb' hQ hr hV HPX c1
  have HPX := HP2
  have c1 := (HPX.out.row (l := [.int .i64 kind, .int .i64 id, .int .u32 addr, .int .i64 port, .int .i64 t0, .int .u32 t1, .int .u32 t2, .int .i64 t3, .int .i64 t4]) List.mem_cons_self).cell 1 _ rfl
  go_wp2_with fail
  refine (unhide hR2).mono ?_
  rintro e w3 ⟨rfl, hb⟩
  have hb' := Below.then hb (alloc_on w3 (.cells #[.int .i64 (x : Int), .int .u32 (y : Int), .int .i64 (z : Int)] 33))
  have HP3 : Shut _ := ⟨HP2.out.on hb'⟩
  have hX := HX2.out.on' hb'
  have x0 := hX.cell 0 _ rfl
  have x1 := hX.cell 1 _ rfl
  have x2 := hX.cell 2 _ rfl
  clear hb hb' hR2 HX2 hX HPX HP2 c1
  go_wp2_with fail
  go_ret
  exact ⟨by first | rfl | simp, v, u, uL, _, HP3.out.less (fun f hf => List.mem_cons_of_mem _ hf)⟩
set_option maxRecDepth 100000 in
set_option maxHeartbeats 4000000 in
theorem does_nd (hP : Pair w base base' room fx W b v c u uL p p) (h1 : 1 ≤ room) (kind id addr port t0 t1 t2 t3 t4 : Int) (hk1 : -9223372036854775808 ≤ kind) (hk2 : kind ≤ 9223372036854775807) (hi : -9223372036854775808 ≤ id ∧ id ≤ 9223372036854775807) (ha : 0 ≤ addr) (ht : Tp.Wf ⟨t0, t1, t2, t3, t4⟩) (K : Int) (hs : kind < 0) (hK : -(kind + 1) = K) (R : Int) (hR : K.tmod 7 = R) (q0 : (R == 0) = false) (q1 : (R == 1) = false) (q2 : (R == 2) = false) (q3 : (R == 3) = false) (q6 : (R == 6) = false) :
    Calls Try.prog 11 #[.pointer (some ⟨b.p, 0, none⟩), .pointer (some ⟨c.p, 0, none⟩), .agg #[.int .i64 kind, .int .i64 id, .int .u32 addr, .int .i64 port, .int .i64 t0, .int .u32 t1, .int .u32 t2, .int .i64 t3, .int .i64 t4]] W fun e w' => e = .returned (.bool true) ∧ ∃ v' u' uL' p', Pair w base base' room fx w' b v' c u' uL' p' p' := by
  have h2 := hP.box [.int .i64 kind, .int .i64 id, .int .u32 addr, .int .i64 port, .int .i64 t0, .int .u32 t1, .int .u32 t2, .int .i64 t3, .int .i64 t4] 37
  have h2 : Pair w base base' room ((W.heap.size, Obj.cells #[.int .i64 kind, .int .i64 id, .int .u32 addr, .int .i64 port, .int .i64 t0, .int .u32 t1, .int .u32 t2, .int .i64 t3, .int .i64 t4] 37 (0, 0)) :: fx) (W.alloc (.cells #[.int .i64 kind, .int .i64 id, .int .u32 addr, .int .i64 port, .int .i64 t0, .int .u32 t1, .int .u32 t2, .int .i64 t3, .int .i64 t4] 37)) b v c u uL p p := h2
  clear hP h1
  go_enter Try.func11, Try.ntmps11
  obtain ⟨x, y, z, ok, hV⟩ := Po.pick_form p key0 ⟨t0, t1, t2, t3, t4⟩
  have hq := h2.one.pick ⟨t0, t1, t2, t3, t4⟩ ht
  rw [hV] at hq
  have HPX : Shut _ := ⟨h2⟩
  have hQ := hide hq
  clear hq h2
  have c4 := (HPX.out.row (l := [.int .i64 kind, .int .i64 id, .int .u32 addr, .int .i64 port, .int .i64 t0, .int .u32 t1, .int .u32 t2, .int .i64 t3, .int .i64 t4]) List.mem_cons_self).cell 4 _ rfl
  have c5 := (HPX.out.row (l := [.int .i64 kind, .int .i64 id, .int .u32 addr, .int .i64 port, .int .i64 t0, .int .u32 t1, .int .u32 t2, .int .i64 t3, .int .i64 t4]) List.mem_cons_self).cell 5 _ rfl
  have c6 := (HPX.out.row (l := [.int .i64 kind, .int .i64 id, .int .u32 addr, .int .i64 port, .int .i64 t0, .int .u32 t1, .int .u32 t2, .int .i64 t3, .int .i64 t4]) List.mem_cons_self).cell 6 _ rfl
  have c7 := (HPX.out.row (l := [.int .i64 kind, .int .i64 id, .int .u32 addr, .int .i64 port, .int .i64 t0, .int .u32 t1, .int .u32 t2, .int .i64 t3, .int .i64 t4]) List.mem_cons_self).cell 7 _ rfl
  have c8 := (HPX.out.row (l := [.int .i64 kind, .int .i64 id, .int .u32 addr, .int .i64 port, .int .i64 t0, .int .u32 t1, .int .u32 t2, .int .i64 t3, .int .i64 t4]) List.mem_cons_self).cell 8 _ rfl
  go_wp2_with fail
  refine (unhide hQ).mono ?_
  rintro e w2 ⟨rfl, hb⟩
  have hb' := Below.then hb (alloc_on w2 (.cells #[.int .i64 (x : Int), .int .u32 (y : Int), .int .i64 (z : Int)] 33))
  have HP2 : Shut _ := ⟨HPX.out.on hb'⟩
  have HX2 : Shut _ := ⟨row_new w2 [.int .i64 (x : Int), .int .u32 (y : Int), .int .i64 (z : Int)] 33⟩
  have hr := rpick_any HP2.out.two HP2.out.inv HP2.out.one.hr key0_size ⟨t0, t1, t2, t3, t4⟩ ht
  rw [hV] at hr
  have hR2 := hide hr
  clear hb hb' hQ hr hV HPX c4 c5 c6 c7 c8
  have HPX := HP2
  have c4 := (HPX.out.row (l := [.int .i64 kind, .int .i64 id, .int .u32 addr, .int .i64 port, .int .i64 t0, .int .u32 t1, .int .u32 t2, .int .i64 t3, .int .i64 t4]) List.mem_cons_self).cell 4 _ rfl
  have c5 := (HPX.out.row (l := [.int .i64 kind, .int .i64 id, .int .u32 addr, .int .i64 port, .int .i64 t0, .int .u32 t1, .int .u32 t2, .int .i64 t3, .int .i64 t4]) List.mem_cons_self).cell 5 _ rfl
  have c6 := (HPX.out.row (l := [.int .i64 kind, .int .i64 id, .int .u32 addr, .int .i64 port, .int .i64 t0, .int .u32 t1, .int .u32 t2, .int .i64 t3, .int .i64 t4]) List.mem_cons_self).cell 6 _ rfl
  have c7 := (HPX.out.row (l := [.int .i64 kind, .int .i64 id, .int .u32 addr, .int .i64 port, .int .i64 t0, .int .u32 t1, .int .u32 t2, .int .i64 t3, .int .i64 t4]) List.mem_cons_self).cell 7 _ rfl
  have c8 := (HPX.out.row (l := [.int .i64 kind, .int .i64 id, .int .u32 addr, .int .i64 port, .int .i64 t0, .int .u32 t1, .int .u32 t2, .int .i64 t3, .int .i64 t4]) List.mem_cons_self).cell 8 _ rfl
  go_wp2_with fail
  refine (unhide hR2).mono ?_
  rintro e w3 ⟨rfl, hb⟩
  have hb' := Below.then hb (alloc_on w3 (.cells #[.int .i64 (x : Int), .int .u32 (y : Int), .int .i64 (z : Int)] 33))
  have HP3 : Shut _ := ⟨HP2.out.on hb'⟩
  have hX := HX2.out.on' hb'
  have x0 := hX.cell 0 _ rfl
  have x1 := hX.cell 1 _ rfl
  have x2 := hX.cell 2 _ rfl
  clear hb hb' hR2 HX2 hX HPX HP2 c4 c5 c6 c7 c8
  go_wp2_with fail
  go_ret
  exact ⟨by first | rfl | simp, v, u, uL, _, HP3.out.less (fun f hf => List.mem_cons_of_mem _ hf)⟩
end
end Go.Proofs.Ytckkdgifjgkoaaa
