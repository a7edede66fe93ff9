/- What Key and Reverse of package packet compute, and the reference's: one contract a function. -/
import Derived.Test.YtckkdgifjgkoaaaPoBs
import Derived.Test.YtckkdgifjgkoaaaSpRow
import Derived.WalkLawsBesides
namespace Go.Proofs.Ytckkdgifjgkoaaa
open Go.ChangeShapes Go.WideShapes Go.ChangeAt Go.RowKit

theorem alloc_on (W : World) (o : Obj) : Below W.heap.size W (W.alloc o) := (Below.refl _ _).alloc (Nat.le_refl _) _
structure Tp where
  proto : Int
  src : Int
  dst : Int
  sport : Int
  dport : Int
deriving DecidableEq
abbrev Tp.val (t : Tp) : Value := .agg #[.int .i64 t.proto, .int .u32 t.src, .int .u32 t.dst, .int .i64 t.sport, .int .i64 t.dport]
abbrev Tp.cells (t : Tp) : List Value := [.int .i64 t.proto, .int .u32 t.src, .int .u32 t.dst, .int .i64 t.sport, .int .i64 t.dport]
namespace Ip
set_option maxHeartbeats 400000 in
theorem num_any (size n : Int) (w : World) :
    Calls Try.prog 62 #[.int .i64 size, .int .i64 n] w fun e w' => e = .returned (.string (laid size n)) ∧ Below w.heap.size w w' := by
  go_enter Try.func62, Try.ntmps62
  go_wp2_with fail
  refine (brput_any _ _ _).mono ?_
  rintro e w' ⟨rfl, hb⟩
  go_wp2_with fail
  go_ret
  exact ⟨rfl, hb⟩

end Ip

structure Tp.Wf (t : Tp) : Prop where
  src : 0 ≤ t.src ∧ t.src ≤ 4294967295
  dst : 0 ≤ t.dst ∧ t.dst ≤ 4294967295
def keyB (t : Tp) : Bool := laidB 1 t.proto && laidB 2 t.sport && laidB 2 t.dport
def keyS (t : Tp) : ByteArray := if keyB t = true then laid 1 t.proto ++ laid 4 t.src ++ laid 4 t.dst ++ laid 2 t.sport ++ laid 2 t.dport else ⟨#[]⟩
def revT (t : Tp) : Tp := ⟨t.proto, t.dst, t.src, t.dport, t.sport⟩
theorem laid_small (s n : Int) : (laid s n).size ≤ 4 := by
  unfold laid
  split
  · rename_i h
    have := (laidB_iff s n).1 h
    show (Oct.be s.toNat n.toNat).toArray.size ≤ 4
    simp [Oct.be_length]
    have := this.1
    omega
  · exact Nat.zero_le _
theorem laidB4 {n : Int} (h : 0 ≤ n ∧ n ≤ 4294967295) : laidB 4 n = true := (laidB_iff 4 n).2 ⟨⟨by decide, by decide⟩, h.1, by show n.toNat < 256 ^ 4; omega⟩
theorem keyS_no {t : Tp} (h : keyB t = false) : keyS t = ⟨#[]⟩ := if_neg (by rw [h]; decide)
theorem keyS_yes {t : Tp} (h : keyB t = true) : keyS t = laid 1 t.proto ++ laid 4 t.src ++ laid 4 t.dst ++ laid 2 t.sport ++ laid 2 t.dport := if_pos h
theorem add_run' (x y : ByteArray) (hx : x.size ≤ 140737488355328) (hy : y.size ≤ 140737488355328) : ∀ wx, (Op.stringOp .add x y).run Try.prog wx = .ok (.string (x ++ y)) wx := fun wx => run_string_add_sum (P := Try.prog) (w := wx) x y (by omega)
theorem nil_app (a : ByteArray) : (⟨#[]⟩ : ByteArray) ++ a = a := by apply Oct.ba_ext; rw [ByteArray.data_append, Array.toList_append]; rfl
theorem ret_sb' {a b : ByteArray} {x y : Bool} (h1 : a = b) (h2 : x = y) : Ending.returned (.tuple #[.string a, .bool x]) = .returned (.tuple #[.string b, .bool y]) := by rw [h1, h2]

set_option maxRecDepth 100000 in
set_option maxHeartbeats 4000000 in
theorem text5_any (g : Nat) (t : Tp) (ht : t.Wf) (w : World) (hr : Row w g [.int .i64 1, .int .i64 t.proto, .int .i64 4, .int .i64 t.src, .int .i64 4, .int .i64 t.dst, .int .i64 2, .int .i64 t.sport, .int .i64 2, .int .i64 t.dport]) :
    Calls Try.prog 55 #[.slice (some ⟨g, 0, none⟩) 5 5] w fun e w' => e = .returned (.tuple #[.string (keyS t), .bool (keyB t)]) ∧ Below w.heap.size w w' := by
  have hs := laidB4 ht.src
  have hd := laidB4 ht.dst
  have HK : Hid (keyB t = (laidB 1 t.proto && laidB 2 t.sport && laidB 2 t.dport)) := rfl
  have HN := hide (keyS_no (t := t))
  have HY := hide (keyS_yes (t := t))
  have HS := hide (And.intro (laid_small 1 t.proto) (And.intro (laid_small 4 t.src) (And.intro (laid_small 4 t.dst) (And.intro (laid_small 2 t.sport) (laid_small 2 t.dport)))))
  have P0 := hide (fun u => bput_any 1 (t.proto) u)
  have P1 := hide (fun u => bput_any 4 (t.src) u)
  have P2 := hide (fun u => bput_any 4 (t.dst) u)
  have P3 := hide (fun u => bput_any 2 (t.sport) u)
  have P4 := hide (fun u => bput_any 2 (t.dport) u)
  rw [hs] at P1
  rw [hd] at P2
  generalize hT0 : laid 1 t.proto = T0 at *
  generalize hT1 : laid 4 t.src = T1 at *
  generalize hT2 : laid 4 t.dst = T2 at *
  generalize hT3 : laid 2 t.sport = T3 at *
  generalize hT4 : laid 2 t.dport = T4 at *
  generalize hB0 : laidB 1 t.proto = B0 at *
  generalize hB3 : laidB 2 t.sport = B3 at *
  generalize hB4 : laidB 2 t.dport = B4 at *
  generalize keyS t = KS at *
  generalize keyB t = KB at *
  clear hT0 hT1 hT2 hT3 hT4 hB0 hB3 hB4 hs hd ht
  obtain ⟨z0, z1, z2, z3, z4⟩ := unhide HS
  have a0 := add_run' ⟨#[]⟩ T0 (by decide) (by omega)
  rw [nil_app] at a0
  have a1 := add_run' T0 T1 (by omega) (by omega)
  have a2 := add_run' (T0 ++ T1) T2 (by rw [ByteArray.size_append]; omega) (by omega)
  have a3 := add_run' (T0 ++ T1 ++ T2) T3 (by rw [ByteArray.size_append, ByteArray.size_append]; omega) (by omega)
  have a4 := add_run' (T0 ++ T1 ++ T2 ++ T3) T4 (by rw [ByteArray.size_append, ByteArray.size_append, ByteArray.size_append]; omega) (by omega)
  generalize T0 ++ T1 = M1 at *
  generalize M1 ++ T2 = M2 at *
  generalize M2 ++ T3 = M3 at *
  generalize M3 ++ T4 = M4 at *
  clear z0 z1 z2 z3 z4 HS
  go_enter Try.func55, Try.ntmps55
  go_wp2_with fail
  refine wp_loop_rounds 6 ?_
  have c0 := hr.cell 0 _ rfl
  have c1 := hr.cell 1 _ rfl
  have HR := hide hr
  clear hr
  rw [rounds_succ]
  go_wp2_with fail
  refine (unhide P0 _).mono ?_
  rintro e w1 ⟨rfl, hb⟩
  have hr := ((unhide HR).on' (alloc_on _ _)).on' hb
  have HB1 := hide (Below.then (alloc_on _ _) hb)
  clear HR hb c0 c1
  cases B0 with
  | false =>
    have e : KB = false := by rw [HK.out]; simp
    have HE := hide (And.intro ((unhide HN) e) e)
    clear e
    go_wp2_with fail
    go_ret2
    exact ⟨ret_sb' (unhide HE).1.symm (unhide HE).2.symm, unhide HB1⟩
  | true =>
    go_wp2_with fail
    have c2 := hr.cell 2 _ rfl
    have c3 := hr.cell 3 _ rfl
    have HR := hide hr
    clear hr
    rw [rounds_succ]
    go_wp2_with fail
    refine (unhide P1 _).mono ?_
    rintro e w2 ⟨rfl, hb⟩
    have hr := ((unhide HR).on' (alloc_on _ _)).on' hb
    have HB2 := hide (Below.then (unhide HB1) (Below.then (alloc_on _ _) hb))
    clear HR hb c2 c3
    go_wp2_with fail
    have c4 := hr.cell 4 _ rfl
    have c5 := hr.cell 5 _ rfl
    have HR := hide hr
    clear hr
    rw [rounds_succ]
    go_wp2_with fail
    refine (unhide P2 _).mono ?_
    rintro e w3 ⟨rfl, hb⟩
    have hr := ((unhide HR).on' (alloc_on _ _)).on' hb
    have HB3 := hide (Below.then (unhide HB2) (Below.then (alloc_on _ _) hb))
    clear HR hb c4 c5
    go_wp2_with fail
    have c6 := hr.cell 6 _ rfl
    have c7 := hr.cell 7 _ rfl
    have HR := hide hr
    clear hr
    rw [rounds_succ]
    go_wp2_with fail
    refine (unhide P3 _).mono ?_
    rintro e w4 ⟨rfl, hb⟩
    have hr := ((unhide HR).on' (alloc_on _ _)).on' hb
    have HB4 := hide (Below.then (unhide HB3) (Below.then (alloc_on _ _) hb))
    clear HR hb c6 c7
    cases B3 with
    | false =>
      have e : KB = false := by rw [HK.out]; simp
      have HE := hide (And.intro ((unhide HN) e) e)
      clear e
      go_wp2_with fail
      go_ret2
      exact ⟨ret_sb' (unhide HE).1.symm (unhide HE).2.symm, unhide HB4⟩
    | true =>
      go_wp2_with fail
      have c8 := hr.cell 8 _ rfl
      have c9 := hr.cell 9 _ rfl
      have HR := hide hr
      clear hr
      rw [rounds_succ]
      go_wp2_with fail
      refine (unhide P4 _).mono ?_
      rintro e w5 ⟨rfl, hb⟩
      have hr := ((unhide HR).on' (alloc_on _ _)).on' hb
      have HB5 := hide (Below.then (unhide HB4) (Below.then (alloc_on _ _) hb))
      clear HR hb c8 c9
      cases B4 with
      | false =>
        have e : KB = false := by rw [HK.out]; simp
        have HE := hide (And.intro ((unhide HN) e) e)
        clear e
        go_wp2_with fail
        go_ret2
        exact ⟨ret_sb' (unhide HE).1.symm (unhide HE).2.symm, unhide HB5⟩
      | true =>
        go_wp2_with fail
        have e : KB = true := by rw [HK.out]; rfl
        have HE := hide (And.intro ((unhide HY) e) e)
        clear e hr
        rw [rounds_succ]
        go_wp2_with fail
        go_ret2
        exact ⟨ret_sb' (unhide HE).1.symm (unhide HE).2.symm, unhide HB5⟩

set_option maxRecDepth 100000 in
set_option maxHeartbeats 2000000 in
theorem key_any (t : Tp) (ht : t.Wf) (w : World) :
    Calls Try.prog 34 #[t.val] w fun e w' => e = .returned (.tuple #[.string (keyS t), .bool (keyB t)]) ∧ Below w.heap.size w w' := by
  have k1 : IntKind.i64.wrap t.src = t.src := Oct.wraps_i64 _ ht.src.1 (by have := ht.src.2; omega)
  have k2 : IntKind.i64.wrap t.dst = t.dst := Oct.wraps_i64 _ ht.dst.1 (by have := ht.dst.2; omega)
  have hs1 := ht.src
  have hd1 := ht.dst
  go_enter Try.func34, Try.ntmps34
  go_wp2_with fail
  have r1 := row_new (w.alloc (.cells #[.int .i64 t.proto, .int .u32 t.src, .int .u32 t.dst, .int .i64 t.sport, .int .i64 t.dport] 35)) [.int .i64 1, .int .i64 t.proto, .int .i64 4, .int .i64 t.src, .int .i64 4, .int .i64 t.dst, .int .i64 2, .int .i64 t.sport, .int .i64 2, .int .i64 t.dport] 113
  have hz : (w.alloc (.cells #[.int .i64 t.proto, .int .u32 t.src, .int .u32 t.dst, .int .i64 t.sport, .int .i64 t.dport] 35)).heap.size = w.heap.size + 1 := by simp
  rw [hz] at r1
  refine (text5_any (w.heap.size + 1) t ht _ r1).mono ?_
  rintro e w1 ⟨rfl, hb⟩
  have HB := hide (Below.then (Below.then (alloc_on w _) (alloc_on _ _)) hb)
  clear hb r1 hz
  go_wp2_with fail
  go_ret2
  exact ⟨rfl, unhide HB⟩

set_option maxRecDepth 100000 in
set_option maxHeartbeats 2000000 in
theorem rkey_any (t : Tp) (ht : t.Wf) (w : World) :
    Calls Try.prog 47 #[t.val] w fun e w' => e = .returned (.tuple #[.string (keyS t), .bool (keyB t)]) ∧ Below w.heap.size w w' := by
  have hs := laidB4 ht.src
  have hd := laidB4 ht.dst
  have k1 : IntKind.i64.wrap t.src = t.src := Oct.wraps_i64 _ ht.src.1 (by have := ht.src.2; omega)
  have k2 : IntKind.i64.wrap t.dst = t.dst := Oct.wraps_i64 _ ht.dst.1 (by have := ht.dst.2; omega)
  have HK : Hid (keyB t = (laidB 1 t.proto && laidB 2 t.sport && laidB 2 t.dport)) := rfl
  have HN := hide (keyS_no (t := t))
  have HY := hide (keyS_yes (t := t))
  have HS := hide (And.intro (laid_small 1 t.proto) (And.intro (laid_small 4 t.src) (And.intro (laid_small 4 t.dst) (And.intro (laid_small 2 t.sport) (laid_small 2 t.dport)))))
  have P0 := hide (fun u => brput_any 1 t.proto u)
  have P3 := hide (fun u => brput_any 2 t.sport u)
  have P4 := hide (fun u => brput_any 2 t.dport u)
  have P1 := hide (fun u => Ip.num_any 4 t.src u)
  have P2 := hide (fun u => Ip.num_any 4 t.dst u)
  generalize hT0 : laid 1 t.proto = T0 at *
  generalize hT1 : laid 4 t.src = T1 at *
  generalize hT2 : laid 4 t.dst = T2 at *
  generalize hT3 : laid 2 t.sport = T3 at *
  generalize hT4 : laid 2 t.dport = T4 at *
  generalize hB0 : laidB 1 t.proto = B0 at *
  generalize hB3 : laidB 2 t.sport = B3 at *
  generalize hB4 : laidB 2 t.dport = B4 at *
  generalize keyS t = KS at *
  generalize keyB t = KB at *
  clear hT0 hT1 hT2 hT3 hT4 hB0 hB3 hB4 hs hd ht
  have r0 := row_new w t.cells 35
  have hb0 := alloc_on w (.cells t.cells.toArray 35)
  go_enter Try.func47, Try.ntmps47
  go_wp2_with fail
  refine (unhide P0 _).mono ?_
  rintro e w1 ⟨rfl, b1⟩
  have r1 := r0.on' b1
  have hb1 := Below.then hb0 b1
  have c3 := r1.cell 3 _ rfl
  have HR := hide (And.intro r1 hb1)
  clear r0 hb0 b1 r1 hb1
  go_wp2_with fail
  refine (unhide P3 _).mono ?_
  rintro e w2 ⟨rfl, b1⟩
  obtain ⟨r1, hb1⟩ := unhide HR
  have r2 := r1.on' b1
  have hb2 := Below.then hb1 b1
  have c4 := r2.cell 4 _ rfl
  have HR := hide (And.intro r2 hb2)
  clear r1 hb1 b1 r2 hb2 c3
  go_wp2_with fail
  refine (unhide P4 _).mono ?_
  rintro e w3 ⟨rfl, b1⟩
  obtain ⟨r2, hb2⟩ := unhide HR
  have r3 := r2.on' b1
  have hb3 := Below.then hb2 b1
  clear r2 hb2 b1 c4 HR
  by_cases hk : KB = true
  · have hbb : B0 = true ∧ B3 = true ∧ B4 = true := by
      have := HK.out
      rw [hk] at this
      revert this
      cases B0 <;> cases B3 <;> cases B4 <;> simp
    obtain ⟨rfl, rfl, rfl⟩ := hbb
    have HE := hide (And.intro ((unhide HY) hk) hk)
    obtain ⟨z0, z1, z2, z3, z4⟩ := unhide HS
    have a1 := add_run' T0 T1 (by omega) (by omega)
    have a2 := add_run' (T0 ++ T1) T2 (by rw [ByteArray.size_append]; omega) (by omega)
    have a3 := add_run' (T0 ++ T1 ++ T2) T3 (by rw [ByteArray.size_append, ByteArray.size_append]; omega) (by omega)
    have a4 := add_run' (T0 ++ T1 ++ T2 ++ T3) T4 (by rw [ByteArray.size_append, ByteArray.size_append, ByteArray.size_append]; omega) (by omega)
    generalize T0 ++ T1 = M1 at *
    generalize M1 ++ T2 = M2 at *
    generalize M2 ++ T3 = M3 at *
    generalize M3 ++ T4 = M4 at *
    clear z0 z1 z2 z3 z4 HS hk
    have HR := hide (And.intro r3 hb3)
    clear r3 hb3
    go_wp2_with fail
    obtain ⟨r3, hb3⟩ := unhide HR
    have up : ∀ u, Below w3.heap.size w3.drew u → Row u w.heap.size t.cells := fun u hb => (r3.of_block (W' := w3.drew) rfl).on hb r3.lt
    refine wp_region_grow (by kernel_rfl) [.string T0, .pointer (some ⟨w.heap.size, 1, none⟩), .int .u32 t.src, .int .i64 t.src, .string T1, .string M1, .pointer (some ⟨w.heap.size, 2, none⟩), .int .u32 t.dst, .int .i64 t.dst, .string T2, .string M2, .string T3, .string M3, .string T4, .string M4, .string M4, .bool true] (by kernel_rfl) ?op ?fin
    case op =>
      intro i o bx u ho hbel hS
      match i, ho with
      | 0, ho =>
        obtain rfl := Option.some.inj ho
        have d4 : bx.tmps.getD 4 undef = .string T0 := hS.base 4 (by kernel_rfl)
        refine .inl ⟨rfl, ends_value' (c := .string T0) ?_⟩
        simp [execOp, Act.eval, d4]
      | 1, ho =>
        obtain rfl := Option.some.inj ho
        have d1 : bx.tmps.getD 1 undef = .pointer (some ⟨w.heap.size, 0, none⟩) := hS.base 1 (by kernel_rfl)
        refine .inl ⟨rfl, ends_value' (c := .pointer (some ⟨w.heap.size, 1, none⟩)) ?_⟩
        simp [Act.eval, d1, go_sem]
      | 2, ho =>
        obtain rfl := Option.some.inj ho
        have d39 : bx.tmps.getD 39 undef = .pointer (some ⟨w.heap.size, 1, none⟩) := hS.dep 1 39 (by kernel_rfl) (by kernel_rfl)
        have hl := (up u hbel).cell 1 _ rfl
        refine .inl ⟨rfl, ends_value' (c := .int .u32 t.src) ?_⟩
        simp [Act.eval, d39, go_sem, hl]
      | 3, ho =>
        obtain rfl := Option.some.inj ho
        have d40 : bx.tmps.getD 40 undef = .int .u32 t.src := hS.dep 2 40 (by kernel_rfl) (by kernel_rfl)
        refine .inl ⟨rfl, ends_value' (c := .int .i64 t.src) ?_⟩
        simp [Act.eval, d40, go_sem, k1]
      | 4, ho =>
        obtain rfl := Option.some.inj ho
        have d41 : bx.tmps.getD 41 undef = .int .i64 t.src := hS.dep 3 41 (by kernel_rfl) (by kernel_rfl)
        refine .inl ⟨rfl, ends_call' (c := .string T1) (f := 62) (args := #[.int .i64 4, .int .i64 t.src]) ?_ (unhide P1 u)⟩
        simp [Act.eval, d41, go_sem]
      | 5, ho =>
        obtain rfl := Option.some.inj ho
        have d38 : bx.tmps.getD 38 undef = .string T0 := hS.dep 0 38 (by kernel_rfl) (by kernel_rfl)
        have d42 : bx.tmps.getD 42 undef = .string T1 := hS.dep 4 42 (by kernel_rfl) (by kernel_rfl)
        refine .inl ⟨rfl, ends_value' (c := .string M1) ?_⟩
        simp [Act.eval, d38, d42, go_sem, a1]
      | 6, ho =>
        obtain rfl := Option.some.inj ho
        have d1 : bx.tmps.getD 1 undef = .pointer (some ⟨w.heap.size, 0, none⟩) := hS.base 1 (by kernel_rfl)
        refine .inl ⟨rfl, ends_value' (c := .pointer (some ⟨w.heap.size, 2, none⟩)) ?_⟩
        simp [Act.eval, d1, go_sem]
      | 7, ho =>
        obtain rfl := Option.some.inj ho
        have d44 : bx.tmps.getD 44 undef = .pointer (some ⟨w.heap.size, 2, none⟩) := hS.dep 6 44 (by kernel_rfl) (by kernel_rfl)
        have hl := (up u hbel).cell 2 _ rfl
        refine .inl ⟨rfl, ends_value' (c := .int .u32 t.dst) ?_⟩
        simp [Act.eval, d44, go_sem, hl]
      | 8, ho =>
        obtain rfl := Option.some.inj ho
        have d45 : bx.tmps.getD 45 undef = .int .u32 t.dst := hS.dep 7 45 (by kernel_rfl) (by kernel_rfl)
        refine .inl ⟨rfl, ends_value' (c := .int .i64 t.dst) ?_⟩
        simp [Act.eval, d45, go_sem, k2]
      | 9, ho =>
        obtain rfl := Option.some.inj ho
        have d46 : bx.tmps.getD 46 undef = .int .i64 t.dst := hS.dep 8 46 (by kernel_rfl) (by kernel_rfl)
        refine .inl ⟨rfl, ends_call' (c := .string T2) (f := 62) (args := #[.int .i64 4, .int .i64 t.dst]) ?_ (unhide P2 u)⟩
        simp [Act.eval, d46, go_sem]
      | 10, ho =>
        obtain rfl := Option.some.inj ho
        have d43 : bx.tmps.getD 43 undef = .string M1 := hS.dep 5 43 (by kernel_rfl) (by kernel_rfl)
        have d47 : bx.tmps.getD 47 undef = .string T2 := hS.dep 9 47 (by kernel_rfl) (by kernel_rfl)
        refine .inl ⟨rfl, ends_value' (c := .string M2) ?_⟩
        simp [Act.eval, d43, d47, go_sem, a2]
      | 11, ho =>
        obtain rfl := Option.some.inj ho
        have d6 : bx.tmps.getD 6 undef = .string T3 := hS.base 6 (by kernel_rfl)
        refine .inl ⟨rfl, ends_value' (c := .string T3) ?_⟩
        simp [execOp, Act.eval, d6]
      | 12, ho =>
        obtain rfl := Option.some.inj ho
        have d48 : bx.tmps.getD 48 undef = .string M2 := hS.dep 10 48 (by kernel_rfl) (by kernel_rfl)
        have d49 : bx.tmps.getD 49 undef = .string T3 := hS.dep 11 49 (by kernel_rfl) (by kernel_rfl)
        refine .inl ⟨rfl, ends_value' (c := .string M3) ?_⟩
        simp [Act.eval, d48, d49, go_sem, a3]
      | 13, ho =>
        obtain rfl := Option.some.inj ho
        have d8 : bx.tmps.getD 8 undef = .string T4 := hS.base 8 (by kernel_rfl)
        refine .inl ⟨rfl, ends_value' (c := .string T4) ?_⟩
        simp [execOp, Act.eval, d8]
      | 14, ho =>
        obtain rfl := Option.some.inj ho
        have d50 : bx.tmps.getD 50 undef = .string M3 := hS.dep 12 50 (by kernel_rfl) (by kernel_rfl)
        have d51 : bx.tmps.getD 51 undef = .string T4 := hS.dep 13 51 (by kernel_rfl) (by kernel_rfl)
        refine .inl ⟨rfl, ends_value' (c := .string M4) ?_⟩
        simp [Act.eval, d50, d51, go_sem, a4]
      | 15, ho =>
        obtain rfl := Option.some.inj ho
        have d52 : bx.tmps.getD 52 undef = .string M4 := hS.dep 14 52 (by kernel_rfl) (by kernel_rfl)
        refine .inl ⟨rfl, ends_value' (c := .string M4) ?_⟩
        simp [execOp, Act.eval, d52]
      | 16, ho =>
        obtain rfl := Option.some.inj ho
        refine .inl ⟨rfl, ends_value' (c := .bool true) ?_⟩
        simp [execOp, Act.eval]
      | n + 17, ho => exact absurd ho (by simp)
    case fin =>
      intro u hbel
      simp [putAll, dstAt, Act.put]
      have HB := hide (Below.then hb3 (show Below w3.heap.size w3 u from ⟨hbel.os, hbel.tape, hbel.output, hbel.size, hbel.block⟩))
      clear hb3 r3 up hbel HR
      go_wp2_with fail
      go_ret2
      exact ⟨ret_sb' (unhide HE).1.symm (unhide HE).2.symm, unhide HB⟩
  · have hk' : KB = false := by simpa using hk
    have HE := hide (And.intro ((unhide HN) hk') hk')
    have HB := hide hb3
    have HK2 : (!B0 || !B3 || !B4) = true := by
      have := HK.out
      rw [hk'] at this
      revert this
      cases B0 <;> cases B3 <;> cases B4 <;> simp
    clear hb3 r3 hk hk'
    cases B0 <;> cases B3 <;> cases B4 <;> first | (exact absurd HK2 (by decide)) | (clear HK2; go_wp2_with fail; go_ret2; exact ⟨ret_sb' (unhide HE).1.symm (unhide HE).2.symm, unhide HB⟩)
end Go.Proofs.Ytckkdgifjgkoaaa
