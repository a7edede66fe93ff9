/- Choose of package pool. -/
import Derived.Test.YtckkdgifjgkoaaaPqNew
namespace Go.Proofs.Ytckkdgifjgkoaaa
open Go.ChangeShapes Go.WideShapes Go.ChangeAt Go.RowKit Go.Maps An Sp
section
variable {base : Nat} {w : World} {key : ByteArray} {room : Nat} {b : QBk} {v : Value} {a : An} {L : List Mem} {own : Nat → Nat} {n : Nat}
/-- What lies when Key is called. -/
def pickW (w : World) (t : Tp) : World := (w.alloc (.cells t.cells.toArray 35)).alloc (.cells #[.int .i64 0, .int .u32 0, .int .i64 0] 33)
theorem pickW_below (w : World) (t : Tp) : Below w.heap.size w (pickW w t) := Below.then (alloc_on w _) (alloc_on _ _)
theorem pickW_row (w : World) (t : Tp) : Row (pickW w t) w.heap.size t.cells := (row_new w t.cells 35).on' (alloc_on _ _)
theorem pickW_res (w : World) (t : Tp) : Row (pickW w t) (w.heap.size + 1) [.int .i64 0, .int .u32 0, .int .i64 0] := by
  have h := row_new (w.alloc (.cells t.cells.toArray 35)) [.int .i64 0, .int .u32 0, .int .i64 0] 33
  rw [World.size_alloc] at h
  exact h
set_option maxRecDepth 100000 in
set_option maxHeartbeats 4000000 in
theorem qpick_none (h : QAt base w key room b v a L own n) (t : Tp) (ht : t.Wf) (hno : keyB t = false ∨ n = 0) :
    Calls Try.prog 16 #[.pointer (some ⟨b.p, 0, none⟩), t.val] w fun e w' => e = .returned (.tuple #[noBack, .bool false]) ∧ Below w.heap.size w w' := by
  have hK := hide (key_any t ht (pickW w t))
  have HQ : Shut _ := ⟨h.on (pickW_below w t)⟩
  have HB : Shut _ := ⟨pickW_below w t⟩
  have HY : Shut _ := ⟨pickW_res w t⟩
  have hX := pickW_row w t
  have c0 := hX.cell 0 _ rfl
  have c1 := hX.cell 1 _ rfl
  have c2 := hX.cell 2 _ rfl
  have c3 := hX.cell 3 _ rfl
  have c4 := hX.cell 4 _ rfl
  obtain ⟨t0, t1, t2, t3, t4⟩ := t
  unfold pickW at *
  clear h hX ht
  go_enter Try.func16, Try.ntmps16
  go_wp2_with fail
  refine (unhide hK).mono ?_
  rintro e w1 ⟨rfl, hb⟩
  have HQ1 : Shut _ := ⟨HQ.out.on hb⟩
  have hY1 := HY.out.on' hb
  have HB1 : Shut _ := ⟨Below.then HB.out hb⟩
  have hA := hide (qactive_any HQ1.out)
  have y0 := hY1.cell 0 _ rfl
  have y1 := hY1.cell 1 _ rfl
  have y2 := hY1.cell 2 _ rfl
  have f0 := hY1.free 0
  have f1 := hY1.free 1
  have f2 := hY1.free 2
  have HR : Shut _ := ⟨((hY1.set 0 (.int .i64 0)).set 1 (.int .u32 0)).set 2 (.int .i64 0)⟩
  clear hY1 hb hK HQ HY HB c0 c1 c2 c3 c4
  have fin : ∀ W, W = ((w1.setCell ⟨w.heap.size + 1, 0, none⟩ (.int .i64 0)).setCell ⟨w.heap.size + 1, 1, none⟩ (.int .u32 0)).setCell ⟨w.heap.size + 1, 2, none⟩ (.int .i64 0) → Row W (w.heap.size + 1) [.int .i64 0, .int .u32 0, .int .i64 0] ∧ Below w.heap.size w W := fun W e => by
    subst e
    exact ⟨HR.out, ((HB1.out.setCell (p := ⟨w.heap.size + 1, 0, none⟩) (Nat.le_succ _) _).setCell (p := ⟨w.heap.size + 1, 1, none⟩) (Nat.le_succ _) _).setCell (p := ⟨w.heap.size + 1, 2, none⟩) (Nat.le_succ _) _⟩
  have HF := hide fin
  clear fin HR HB1 HQ1
  by_cases hk : keyB ⟨t0, t1, t2, t3, t4⟩ = true
  · have hn : n = 0 := hno.resolve_left (by rw [hk]; decide)
    subst hn
    have hA0 : Hid (Calls Try.prog 12 #[.pointer (some ⟨b.p, 0, none⟩)] w1 fun e w' => e = .returned (.int .i64 0) ∧ w' = w1) := hA
    clear hA
    rw [hk]
    go_wp2_with fail
    refine (unhide hA0).mono ?_
    rintro e w2 ⟨rfl, hw⟩
    obtain rfl := hw.symm
    clear hw
    go_wp2_with fail
    obtain ⟨r1, r2⟩ := unhide HF _ rfl
    have d0 := r1.cell 0 _ rfl
    have d1 := r1.cell 1 _ rfl
    have d2 := r1.cell 2 _ rfl
    refine bodyPost_ret (v := .tuple #[noBack, .bool false]) (by unfold noBack; simp [results, Try.results16, go_sem, d0, d1, d2]) rfl ⟨rfl, r2⟩
  · rw [Bool.not_eq_true] at hk
    rw [hk]
    go_wp2_with fail
    obtain ⟨r1, r2⟩ := unhide HF _ rfl
    have d0 := r1.cell 0 _ rfl
    have d1 := r1.cell 1 _ rfl
    have d2 := r1.cell 2 _ rfl
    refine bodyPost_ret (v := .tuple #[noBack, .bool false]) (by unfold noBack; simp [results, Try.results16, go_sem, d0, d1, d2]) rfl ⟨rfl, r2⟩
theorem field_back (a b c d e : Value) (W : World) : (Instr.field 85 (.agg #[a, b, c, d, e]) 0).run Try.prog W = .ok (.agg #[a, b, c]) W := by kernel_rfl
theorem keyS_size (t : Tp) : (keyS t).size ≤ 20 := by
  unfold keyS
  split
  · rw [ByteArray.size_append, ByteArray.size_append, ByteArray.size_append, ByteArray.size_append]
    have h1 := laid_small 1 t.proto
    have h2 := laid_small 4 t.src
    have h3 := laid_small 4 t.dst
    have h4 := laid_small 2 t.sport
    have h5 := laid_small 2 t.dport
    omega
  · exact Nat.zero_le _
/-- The bucket of a tuple. -/
def pickB (a : An) (key : ByteArray) (t : Tp) : Nat := bucket a (gmix (Sp.hash key (keyS t)))
set_option maxRecDepth 100000 in
set_option maxHeartbeats 4000000 in
theorem qpick_some (h : QAt base w key room b v a L own n) (hwf : WF a) (har : a.r = room) (hr : room ≤ 65536) (hkey : key.size = 16) (hI : ∀ m ∈ L, 1 ≤ m.id ∧ m.id ≤ 65535) (t : Tp) (ht : t.Wf) (hk : keyB t = true) (hn : 0 < n) (m : Mem) (hm : m ∈ L) (ho : own (pickB a key t) = m.id) :
    Calls Try.prog 16 #[.pointer (some ⟨b.p, 0, none⟩), t.val] w fun e w' => e = .returned (.tuple #[m.back, .bool true]) ∧ Below w.heap.size w w' := by
  have hK := hide (key_any t ht (pickW w t))
  have hlt : pickB a key t < room := by rw [← har]; exact (bucket_works hwf _).1
  have hks : (keyS t).size ≤ maxLen := by have := keyS_size t; unfold maxLen; omega
  have hH := hide (fun u => hash_yes key (keyS t) u hkey hks)
  have HQ : Shut _ := ⟨h.on (pickW_below w t)⟩
  have HB : Shut _ := ⟨pickW_below w t⟩
  have HY : Shut _ := ⟨pickW_res w t⟩
  have hX := pickW_row w t
  have c0 := hX.cell 0 _ rfl
  have c1 := hX.cell 1 _ rfl
  have c2 := hX.cell 2 _ rfl
  have c3 := hX.cell 3 _ rfl
  have c4 := hX.cell 4 _ rfl
  have hid := hI m hm
  have HZ : Shut (bucket a (gmix (Sp.hash key (keyS t))) = pickB a key t) := ⟨rfl⟩
  generalize pickB a key t = z at *
  generalize Sp.hash key (keyS t) = H at *
  generalize keyS t = KS at *
  rw [hk] at hK
  have HW : Shut (WF a ∧ a.r ≤ 65536) := ⟨hwf, by omega⟩
  have HI : Shut (own z = m.id ∧ z < room ∧ room ≤ 65536 ∧ m ∈ L ∧ ∀ m ∈ L, 1 ≤ m.id ∧ m.id ≤ 65535) := ⟨ho, hlt, hr, hm, hI⟩
  obtain ⟨t0, t1, t2, t3, t4⟩ := t
  unfold pickW at *
  have hn1 : ((n : Int) == 0) = false := by rw [beq_eq_false_iff_ne]; omega
  have hn2 : ((n : Nat) == 0) = false := by rw [beq_eq_false_iff_ne]; omega
  clear h hX ht hwf har hr hkey hI hn ho hlt hks hk
  go_enter Try.func16, Try.ntmps16
  go_wp2_with fail
  refine (unhide hK).mono ?_
  rintro e w1 ⟨rfl, hb⟩
  have HQ1 : Shut _ := ⟨HQ.out.on hb⟩
  have HY1 : Shut _ := ⟨HY.out.on' hb⟩
  have HB1 : Shut _ := ⟨Below.then HB.out hb⟩
  have hA := hide (qactive_any HQ1.out)
  have k0 := HQ1.out.cells.1
  clear hb hK HQ HY HB c0 c1 c2 c3 c4
  go_wp2_with fail
  refine (unhide hA).mono ?_
  rintro e w2 ⟨rfl, hw⟩
  obtain rfl := hw.symm
  clear hw hA
  go_wp2_with fail
  refine (unhide hH _).mono ?_
  rintro e w2 ⟨rfl, hb⟩
  have HQ2 : Shut _ := ⟨HQ1.out.on hb⟩
  have hY2 := HY1.out.on' hb
  have HB2 : Shut _ := ⟨Below.then HB1.out hb⟩
  clear hb HQ1 HY1 HB1 hH k0
  obtain ⟨_, k1, k2, k3⟩ := HQ2.out.cells
  obtain ⟨i1, i2, i3, i4, i5⟩ := HI.out
  have hB : ∀ j, Calls Try.prog 35 #[.pointer (some ⟨b.bk.p, 0, none⟩), .int .u64 (Sp.nn H)] (w2.drewN j) fun e w' => e = .returned (.int .i64 (z : Int)) ∧ w' = w2.drewN j := fun j => by
    have := bucket_any (HQ2.out.drewN j).an HW.out.1 HW.out.2 H
    rw [HZ.out] at this
    exact this
  have hl1 : ∀ j, (Instr.lookup 61 (.map (some b.o)) (.int .i64 (z : Int)) false).run Try.prog (w2.drewN j) = .ok (.int .i64 (m.id : Int)) (w2.drewN j) := fun j => by
    have := (HQ2.out.drewN j).whose i3 i2 (by rw [i1]; omega)
    rw [i1] at this
    exact this
  have hl2 : ∀ j, (Instr.lookup 71 (.map (some b.m)) (.int .i64 (m.id : Int)) false).run Try.prog (w2.drewN j) = .ok m.val (w2.drewN j) := fun j => (HQ2.out.drewN j).get i5 i4
  have hBH := hide hB
  have hL1 := hide hl1
  have hL2 := hide hl2
  have y0 := hY2.cell 0 _ rfl
  have y1 := hY2.cell 1 _ rfl
  have y2 := hY2.cell 2 _ rfl
  have f0 := hY2.free 0
  have f1 := hY2.free 1
  have f2 := hY2.free 2
  have HY2 : Shut _ := ⟨hY2⟩
  obtain ⟨x0, x1, x2, x3, x4⟩ := m
  clear hB hl1 hl2 HZ HW HI i1 i2 i3 i4 i5 hid hm
  clear hY2
  go_wp2_with fail
  have hl1 := unhide hL1
  go_quiet (exact (unhide hBH _).mono fun e w' h => ⟨h.1, _, h.2⟩)
  have hl2 : (Instr.lookup 71 (.map (some b.m)) (.int .i64 (x0 : Int)) false).run Try.prog (w2.drewN nq) = .ok (.agg #[.int .i64 (x0 : Int), .int .u32 (x1 : Int), .int .i64 (x2 : Int), .int .i64 (x3 : Int), .int .i64 (x4 : Int)]) (w2.drewN nq) := unhide hL2 nq
  have k2' : (w2.drewN nq).cell? ⟨b.p, 2, none⟩ = some (.map (some b.m)) := (HQ2.out.drewN nq).cells.2.2.1
  have y0' : (w2.drewN nq).cell? ⟨w.heap.size + 1, 0, none⟩ = some (.int .i64 0) := y0
  have y1' : (w2.drewN nq).cell? ⟨w.heap.size + 1, 1, none⟩ = some (.int .u32 0) := y1
  have y2' : (w2.drewN nq).cell? ⟨w.heap.size + 1, 2, none⟩ = some (.int .i64 0) := y2
  have f0' : (w2.drewN nq).frozen? ⟨w.heap.size + 1, 0, none⟩ = false := f0
  have f1' : (w2.drewN nq).frozen? ⟨w.heap.size + 1, 1, none⟩ = false := f1
  have f2' : (w2.drewN nq).frozen? ⟨w.heap.size + 1, 2, none⟩ = false := f2
  have HY3 : Shut (Row (w2.drewN nq) (w.heap.size + 1) [.int .i64 0, .int .u32 0, .int .i64 0]) := ⟨HY2.out.of_block rfl⟩
  have HB3 : Shut (Below w.heap.size w (w2.drewN nq)) := ⟨below_drewN HB2.out nq⟩
  clear hl1 hL1 hL2 hBH HQ2 HY2 HB2 y0 y1 y2 f0 f1 f2 k1 k2 k3
  generalize w2.drewN nq = W3 at *
  have hfd := field_back (.int .i64 (x0 : Int)) (.int .u32 (x1 : Int)) (.int .i64 (x2 : Int)) (.int .i64 (x3 : Int)) (.int .i64 (x4 : Int)) W3
  have HR : Shut _ := ⟨((HY3.out.set 0 (.int .i64 (x0 : Int))).set 1 (.int .u32 (x1 : Int))).set 2 (.int .i64 (x2 : Int))⟩
  go_wp2_with fail
  have d0 := HR.out.cell 0 _ rfl
  have d1 := HR.out.cell 1 _ rfl
  have d2 := HR.out.cell 2 _ rfl
  refine bodyPost_ret (v := .tuple #[.agg #[.int .i64 (x0 : Int), .int .u32 (x1 : Int), .int .i64 (x2 : Int)], .bool true]) (by simp [results, Try.results16, go_sem, d0, d1, d2]) rfl ⟨rfl, ((HB3.out.setCell (p := ⟨w.heap.size + 1, 0, none⟩) (Nat.le_succ _) _).setCell (p := ⟨w.heap.size + 1, 1, none⟩) (Nat.le_succ _) _).setCell (p := ⟨w.heap.size + 1, 2, none⟩) (Nat.le_succ _) _⟩
end
end Go.Proofs.Ytckkdgifjgkoaaa
