/- The law on deeds, where the room is right as it is. -/
import Derived.Test.YtckkdgifjgkoaaaPqPlA
namespace Go.Proofs.Ytckkdgifjgkoaaa
open Go.ChangeShapes Go.WideShapes Go.ChangeAt Go.RowKit Go.Maps Go.Shelf An Sp
attribute [local go_sem] Oper.semAt_some
set_option linter.unusedVariables false
set_option maxRecDepth 100000 in
set_option maxHeartbeats 16000000 in
theorem plays_good2 (r : Nat) (a : Option Addr) (len cap : Nat) (h1 : ¬ 12 < (r : Int)) (hr1 : 1 ≤ r) (hr2 : r ≤ 12) (w : World) (hds : IsDeeds w a len cap) :
    Calls Try.prog 3 #[.int .i64 (r : Int), .slice a len cap] w fun e w' => e = .returned (.bool true) ∧ Below w.heap.size w w' := by
  have hnew : Hid (∀ W, Below w.heap.size w W → Calls Try.prog 9 #[.int .i64 (r : Int), .string key0] W fun e w' => ∃ (b : QBk) (v : Value), e = .returned (.tuple #[.pointer (some ⟨b.p, 0, none⟩), .int .i64 0]) ∧ Run w W.heap.size key0 r w' b v (pl0 r) ∧ Below W.heap.size W w') := fun W h => run_new w W h r hr1 (by omega) key0 key0_size
  have hrnew := hide (fun W => rmake_ok r key0 hr1 (by omega) key0_size W)
  have HR : Shut (1 ≤ r ∧ r ≤ 12) := ⟨hr1, hr2⟩
  have HDs : Shut _ := ⟨hds⟩
  clear hr1 hr2 hds
  refine (callsIn_wide (n := 0)).1 ?_
  refine callsIn_of_wp_marks Try.func3 rfl trivial ?_ rfl
  simp only [Try.ntmps3, List.size_toArray, List.length_cons, List.length_nil, Nat.reduceAdd, Nat.reduceSub, Array.replicate_succ, Array.replicate_zero, List.push_toArray, List.append_toArray, List.nil_append, List.cons_append]
  refine wpIn_wide.2 ?_
  go_wp2_with fail
  refine (examples_any _).mono ?_
  rintro e w1 ⟨rfl, hb1⟩
  have HY : Shut (Row w1 w.heap.size [.bool false]) := ⟨(row_new w [.bool false] 4).on' hb1⟩
  have HYo : Shut (w1.heap[w.heap.size]? = some (.cells #[.bool false] 4 (0, 0))) := ⟨(hb1.block _ (by simp)).trans (World.alloc_heap_new w _)⟩
  have HW : Shut (Below w.heap.size w w1) := ⟨Below.then (alloc_on w (.cells #[.bool false] 4)) hb1⟩
  clear hb1
  go_wp2_with fail
  refine (unhide hnew _ HW.out).mono ?_
  rintro e w2 ⟨b, v, rfl, R2, hb2⟩
  have HR2 : Shut _ := ⟨R2⟩
  have HB2 : Shut _ := ⟨hb2⟩
  clear hb2 R2 hnew
  go_wp2_with fail
  refine (unhide hrnew _).mono ?_
  rintro e w3 ⟨c, u, rfl, r3, hb3⟩
  have HT0 : Shut _ := ⟨pair_start HYo.out HR2.out HB2.out r3 hb3⟩
  clear r3 hb3 HR2 HB2 HY HYo HW hrnew
  go_wp2_with fail
  obtain ⟨X, hX⟩ : ∃ X, w3.heap.size = X := ⟨_, rfl⟩
  rw [hX] at HT0
  simp only [hX]
  clear hX
  refine wp_loop (fun a' W => ∃ (i : Nat) (v u uL : Value) (p : Pl) (Ds : List Nat) (u10 u11 u12 u13 u49 u50 u51 u52 u53 u54 u55 u56 u57 u58 u59 u60 u61 u62 u63 u64 u65 u66 u67 u68 u69 u70 u71 u72 u73 u74 u75 u76 u77 u78 u79 u80 u81 u82 u83 u84 u85 u86 u87 u88 u89 u90 u91 u92 u93 u94 u95 u96 u97 u98 u99 u100 u101 u102 u103 u104 u105 u106 u107 u108 u109 u110 u111 u112 u113 u114 u115 u116 u117 u118 : Value), i ≤ 60 ∧ Shut (Pair w w1.heap.size w2.heap.size r (fxs X w.heap.size c Ds) W b v c u uL p p ∧ Ds.Nodup ∧ ∀ D ∈ Ds, w.heap.size ≤ D ∧ D ≠ w.heap.size) ∧
      a' = { tmps := #[Value.int IntKind.i64 ↑r, Value.slice a len cap, undef, undef, Value.pointer (some { block := w.heap.size, off := 0 }), Value.bool true, Value.pointer (some { block := b.p, off := 0 }), Value.int IntKind.i64 0, Value.pointer (some { block := X, off := 0 }), Value.int IntKind.i64 (i : Int), u10, u11, u12, u13, Value.bool true, Value.bool true, Value.bool false, Value.int IntKind.i64 ↑r, Value.bool false, Value.bool false, undef, undef, Value.bool false, undef, undef, Value.tuple #[Value.pointer (some { block := b.p, off := 0 }), Value.int IntKind.i64 0], Value.int IntKind.i64 ↑r, Value.tuple #[Value.pointer (some { block := b.p, off := 0 }), Value.int IntKind.i64 0], Value.pointer (some { block := b.p, off := 0 }), Value.int IntKind.i64 0, Value.int IntKind.i64 ↑r, Value.pointer (some { block := c.p, off := 0 }), Value.pointer (some { block := c.p, off := 0 }), Value.bool false, undef, undef, undef, undef, undef, undef, undef, undef, undef, Value.pointer (some { block := b.p, off := 0 }), Value.bool false, Value.bool false, Value.int IntKind.i64 0, Value.bool false, Value.bool false, u49, u50, u51, u52, u53, u54, u55, u56, u57, u58, u59, u60, u61, u62, u63, u64, u65, u66, u67, u68, u69, u70, u71, u72, u73, u74, u75, u76, u77, u78, u79, u80, u81, u82, u83, u84, u85, u86, u87, u88, u89, u90, u91, u92, u93, u94, u95, u96, u97, u98, u99, u100, u101, u102, u103, u104, u105, u106, u107, u108, u109, u110, u111, u112, u113, u114, u115, u116, u117, u118, undef], defers := marks Ds }) (fun a' _ => 60 - (intOf (a'.tmps.getD 9 undef)).toNat) ?start ?round
  case start =>
    refine ⟨0, v, u, .slice none 0 0, pl0 r, [], ?_⟩
    (repeat apply Exists.intro)
    exact ⟨by omega, ⟨HT0.out, List.nodup_nil, fun D hD => by cases hD⟩, rfl⟩
  case round =>
    rintro a' wr ⟨i, v, u, uL, p, Ds, u10, u11, u12, u13, u49, u50, u51, u52, u53, u54, u55, u56, u57, u58, u59, u60, u61, u62, u63, u64, u65, u66, u67, u68, u69, u70, u71, u72, u73, u74, u75, u76, u77, u78, u79, u80, u81, u82, u83, u84, u85, u86, u87, u88, u89, u90, u91, u92, u93, u94, u95, u96, u97, u98, u99, u100, u101, u102, u103, u104, u105, u106, u107, u108, u109, u110, u111, u112, u113, u114, u115, u116, u117, u118, hi, HT, rfl⟩
    clear HT0
    try dsimp only
    by_cases hlt : i < len
    · have hlt1 : (i : Int) < len := by omega
      by_cases h60 : i < 60
      · have h601 : (i : Int) < 60 := by omega
        obtain ⟨x, d, rfl, hd⟩ := (HDs.out.on HT.out.1.one.below).get i hlt
        have c0 : wr.drew.cell? (x.add (i * 9)) = some (.int .i64 d.kind) := hd.c0
        have c1 : wr.drew.cell? ⟨(x.add (i * 9)).block, (x.add (i * 9)).off + 1, none⟩ = some (.int .i64 d.id) := hd.c1
        have c2 : wr.drew.cell? ⟨(x.add (i * 9)).block, (x.add (i * 9)).off + 2, none⟩ = some (.int .u32 d.addr) := hd.c2
        have c3 : wr.drew.cell? ⟨(x.add (i * 9)).block, (x.add (i * 9)).off + 3, none⟩ = some (.int .i64 d.port) := hd.c3
        have c4 : wr.drew.cell? ⟨(x.add (i * 9)).block, (x.add (i * 9)).off + 4, none⟩ = some (.int .i64 d.t.proto) := hd.c4
        have c5 : wr.drew.cell? ⟨(x.add (i * 9)).block, (x.add (i * 9)).off + 5, none⟩ = some (.int .u32 d.t.src) := hd.c5
        have c6 : wr.drew.cell? ⟨(x.add (i * 9)).block, (x.add (i * 9)).off + 6, none⟩ = some (.int .u32 d.t.dst) := hd.c6
        have c7 : wr.drew.cell? ⟨(x.add (i * 9)).block, (x.add (i * 9)).off + 7, none⟩ = some (.int .i64 d.t.sport) := hd.c7
        have c8 : wr.drew.cell? ⟨(x.add (i * 9)).block, (x.add (i * 9)).off + 8, none⟩ = some (.int .i64 d.t.dport) := hd.c8
        have HWf : Shut d.Wf := ⟨hd.wf⟩
        clear hd
        go_wp2_with fail
        refine wp_region_one (by kernel_rfl) [.pointer (some ⟨b.p, 0, none⟩), .pointer (some ⟨c.p, 0, none⟩), .slice (some x) len cap, .int .i64 (i : Int), .pointer (some (x.add (i * 9))), .agg #[.int .i64 d.kind, .int .i64 d.id, .int .u32 d.addr, .int .i64 d.port, .int .i64 d.t.proto, .int .u32 d.t.src, .int .u32 d.t.dst, .int .i64 d.t.sport, .int .i64 d.t.dport], .bool true, .bool true] 6 (fun z => ∃ v' u' uL' p', Pair w w1.heap.size w2.heap.size r (fxs X w.heap.size c Ds) z b v' c u' uL' p' p') (by kernel_rfl) (by decide) ?op ?call ?fin
        case op =>
          intro ix o bx z ho hne hwait _ hS
          match ix, ho with
          | 0, ho =>
            obtain rfl := Option.some.inj ho
            have d6 : bx.tmps.getD 6 undef = .pointer (some ⟨b.p, 0, none⟩) := hS.base 6 (by kernel_rfl)
            refine ⟨rfl, rests_value (c := .pointer (some ⟨b.p, 0, none⟩)) ?_⟩
            simp [execOp, Act.eval, d6]
          | 1, ho =>
            obtain rfl := Option.some.inj ho
            obtain rfl := hwait (by kernel_rfl)
            have d8 : bx.tmps.getD 8 undef = .pointer (some ⟨X, 0, none⟩) := hS.base 8 (by kernel_rfl)
            have hl := (HT.out.1.drew.row (l := [.pointer (some ⟨c.p, 0, none⟩)]) (fxs_x X w.heap.size c Ds)).cell 0 _ rfl
            refine ⟨rfl, rests_value (c := .pointer (some ⟨c.p, 0, none⟩)) ?_⟩
            simp [Act.eval, d8, go_sem, hl]
          | 2, ho =>
            obtain rfl := Option.some.inj ho
            have d1 : bx.tmps.getD 1 undef = .slice (some x) len cap := hS.base 1 (by kernel_rfl)
            refine ⟨rfl, rests_value (c := .slice (some x) len cap) ?_⟩
            simp [execOp, Act.eval, d1]
          | 3, ho =>
            obtain rfl := Option.some.inj ho
            have d9 : bx.tmps.getD 9 undef = .int .i64 (i : Int) := hS.base 9 (by kernel_rfl)
            refine ⟨rfl, rests_value (c := .int .i64 (i : Int)) ?_⟩
            simp [execOp, Act.eval, d9]
          | 4, ho =>
            obtain rfl := Option.some.inj ho
            have d61 : bx.tmps.getD 61 undef = .slice (some x) len cap := hS.dep 2 61 (by kernel_rfl) (by kernel_rfl)
            have d62 : bx.tmps.getD 62 undef = .int .i64 (i : Int) := hS.dep 3 62 (by kernel_rfl) (by kernel_rfl)
            refine ⟨rfl, rests_value (c := .pointer (some (x.add (i * 9)))) ?_⟩
            simp [Act.eval, d61, d62, go_sem, hlt1]
          | 5, ho =>
            obtain rfl := Option.some.inj ho
            obtain rfl := hwait (by kernel_rfl)
            have d63 : bx.tmps.getD 63 undef = .pointer (some (x.add (i * 9))) := hS.dep 4 63 (by kernel_rfl) (by kernel_rfl)
            refine ⟨rfl, rests_value (c := .agg #[.int .i64 d.kind, .int .i64 d.id, .int .u32 d.addr, .int .i64 d.port, .int .i64 d.t.proto, .int .u32 d.t.src, .int .u32 d.t.dst, .int .i64 d.t.sport, .int .i64 d.t.dport]) ?_⟩
            simp [Act.eval, d63, go_sem, c0, c1, c2, c3, c4, c5, c6, c7, c8]
          | 6, _ => exact absurd rfl hne
          | 7, ho =>
            obtain rfl := Option.some.inj ho
            have d65 : bx.tmps.getD 65 undef = .bool true := hS.dep 6 65 (by kernel_rfl) (by kernel_rfl)
            refine ⟨rfl, rests_value (c := .bool true) ?_⟩
            simp [execOp, Act.eval, d65]
          | n + 8, ho => exact absurd ho (by simp)
        case call =>
          intro o bx ho hS
          obtain rfl := Option.some.inj ho
          have d59 : bx.tmps.getD 59 undef = .pointer (some ⟨b.p, 0, none⟩) := hS.dep 0 59 (by kernel_rfl) (by kernel_rfl)
          have d60 : bx.tmps.getD 60 undef = .pointer (some ⟨c.p, 0, none⟩) := hS.dep 1 60 (by kernel_rfl) (by kernel_rfl)
          have d64 : bx.tmps.getD 64 undef = .agg #[.int .i64 d.kind, .int .i64 d.id, .int .u32 d.addr, .int .i64 d.port, .int .i64 d.t.proto, .int .u32 d.t.src, .int .u32 d.t.dst, .int .i64 d.t.sport, .int .i64 d.t.dport] := hS.dep 5 64 (by kernel_rfl) (by kernel_rfl)
          have hcall := does_any HT.out.1.drew HR.out.1 d HWf.out
          refine ⟨rfl, yieldsY_call (f := 11) (args := #[.pointer (some ⟨b.p, 0, none⟩), .pointer (some ⟨c.p, 0, none⟩), .agg #[.int .i64 d.kind, .int .i64 d.id, .int .u32 d.addr, .int .i64 d.port, .int .i64 d.t.proto, .int .u32 d.t.src, .int .u32 d.t.dst, .int .i64 d.t.sport, .int .i64 d.t.dport]]) (u := wr.drew) ?_ (hcall.mono fun e z' h => ⟨_, h.1, rfl, h.2⟩) (K := fun v z' => v = .bool true ∧ ∃ v' u' uL' p', Pair w w1.heap.size w2.heap.size r (fxs X w.heap.size c Ds) z' b v' c u' uL' p' p') (fun v z' h => h)⟩
          simp [Act.eval, d59, d60, d64, go_sem]
        case fin =>
          rintro z ⟨v', u', uL', p', hz⟩
          have HZ : Shut _ := ⟨hz⟩
          have HDd : Shut _ := ⟨HT.out.2⟩
          clear hz HT c0 c1 c2 c3 c4 c5 c6 c7 c8 HWf
          simp [putAll, dstAt, Act.put]
          obtain ⟨A, hAe⟩ : ∃ A : Nat, Po.active p'.L = A := ⟨_, rfl⟩
          have hl1 : Hid (∀ j, Calls Try.prog 12 #[.pointer (some ⟨b.p, 0, none⟩)] (z.drewN j) fun e w' => e = .returned (.int .i64 (A : Int)) ∧ w' = z.drewN j) := fun j => by
            have := (HZ.out.drewN j).one.act
            rw [hAe] at this
            exact this
          have hl2 : Hid (∀ j, Calls Try.prog 13 #[.pointer (some ⟨c.p, 0, none⟩)] (z.drewN j) fun e w' => e = .returned (.int .i64 (A : Int)) ∧ w' = z.drewN j) := fun j => by
            have := (HZ.out.drewN j).ractive
            rw [hAe] at this
            exact this
          have cX := (HZ.out.row (l := [.pointer (some ⟨c.p, 0, none⟩)]) (fxs_x X w.heap.size c Ds)).cell 0 _ rfl
          have HN : ∀ m, Shut (Pair w w1.heap.size w2.heap.size r (fxs X w.heap.size c Ds) (z.drewN m) b v' c u' uL' p' p') := fun m => ⟨HZ.out.drewN m⟩
          clear hAe HZ
          go_wp2_with fail
          go_quiet (first | exact (unhide hl1 _).mono fun e w' h => ⟨h.1, _, h.2⟩ | exact (unhide hl2 _).mono fun e w' h => ⟨h.1, _, h.2⟩)
          have HP := HN nq
          clear HN hl1 hl2 cX
          generalize z.drewN nq = z1 at *
          go_wp2_with fail
          refine (qall_any _ _).mono ?_
          rintro e zz ⟨rfl, rfl⟩
          have h2 := HP.out
          obtain ⟨V0, hV0⟩ : ∃ V0, (z1.alloc (.cells #[.int .i64 0] 3)).alloc (.cells #[.pointer (some ⟨b.p, 0, none⟩)] 24) = V0 := ⟨_, rfl⟩
          have hsz : V0.heap.size = z1.heap.size + 2 := by rw [← hV0]; simp
          have hB3 : Below z1.heap.size z1 V0 := by rw [← hV0]; exact Below.then (alloc_on z1 _) (alloc_on _ _)
          have hT : Row V0 z1.heap.size [.int .i64 ((0 : Nat) : Int)] := by rw [← hV0]; exact (row_new z1 [.int .i64 0] 3).on' (alloc_on _ _)
          have hZc : V0.cell? ⟨z1.heap.size + 1, 0, none⟩ = some (.pointer (some ⟨b.p, 0, none⟩)) := by rw [← hV0]; simp [go_sem]
          have h3 := h2.on hB3
          obtain ⟨l1, l2, l3⟩ := h2.lt
          have hwr : w.heap.size ≤ z1.heap.size := h2.one.below.size
          obtain ⟨T, hTe⟩ : ∃ T, z1.heap.size = T := ⟨_, rfl⟩
          rw [hTe] at hsz hT hZc l1 l2 l3 hwr
          clear h2 hB3
          have hbp : b.p < T := l1 _ (by simp [qfeet])
          have hbm : b.m < T := l1 _ (by simp [qfeet])
          have hYT : w.heap.size < T := l3 _ (fxs_y X w.heap.size c Ds)
          have hDT : ∀ D ∈ Ds, D < T := fun D hD => l3 _ (fxs_d X w.heap.size c hD)
          go_wp2_with fail
          try simp only [hTe]
          refine wp_all1 12 13 (b := b) (L := p'.L) (B := T + 1) rfl h3.inv.ids h3.inv.idr h3.inv.len hZc h3.one.at_.lk (fun k => k ≠ T) (fun k hk => by omega) (by omega) (by omega) (by omega)
            (fun k W => Pair w w1.heap.size w2.heap.size r (fxs X w.heap.size c Ds) W b v' c u' uL' p' p' ∧ Row W T [.int .i64 (k : Int)]) (fun _ _ _ => False)
            (fun k W W' h hb => ⟨h.1.keep (fun y hy => by have := l1 y hy; omega) (fun y hy => by have := l2 y hy; omega) (fun f hf => by have := l3 f hf; omega) (by omega) hb, h.2.on hb (by omega)⟩) (fun _ _ _ _ h _ => h)
            ⟨h3, hT⟩ ?assign ?body ?done (fun _ _ _ h _ => h.elim)
          case assign =>
            intro l k W K hK
            simp only [varAct, allAct] at hK ⊢
            gi_wp2
            simpa using hK
          case body =>
            rintro l k xx W hk ⟨h4, h5⟩ hxx hrow
            obtain ⟨m, hm⟩ : ∃ m, p'.L[k]? = some m := ⟨_, List.getElem?_eq_getElem hk⟩
            have hgd : p'.L.getD k noMem = m := by rw [List.getD_eq_getElem?_getD, hm]; rfl
            rw [hgd] at hrow
            obtain ⟨g, gc, hvL, m0, m1, m2, m3, m4, _, _⟩ := h4.two.mem k m hm
            subst hvL
            have cT := h5.cell 0 _ rfl
            have gT := h5.free 0
            have cX := (h4.row (l := [.pointer (some ⟨c.p, 0, none⟩)]) (fxs_x X w.heap.size c Ds)).cell 0 _ rfl
            have cP := h4.two.cells.2.2.1
            have r0 := hrow.cell 0 _ rfl
            have r1 := hrow.cell 1 _ rfl
            have r2 := hrow.cell 2 _ rfl
            have hkb : (k : Int) ≤ 1000000 := by have := h4.inv.len; omega
            have hk1 : (k : Int) < p'.L.length := by omega
            have hge : ¬ (p'.L.length : Int) ≤ k := by omega
            have hkl : ¬ p'.L.length ≤ k := by omega
            have q1 : Pair w w1.heap.size w2.heap.size r (fxs X w.heap.size c Ds) (W.setCell ⟨T, 0, none⟩ (.int .i64 ((k : Int) + 1))).drew b v' c u' (.slice (some ⟨g, 0, none⟩) p'.L.length gc) p' p' := (h4.other l1 l2 l3 hwr 0 _).drew
            have q2 : Row (W.setCell ⟨T, 0, none⟩ (.int .i64 ((k : Int) + 1))).drew T [.int .i64 ((k + 1 : Nat) : Int)] := (h5.set 0 (.int .i64 ((k : Int) + 1))).of_block rfl
            have H : Shut _ := ⟨(⟨q1, q2⟩ : _ ∧ _)⟩
            clear q1 q2 h4 h5 hrow h3 hT
            obtain ⟨x0, x1, x2, x3, x4⟩ := m
            simp only [varAct, allAct, hgd]
            clear hgd hm m4
            gi_wp2
            try simp only [List.setIfInBounds_toArray, List.set_cons_succ, List.set_cons_zero]
            refine region_read_in (by kernel_rfl) [.int .i64 (k : Int), .pointer (some ⟨c.p, 0, none⟩), .pointer (some ⟨c.p, 0, none⟩), .pointer (some ⟨c.p, 2, none⟩), (.slice (some ⟨g, 0, none⟩) p'.L.length gc), (.int .i64 (p'.L.length : Int)), .bool false, .bool false, (.agg #[.int .i64 (x0 : Int), .int .u32 (x1 : Int), .int .i64 (x2 : Int)]), .pointer (some ⟨c.p, 0, none⟩), .pointer (some ⟨c.p, 0, none⟩), .pointer (some ⟨c.p, 2, none⟩), (.slice (some ⟨g, 0, none⟩) p'.L.length gc), .int .i64 (k : Int), .pointer (some ⟨g, k * 5, none⟩), .pointer (some ⟨g, k * 5, none⟩), (.agg #[.int .i64 (x0 : Int), .int .u32 (x1 : Int), .int .i64 (x2 : Int)]), .bool false, .bool false, .bool false, .int .i64 (x3 : Int), .pointer (some ⟨c.p, 0, none⟩), .pointer (some ⟨c.p, 0, none⟩), .pointer (some ⟨c.p, 2, none⟩), (.slice (some ⟨g, 0, none⟩) p'.L.length gc), .int .i64 (k : Int), .pointer (some ⟨g, k * 5, none⟩), .pointer (some ⟨g, k * 5 + 3, none⟩), .int .i64 (x3 : Int), .bool false, .bool false] (by kernel_rfl) (by kernel_rfl) ?op ?fin
            case op =>
              intro io o bx ho hS
              match io, ho with
              | 0, ho =>
                obtain rfl := Option.some.inj ho
                have d11 : bx.tmps.getD 11 undef = .pointer (some ⟨T, 0, none⟩) := hS.base 11 (by kernel_rfl)
                refine .inl ⟨rfl, ?_⟩
                simp [Act.eval, d11, go_sem, cT]
              | 1, ho =>
                obtain rfl := Option.some.inj ho
                have d8 : bx.tmps.getD 8 undef = .pointer (some ⟨X, 0, none⟩) := hS.base 8 (by kernel_rfl)
                refine .inl ⟨rfl, ?_⟩
                simp [Act.eval, d8, go_sem, cX]
              | 2, ho =>
                obtain rfl := Option.some.inj ho
                have d80 : bx.tmps.getD 80 undef = .pointer (some ⟨c.p, 0, none⟩) := hS.dep 1 80 (by kernel_rfl) (by kernel_rfl)
                refine .inl ⟨rfl, ?_⟩
                simp [Act.eval, d80, go_sem]
              | 3, ho =>
                obtain rfl := Option.some.inj ho
                have d81 : bx.tmps.getD 81 undef = .pointer (some ⟨c.p, 0, none⟩) := hS.dep 2 81 (by kernel_rfl) (by kernel_rfl)
                refine .inl ⟨rfl, ?_⟩
                simp [Act.eval, d81, go_sem]
              | 4, ho =>
                obtain rfl := Option.some.inj ho
                have d82 : bx.tmps.getD 82 undef = .pointer (some ⟨c.p, 2, none⟩) := hS.dep 3 82 (by kernel_rfl) (by kernel_rfl)
                refine .inl ⟨rfl, ?_⟩
                simp [Act.eval, d82, go_sem, cP]
              | 5, ho =>
                obtain rfl := Option.some.inj ho
                have d83 : bx.tmps.getD 83 undef = (.slice (some ⟨g, 0, none⟩) p'.L.length gc) := hS.dep 4 83 (by kernel_rfl) (by kernel_rfl)
                refine .inl ⟨rfl, ?_⟩
                simp [Act.eval, d83, go_sem]
              | 6, ho =>
                obtain rfl := Option.some.inj ho
                have d79 : bx.tmps.getD 79 undef = .int .i64 (k : Int) := hS.dep 0 79 (by kernel_rfl) (by kernel_rfl)
                have d84 : bx.tmps.getD 84 undef = (.int .i64 (p'.L.length : Int)) := hS.dep 5 84 (by kernel_rfl) (by kernel_rfl)
                refine .inl ⟨rfl, ?_⟩
                simp [Act.eval, d79, d84, go_sem, hkl]
              | 7, ho =>
                obtain rfl := Option.some.inj ho
                have d85 : bx.tmps.getD 85 undef = .bool false := hS.dep 6 85 (by kernel_rfl) (by kernel_rfl)
                refine .inl ⟨rfl, ?_⟩
                simp [execOp, Act.eval, d85]
              | 8, ho =>
                obtain rfl := Option.some.inj ho
                have d12 : bx.tmps.getD 12 undef = .pointer (some ⟨xx, 0, none⟩) := hS.base 12 (by kernel_rfl)
                have gd : bx.tmps.getD 86 undef = .bool false := hS.dep 7 86 (by kernel_rfl) (by kernel_rfl)
                refine .inl ⟨wanted_yes (j := 7) (t := 86) (c := false) (by kernel_rfl) (by kernel_rfl) gd, ?_⟩
                simp [Act.eval, d12, go_sem, r0, r1, r2]
              | 9, ho =>
                obtain rfl := Option.some.inj ho
                have d8 : bx.tmps.getD 8 undef = .pointer (some ⟨X, 0, none⟩) := hS.base 8 (by kernel_rfl)
                have gd : bx.tmps.getD 86 undef = .bool false := hS.dep 7 86 (by kernel_rfl) (by kernel_rfl)
                refine .inl ⟨wanted_yes (j := 7) (t := 86) (c := false) (by kernel_rfl) (by kernel_rfl) gd, ?_⟩
                simp [Act.eval, d8, go_sem, cX]
              | 10, ho =>
                obtain rfl := Option.some.inj ho
                have d88 : bx.tmps.getD 88 undef = .pointer (some ⟨c.p, 0, none⟩) := hS.dep 9 88 (by kernel_rfl) (by kernel_rfl)
                have gd : bx.tmps.getD 86 undef = .bool false := hS.dep 7 86 (by kernel_rfl) (by kernel_rfl)
                refine .inl ⟨wanted_yes (j := 7) (t := 86) (c := false) (by kernel_rfl) (by kernel_rfl) gd, ?_⟩
                simp [Act.eval, d88, go_sem]
              | 11, ho =>
                obtain rfl := Option.some.inj ho
                have d89 : bx.tmps.getD 89 undef = .pointer (some ⟨c.p, 0, none⟩) := hS.dep 10 89 (by kernel_rfl) (by kernel_rfl)
                have gd : bx.tmps.getD 86 undef = .bool false := hS.dep 7 86 (by kernel_rfl) (by kernel_rfl)
                refine .inl ⟨wanted_yes (j := 7) (t := 86) (c := false) (by kernel_rfl) (by kernel_rfl) gd, ?_⟩
                simp [Act.eval, d89, go_sem]
              | 12, ho =>
                obtain rfl := Option.some.inj ho
                have d90 : bx.tmps.getD 90 undef = .pointer (some ⟨c.p, 2, none⟩) := hS.dep 11 90 (by kernel_rfl) (by kernel_rfl)
                have gd : bx.tmps.getD 86 undef = .bool false := hS.dep 7 86 (by kernel_rfl) (by kernel_rfl)
                refine .inl ⟨wanted_yes (j := 7) (t := 86) (c := false) (by kernel_rfl) (by kernel_rfl) gd, ?_⟩
                simp [Act.eval, d90, go_sem, cP]
              | 13, ho =>
                obtain rfl := Option.some.inj ho
                have d11 : bx.tmps.getD 11 undef = .pointer (some ⟨T, 0, none⟩) := hS.base 11 (by kernel_rfl)
                have gd : bx.tmps.getD 86 undef = .bool false := hS.dep 7 86 (by kernel_rfl) (by kernel_rfl)
                refine .inl ⟨wanted_yes (j := 7) (t := 86) (c := false) (by kernel_rfl) (by kernel_rfl) gd, ?_⟩
                simp [Act.eval, d11, go_sem, cT]
              | 14, ho =>
                obtain rfl := Option.some.inj ho
                have d91 : bx.tmps.getD 91 undef = (.slice (some ⟨g, 0, none⟩) p'.L.length gc) := hS.dep 12 91 (by kernel_rfl) (by kernel_rfl)
                have d92 : bx.tmps.getD 92 undef = .int .i64 (k : Int) := hS.dep 13 92 (by kernel_rfl) (by kernel_rfl)
                have gd : bx.tmps.getD 86 undef = .bool false := hS.dep 7 86 (by kernel_rfl) (by kernel_rfl)
                refine .inl ⟨wanted_yes (j := 7) (t := 86) (c := false) (by kernel_rfl) (by kernel_rfl) gd, ?_⟩
                simp [Act.eval, d91, d92, go_sem, hk1]
              | 15, ho =>
                obtain rfl := Option.some.inj ho
                have d93 : bx.tmps.getD 93 undef = .pointer (some ⟨g, k * 5, none⟩) := hS.dep 14 93 (by kernel_rfl) (by kernel_rfl)
                have gd : bx.tmps.getD 86 undef = .bool false := hS.dep 7 86 (by kernel_rfl) (by kernel_rfl)
                refine .inl ⟨wanted_yes (j := 7) (t := 86) (c := false) (by kernel_rfl) (by kernel_rfl) gd, ?_⟩
                simp [Act.eval, d93, go_sem]
              | 16, ho =>
                obtain rfl := Option.some.inj ho
                have d94 : bx.tmps.getD 94 undef = .pointer (some ⟨g, k * 5, none⟩) := hS.dep 15 94 (by kernel_rfl) (by kernel_rfl)
                have gd : bx.tmps.getD 86 undef = .bool false := hS.dep 7 86 (by kernel_rfl) (by kernel_rfl)
                refine .inl ⟨wanted_yes (j := 7) (t := 86) (c := false) (by kernel_rfl) (by kernel_rfl) gd, ?_⟩
                simp [Act.eval, d94, go_sem, m0, m1, m2]
              | 17, ho =>
                obtain rfl := Option.some.inj ho
                have d87 : bx.tmps.getD 87 undef = (.agg #[.int .i64 (x0 : Int), .int .u32 (x1 : Int), .int .i64 (x2 : Int)]) := hS.dep 8 87 (by kernel_rfl) (by kernel_rfl)
                have d95 : bx.tmps.getD 95 undef = (.agg #[.int .i64 (x0 : Int), .int .u32 (x1 : Int), .int .i64 (x2 : Int)]) := hS.dep 16 95 (by kernel_rfl) (by kernel_rfl)
                have gd : bx.tmps.getD 86 undef = .bool false := hS.dep 7 86 (by kernel_rfl) (by kernel_rfl)
                refine .inl ⟨wanted_yes (j := 7) (t := 86) (c := false) (by kernel_rfl) (by kernel_rfl) gd, ?_⟩
                simp [Act.eval, d87, d95, go_sem]
              | 18, ho =>
                obtain rfl := Option.some.inj ho
                have d86 : bx.tmps.getD 86 undef = .bool false := hS.dep 7 86 (by kernel_rfl) (by kernel_rfl)
                have d96 : bx.tmps.getD 96 undef = .bool false := hS.dep 17 96 (by kernel_rfl) (by kernel_rfl)
                refine .inl ⟨rfl, ?_⟩
                simp [Act.eval, d86, d96, go_sem]
              | 19, ho =>
                obtain rfl := Option.some.inj ho
                have d97 : bx.tmps.getD 97 undef = .bool false := hS.dep 18 97 (by kernel_rfl) (by kernel_rfl)
                refine .inl ⟨rfl, ?_⟩
                simp [execOp, Act.eval, d97]
              | 20, ho =>
                obtain rfl := Option.some.inj ho
                have d13 : bx.tmps.getD 13 undef = .int .i64 (x3 : Int) := hS.base 13 (by kernel_rfl)
                have gd : bx.tmps.getD 98 undef = .bool false := hS.dep 19 98 (by kernel_rfl) (by kernel_rfl)
                refine .inl ⟨wanted_yes (j := 19) (t := 98) (c := false) (by kernel_rfl) (by kernel_rfl) gd, ?_⟩
                simp [execOp, Act.eval, d13]
              | 21, ho =>
                obtain rfl := Option.some.inj ho
                have d8 : bx.tmps.getD 8 undef = .pointer (some ⟨X, 0, none⟩) := hS.base 8 (by kernel_rfl)
                have gd : bx.tmps.getD 98 undef = .bool false := hS.dep 19 98 (by kernel_rfl) (by kernel_rfl)
                refine .inl ⟨wanted_yes (j := 19) (t := 98) (c := false) (by kernel_rfl) (by kernel_rfl) gd, ?_⟩
                simp [Act.eval, d8, go_sem, cX]
              | 22, ho =>
                obtain rfl := Option.some.inj ho
                have d100 : bx.tmps.getD 100 undef = .pointer (some ⟨c.p, 0, none⟩) := hS.dep 21 100 (by kernel_rfl) (by kernel_rfl)
                have gd : bx.tmps.getD 98 undef = .bool false := hS.dep 19 98 (by kernel_rfl) (by kernel_rfl)
                refine .inl ⟨wanted_yes (j := 19) (t := 98) (c := false) (by kernel_rfl) (by kernel_rfl) gd, ?_⟩
                simp [Act.eval, d100, go_sem]
              | 23, ho =>
                obtain rfl := Option.some.inj ho
                have d101 : bx.tmps.getD 101 undef = .pointer (some ⟨c.p, 0, none⟩) := hS.dep 22 101 (by kernel_rfl) (by kernel_rfl)
                have gd : bx.tmps.getD 98 undef = .bool false := hS.dep 19 98 (by kernel_rfl) (by kernel_rfl)
                refine .inl ⟨wanted_yes (j := 19) (t := 98) (c := false) (by kernel_rfl) (by kernel_rfl) gd, ?_⟩
                simp [Act.eval, d101, go_sem]
              | 24, ho =>
                obtain rfl := Option.some.inj ho
                have d102 : bx.tmps.getD 102 undef = .pointer (some ⟨c.p, 2, none⟩) := hS.dep 23 102 (by kernel_rfl) (by kernel_rfl)
                have gd : bx.tmps.getD 98 undef = .bool false := hS.dep 19 98 (by kernel_rfl) (by kernel_rfl)
                refine .inl ⟨wanted_yes (j := 19) (t := 98) (c := false) (by kernel_rfl) (by kernel_rfl) gd, ?_⟩
                simp [Act.eval, d102, go_sem, cP]
              | 25, ho =>
                obtain rfl := Option.some.inj ho
                have d11 : bx.tmps.getD 11 undef = .pointer (some ⟨T, 0, none⟩) := hS.base 11 (by kernel_rfl)
                have gd : bx.tmps.getD 98 undef = .bool false := hS.dep 19 98 (by kernel_rfl) (by kernel_rfl)
                refine .inl ⟨wanted_yes (j := 19) (t := 98) (c := false) (by kernel_rfl) (by kernel_rfl) gd, ?_⟩
                simp [Act.eval, d11, go_sem, cT]
              | 26, ho =>
                obtain rfl := Option.some.inj ho
                have d103 : bx.tmps.getD 103 undef = (.slice (some ⟨g, 0, none⟩) p'.L.length gc) := hS.dep 24 103 (by kernel_rfl) (by kernel_rfl)
                have d104 : bx.tmps.getD 104 undef = .int .i64 (k : Int) := hS.dep 25 104 (by kernel_rfl) (by kernel_rfl)
                have gd : bx.tmps.getD 98 undef = .bool false := hS.dep 19 98 (by kernel_rfl) (by kernel_rfl)
                refine .inl ⟨wanted_yes (j := 19) (t := 98) (c := false) (by kernel_rfl) (by kernel_rfl) gd, ?_⟩
                simp [Act.eval, d103, d104, go_sem, hk1]
              | 27, ho =>
                obtain rfl := Option.some.inj ho
                have d105 : bx.tmps.getD 105 undef = .pointer (some ⟨g, k * 5, none⟩) := hS.dep 26 105 (by kernel_rfl) (by kernel_rfl)
                have gd : bx.tmps.getD 98 undef = .bool false := hS.dep 19 98 (by kernel_rfl) (by kernel_rfl)
                refine .inl ⟨wanted_yes (j := 19) (t := 98) (c := false) (by kernel_rfl) (by kernel_rfl) gd, ?_⟩
                simp [Act.eval, d105, go_sem]
              | 28, ho =>
                obtain rfl := Option.some.inj ho
                have d106 : bx.tmps.getD 106 undef = .pointer (some ⟨g, k * 5 + 3, none⟩) := hS.dep 27 106 (by kernel_rfl) (by kernel_rfl)
                have gd : bx.tmps.getD 98 undef = .bool false := hS.dep 19 98 (by kernel_rfl) (by kernel_rfl)
                refine .inl ⟨wanted_yes (j := 19) (t := 98) (c := false) (by kernel_rfl) (by kernel_rfl) gd, ?_⟩
                simp [Act.eval, d106, go_sem, m3]
              | 29, ho =>
                obtain rfl := Option.some.inj ho
                have d99 : bx.tmps.getD 99 undef = .int .i64 (x3 : Int) := hS.dep 20 99 (by kernel_rfl) (by kernel_rfl)
                have d107 : bx.tmps.getD 107 undef = .int .i64 (x3 : Int) := hS.dep 28 107 (by kernel_rfl) (by kernel_rfl)
                have gd : bx.tmps.getD 98 undef = .bool false := hS.dep 19 98 (by kernel_rfl) (by kernel_rfl)
                refine .inl ⟨wanted_yes (j := 19) (t := 98) (c := false) (by kernel_rfl) (by kernel_rfl) gd, ?_⟩
                simp [Act.eval, d99, d107, go_sem]
              | 30, ho =>
                obtain rfl := Option.some.inj ho
                have d98 : bx.tmps.getD 98 undef = .bool false := hS.dep 19 98 (by kernel_rfl) (by kernel_rfl)
                have d108 : bx.tmps.getD 108 undef = .bool false := hS.dep 29 108 (by kernel_rfl) (by kernel_rfl)
                refine .inl ⟨rfl, ?_⟩
                simp [Act.eval, d98, d108, go_sem]
              | n + 31, ho => exact absurd ho (by simp)
            case fin =>
              simp [putAll, dstAt, Act.put]
              gi_wp2
              exact ⟨(Keeps.refl _ _).drew.setCell (p := ⟨T, 0, none⟩) (by simp) _, H.out⟩
          case done =>
            rintro W ⟨h4, h5⟩ hK
            have cT := h5.cell 0 _ rfl
            have cX := (h4.row (l := [.pointer (some ⟨c.p, 0, none⟩)]) (fxs_x X w.heap.size c Ds)).cell 0 _ rfl
            have cP := h4.two.cells.2.2.1
            obtain ⟨al, acp, hvL⟩ := h4.two.shape
            rw [hvL] at cP
            have h6 : Pair w w1.heap.size w2.heap.size r (fxs X w.heap.size c (V0.heap.size :: Ds)) W b v' c u' uL' p' p' := by
              refine ⟨h4.one, h4.two, h4.inv, h4.wb, h4.off, fun f hf => ?_⟩
              rcases List.mem_cons.1 hf with rfl | hf
              · exact h4.fix _ (fxs_x X w.heap.size c Ds)
              rcases List.mem_cons.1 hf with rfl | hf
              · exact h4.fix _ (fxs_y X w.heap.size c Ds)
              rcases List.mem_cons.1 hf with rfl | hf
              · refine ⟨hK, fun hx => ?_, fun hx => ?_⟩
                · have := l1 _ hx
                  simp only at this
                  omega
                · have := l2 _ hx
                  simp only at this
                  omega
              · exact h4.fix _ (List.mem_cons_of_mem _ (List.mem_cons_of_mem _ hf))
            have HN : ∀ m, Shut (Pair w w1.heap.size w2.heap.size r (fxs X w.heap.size c (V0.heap.size :: Ds)) (W.drewN m) b v' c u' uL' p' p' ∧ (V0.heap.size :: Ds).Nodup ∧ ∀ D ∈ V0.heap.size :: Ds, w.heap.size ≤ D ∧ D ≠ w.heap.size) := fun m => ⟨h6.drewN m, List.nodup_cons.2 ⟨fun hD => by have := hDT _ hD; omega, HDd.out.1⟩, fun D hD => by
              rcases List.mem_cons.1 hD with rfl | hD
              · omega
              · exact HDd.out.2 D hD⟩
            clear h3 h4 h5 h6 hT
            go_wp2_with fail
            go_quiet (fail)
            go_wp2_with fail
            refine ⟨?_, ?measure⟩
            · refine ⟨i + 1, v', u', uL', p', V0.heap.size :: Ds, ?_⟩
              (repeat apply Exists.intro)
              exact ⟨by omega, HN _, by first | rfl | (simp [marks]; rfl)⟩
            case measure => simp [intOf]; omega
      · have h601 : decide ((i : Int) < 60) = false := by simp; omega
        have h602 : decide (i < 60) = false := by simp; omega
        clear h60
        have hP := HT.out.1
        have hy := hP.row (l := [.bool false]) (fxs_y X w.heap.size c Ds)
        have cy := hy.cell 0 _ rfl
        have gy := hy.free 0
        have HY2 : Shut _ := ⟨hy.set 0 (.bool true)⟩
        have HBl : Shut (Below w.heap.size w (wr.setCell ⟨w.heap.size, 0, none⟩ (.bool true))) := ⟨hP.one.below.setCell (p := ⟨w.heap.size, 0, none⟩) (Nat.le_refl _) _⟩
        clear hP hy hlt
        go_wp2_with fail
        exact leaves_marks rfl rfl Ds _ HT.out.2.1 (fun D hD => ⟨(Below.heap_setCell _ _ _ _ (HT.out.2.2 D hD).2).trans (HT.out.1.fix _ (fxs_d X w.heap.size c hD)).1, (HT.out.2.2 D hD).1, (HT.out.2.2 D hD).2⟩) (HY2.out.cell 0 _ rfl) HBl.out
    · have hl1 : decide ((i : Int) < len) = false := by simp; omega
      have hl2 : decide (i < len) = false := by simp; omega
      have hP := HT.out.1
      have hy := hP.row (l := [.bool false]) (fxs_y X w.heap.size c Ds)
      have cy := hy.cell 0 _ rfl
      have gy := hy.free 0
      have HY2 : Shut _ := ⟨hy.set 0 (.bool true)⟩
      have HBl : Shut (Below w.heap.size w (wr.setCell ⟨w.heap.size, 0, none⟩ (.bool true))) := ⟨hP.one.below.setCell (p := ⟨w.heap.size, 0, none⟩) (Nat.le_refl _) _⟩
      clear hP hy hlt
      go_wp2_with fail
      exact leaves_marks rfl rfl Ds _ HT.out.2.1 (fun D hD => ⟨(Below.heap_setCell _ _ _ _ (HT.out.2.2 D hD).2).trans (HT.out.1.fix _ (fxs_d X w.heap.size c hD)).1, (HT.out.2.2 D hD).1, (HT.out.2.2 D hD).2⟩) (HY2.out.cell 0 _ rfl) HBl.out
end Go.Proofs.Ytckkdgifjgkoaaa
