/- The law on deeds, where the room is one as it came in. -/
import Derived.Test.YtmmaglhilghofaaAnTwo
namespace Go.Proofs.Ytmmaglhilghofaa
open Go.ChangeShapes Go.WideShapes Go.ChangeAt Go.RowKit Go.Shelf An Sp
attribute [local go_sem] Oper.semAt_some

set_option maxRecDepth 100000 in
set_option maxHeartbeats 40000000 in
theorem plays_good2 (r n : Nat) (a : Option Addr) (len cap : Nat) (h1 : ¬ 60 < (r : Int)) (hr : r ≤ 60) (hn0 : 1 ≤ n) (hnr : n ≤ r) (w : World) (hds : IsDeeds w a len cap) :
    Calls Try.prog 3 #[.int .i64 (r : Int), .int .i64 (n : Int), .slice a len cap] w fun e w' => e = .returned (.bool true) ∧ Below w.heap.size w w' := by
  have hnew := fun u => new_made r n hn0 hnr (by omega) u
  have hrnew := fun u => rnew_made r n hn0 hnr (by omega) u
  have hre : An.Reach r (An.start r n) := reach_start r (r - n) n rfl hn0 hnr
  have HS : Shut (r ≤ 60 ∧ 1 ≤ n ∧ n ≤ r) := ⟨hr, hn0, hnr⟩
  generalize An.start r n = s0 at *
  clear hr hn0 hnr
  refine (callsIn_wide (n := 0)).1 ?_
  refine callsIn_of_wp_marks Try.func3 rfl trivial ?_ rfl
  simp only [Try.ntmps3, List.size_toArray, List.length_cons, List.length_nil, Nat.reduceAdd, Nat.reduceSub, Array.replicate_succ, Array.replicate_zero, List.push_toArray, List.append_toArray, List.nil_append, List.cons_append]
  refine wpIn_wide.2 ?_
  go_wp2_with fail
  refine (examples_any _).mono ?_
  rintro e w1 ⟨rfl, hb1⟩
  have HX : Shut (Row w1 w.heap.size [.int .i64 (r : Int)]) := ⟨(row_alloc.on' ((Below.refl _ _).alloc (Nat.le_refl _) _)).on' hb1⟩
  have HY : Shut (Row w1 (w.heap.size + 1) [.bool false]) := ⟨by
    have h := row_alloc (w := w.alloc (.cells #[.int .i64 (r : Int)] 3)) (x := .bool false) (t := 4)
    rw [World.size_alloc] at h
    exact h.on' hb1⟩
  have HW : Shut (Below w.heap.size w w1) := ⟨Below.then (((Below.refl _ w).alloc (Nat.le_refl _) (.cells #[.int .i64 (r : Int)] 3)).alloc (by simp) (.cells #[.bool false] 4)) hb1⟩
  clear hb1
  have cx := HX.out.cell 0 _ rfl
  have HX2 := HX
  have HY2 := HY
  have HW2 := HW
  clear HX HY HW
  go_wp2_with fail
  obtain ⟨W, hW⟩ : ∃ W, w1 = W := ⟨_, rfl⟩
  rw [hW] at HX2 HY2 HW2 ⊢
  clear hW cx
  have cx := HX2.out.cell 0 _ rfl
  have lx := HX2.out.lt
  go_wp2_with fail
  refine (hnew _).mono ?_
  rintro e W2 ⟨bk, v, rfl, hA, hb⟩
  have HA : Shut _ := ⟨hA⟩
  have HB : Shut _ := ⟨hb⟩
  have cx2 := (HX2.out.on' hb).cell 0 _ rfl
  clear hA hb hnew cx lx
  go_wp2_with fail
  refine (hrnew _).mono ?_
  rintro e W3 ⟨bk', v', rfl, hx, hb'⟩
  have htwo := (two_start HX2.out HY2.out HW2.out HA.out HB.out hx hb' hre hre).box [.pointer (some ⟨bk'.p, 0, none⟩)] 28
  have HT0 : Shut _ := ⟨htwo⟩
  clear hx hb' hrnew htwo HA HB HX2 HY2 HW2 cx2 hre
  go_wp2_with fail
  generalize W3.alloc (.cells #[.pointer (some ⟨bk'.p, 0, none⟩)] 28) = W4 at *
  generalize W3.heap.size = P at *
  go_loopw [11] (fun y W => ∃ (i : Nat) (v v' : Value) (s : An), y = .int .i64 (i : Int) ∧ i ≤ 60 ∧ Shut (Two w r [(P, [.pointer (some ⟨bk'.p, 0, none⟩)]), (w.heap.size, [.int .i64 (r : Int)]), (w.heap.size + 1, [.bool false])] W bk v bk' v' s s)) (fun y _ => 60 - (intOf y).toNat)
  case atStart => exact ⟨0, v, v', s0, rfl, by omega, HT0⟩
  case round =>
    obtain ⟨i, v, v', s, rfl, hi, HT⟩ := hrel
    clear HT0
    by_cases hlt : i < len
    · have hlt1 : (i : Int) < len := by omega
      by_cases h60 : i < 60
      · have h601 : (i : Int) < 60 := by omega
        obtain ⟨x, d, rfl, hd⟩ := (hds.on HT.out.below).get i hlt
        have h2 := HT.out.box [.int .i64 d.kind, .int .i64 d.b, .int .u64 d.k] 32
        have c0 : wr.cell? (x.add (i * 3)) = some (.int .i64 d.kind) := hd.c0
        have c1 : wr.cell? ⟨(x.add (i * 3)).block, (x.add (i * 3)).off + 1, none⟩ = some (.int .i64 d.b) := hd.c1
        have c2 : wr.cell? ⟨(x.add (i * 3)).block, (x.add (i * 3)).off + 2, none⟩ = some (.int .u64 d.k) := hd.c2
        obtain ⟨kk, hkk⟩ : ∃ kk : Int, 0 ≤ kk ∧ kk ≤ 9223372036854775807 ∧ ((decide (d.kind < 0) = true ∧ -(d.kind + 1) = kk) ∨ (decide (d.kind < 0) = false ∧ d.kind = kk)) := by
          have := hd.wf.1
          by_cases h : d.kind < 0
          · exact ⟨_, by omega, by omega, .inl ⟨by simpa using h, rfl⟩⟩
          · exact ⟨_, by omega, by omega, .inr ⟨by simpa using h, rfl⟩⟩
        have cx := (HT.out.fix (w.heap.size, [.int .i64 (r : Int)]) (by simp)).1.cell 0 _ rfl
        have lx : w.heap.size < wr.heap.size := (HT.out.fix (w.heap.size, [.int .i64 (r : Int)]) (by simp)).1.lt
        obtain ⟨κ, hκ⟩ : ∃ κ, d.b.tmod (r : Int) = κ := ⟨_, rfl⟩
        have hr0 : ¬ (r : Int) = 0 := by have := HS.out; omega
        have HD : Shut _ := ⟨hd⟩
        have hwk := hd.wf.1
        have hmod : kk % 4 = 0 ∧ kk.tmod 4 = 0 ∨ kk % 4 = 1 ∧ kk.tmod 4 = 1 ∨ kk % 4 = 2 ∧ kk.tmod 4 = 2 ∨ kk % 4 = 3 ∧ kk.tmod 4 = 3 := by
          have := Int.tmod_eq_emod_of_nonneg (b := 4) hkk.1
          omega
        clear HT hd
        rcases hkk with ⟨k0, k1, ⟨s1, s2⟩ | ⟨s1, rfl⟩⟩
        · rcases hmod with ⟨m1, m2⟩ | ⟨m1, m2⟩ | ⟨m1, m2⟩ | ⟨m1, m2⟩
          · go_wp2_with fail
            generalize wr.alloc (.cells #[.int .i64 d.kind, .int .i64 d.b, .int .u64 d.k] 32) = Wt at *
            generalize wr.heap.size = T at *
            clear c0 c1 c2 cx lx m1 m2 s1 s2 k0 k1 hwk
            have hca := add_any h2.a h2.ra (by have := HS.out; omega)
            obtain ⟨B, hB⟩ : ∃ B, addB s = B := ⟨_, rfl⟩
            obtain ⟨E, hE⟩ : ∃ E, addE s = E := ⟨_, rfl⟩
            rw [hB, hE] at hca
            have HT3 : Shut _ := ⟨h2⟩
            clear h2
            refine hca.mono ?_
            rintro e u1 ⟨rfl, z, hA1, hw1⟩
            have h3 := HT3.out.wentA hA1 hw1 (reach_add HT3.out.ra)
            have hcx := radd_any h3.x h3.rx (by have := HS.out; omega)
            rw [hB, hE] at hcx
            have cp := (h3.fix (P, [.pointer (some ⟨bk'.p, 0, none⟩)]) (by simp)).1.cell 0 _ rfl
            have HT4 : Shut _ := ⟨h3⟩
            clear h3 hA1 hw1 hca HT3
            go_wp2_with fail
            refine hcx.mono ?_
            rintro e u ⟨rfl, z', hA1, hw1⟩
            have HZ : Shut (Two w r ((T, [.int .i64 d.kind, .int .i64 d.b, .int .u64 d.k]) :: [(P, [.pointer (some ⟨bk'.p, 0, none⟩)]), (w.heap.size, [.int .i64 (r : Int)]), (w.heap.size + 1, [.bool false])]) u bk z bk' z' (addS s) (addS s)) := ⟨HT4.out.wentR hA1 hw1 (reach_add HT4.out.rx)⟩
            clear hA1 hw1 hcx HT4 cp hB hE
            have cp := (HZ.out.fix (P, [.pointer (some ⟨bk'.p, 0, none⟩)]) (by simp)).1.cell 0 _ rfl
            have cn := HZ.out.x.headR.2.2.2.2.2
            have hl := fun m => len_any (HZ.out.drewN m).a
            have HN : ∀ m, Shut (Two w r [(P, [.pointer (some ⟨bk'.p, 0, none⟩)]), (w.heap.size, [.int .i64 (r : Int)]), (w.heap.size + 1, [.bool false])] (u.drewN m) bk z bk' z' (addS s) (addS s)) := fun m => ⟨(HZ.out.drewN m).less fun p hp => List.mem_cons_of_mem _ hp⟩
            obtain ⟨N, hN⟩ : ∃ N, (addS s).n = N := ⟨_, rfl⟩
            rw [hN] at cn hl
            clear hN HZ
            go_wp2_with fail
            go_quiet (exact (hl _).mono fun e w' h => ⟨h.1, _, h.2⟩)
            go_wp2_with fail
            go_roundw
            case rel => exact ⟨i + 1, _, _, _, by go_num, by omega, HN _⟩
            case measure => simp [intOf]; omega
          · go_wp2_with fail
            generalize wr.alloc (.cells #[.int .i64 d.kind, .int .i64 d.b, .int .u64 d.k] 32) = Wt at *
            generalize wr.heap.size = T at *
            clear c0 c1 c2 cx lx m1 m2 s1 s2 k0 k1 hwk
            obtain ⟨E, hE⟩ : ∃ E, remE s (d.b) = E := ⟨_, rfl⟩
            obtain ⟨J, hJd⟩ : ∃ J : Bool → Bool → World → Prop, J = fun p q u => ∃ z z', Two w r ((T, [.int .i64 d.kind, .int .i64 d.b, .int .u64 d.k]) :: [(P, [.pointer (some ⟨bk'.p, 0, none⟩)]), (w.heap.size, [.int .i64 (r : Int)]), (w.heap.size + 1, [.bool false])]) u bk z bk' z' (if p then (remS s (d.b)) else s) (if q then (remS s (d.b)) else s) := ⟨_, rfl⟩
            have hJ0 : ∀ W, Two w r ((T, [.int .i64 d.kind, .int .i64 d.b, .int .u64 d.k]) :: [(P, [.pointer (some ⟨bk'.p, 0, none⟩)]), (w.heap.size, [.int .i64 (r : Int)]), (w.heap.size + 1, [.bool false])]) W bk v bk' v' s s → J false false W.drew := fun W h => by rw [hJd]; exact ⟨v, v', h.drew⟩
            have hcall1 : ∀ u b, J false b u → Calls Try.prog 12 #[.pointer (some ⟨bk.p, 0, none⟩), .int .i64 (d.b)] u fun e u' => e = .returned (.int .i64 E) ∧ J true b u' := by
              intro u b hJ
              rw [hJd] at hJ ⊢
              obtain ⟨z, z', hz⟩ := hJ
              have hc := remove_any hz.a hz.ra (by have := HS.out; omega) (d.b)
              simp only [Bool.false_eq_true, if_false] at hc hz
              rw [hE] at hc
              refine hc.mono ?_
              rintro e u' ⟨rfl, z2, h1, h2⟩
              exact ⟨rfl, z2, z', by simpa using hz.wentA h1 h2 (reach_rem hz.ra _)⟩
            have hcall2 : ∀ u b, J b false u → Calls Try.prog 13 #[.pointer (some ⟨bk'.p, 0, none⟩), .int .i64 (d.b)] u fun e u' => e = .returned (.int .i64 E) ∧ J b true u' := by
              intro u b hJ
              rw [hJd] at hJ ⊢
              obtain ⟨z, z', hz⟩ := hJ
              have hc := rremove_any hz.x hz.rx (by have := HS.out; omega) (d.b)
              simp only [Bool.false_eq_true, if_false] at hc hz
              rw [hE] at hc
              refine hc.mono ?_
              rintro e u' ⟨rfl, z2, h1, h2⟩
              exact ⟨rfl, z, z2, by simpa using hz.wentR h1 h2 (reach_rem hz.rx _)⟩
            clear hE
            have hJ0 := hJ0 _ h2
            have HT3 : Shut _ := ⟨h2⟩
            clear h2
            refine wp_region_two (by kernel_rfl) [.pointer (some ⟨bk.p, 0, none⟩), .pointer (some ⟨T, 1, none⟩), .int .i64 d.b, .int .i64 E, (.pointer (some ⟨bk'.p, 0, none⟩)), .pointer (some ⟨T, 1, none⟩), .int .i64 d.b, .int .i64 E, .bool true, .bool true] 3 7 J (by kernel_rfl) (by decide) (by decide) (by decide) hJ0 ?op ?op1 ?op2 ?fin
            case op =>
              intro i o bx u p q ho hne1 hne2 hJ hS
              rw [hJd] at hJ
              obtain ⟨z, z', hz⟩ := hJ
              match i, ho with
              | 0, ho =>
                obtain rfl := Option.some.inj ho
                have d8 : bx.tmps.getD 8 undef = .pointer (some ⟨bk.p, 0, none⟩) := hS.base 8 (by kernel_rfl)
                refine ⟨rfl, rests_value (c := .pointer (some ⟨bk.p, 0, none⟩)) ?_⟩
                simp [execOp, Act.eval, d8]
              | 1, ho =>
                obtain rfl := Option.some.inj ho
                have d12 : bx.tmps.getD 12 undef = .pointer (some ⟨T, 0, none⟩) := hS.base 12 (by kernel_rfl)
                refine ⟨rfl, rests_value (c := .pointer (some ⟨T, 1, none⟩)) ?_⟩
                simp [Act.eval, d12, go_sem]
              | 2, ho =>
                obtain rfl := Option.some.inj ho
                have d114 : bx.tmps.getD 114 undef = .pointer (some ⟨T, 1, none⟩) := hS.dep 1 114 (by kernel_rfl) (by kernel_rfl)
                have hl := (hz.fix _ (List.mem_cons_self)).1.cell 1 _ rfl
                refine ⟨rfl, rests_value (c := .int .i64 d.b) ?_⟩
                simp [Act.eval, d114, go_sem, hl]
              | 3, ho =>
                obtain rfl := Option.some.inj ho
                exact absurd rfl hne1
              | 4, ho =>
                obtain rfl := Option.some.inj ho
                have d10 : bx.tmps.getD 10 undef = .pointer (some ⟨P, 0, none⟩) := hS.base 10 (by kernel_rfl)
                have hl := (hz.fix (P, [.pointer (some ⟨bk'.p, 0, none⟩)]) (by simp)).1.cell 0 _ rfl
                refine ⟨rfl, rests_value (c := (.pointer (some ⟨bk'.p, 0, none⟩))) ?_⟩
                simp [Act.eval, d10, go_sem, hl]
              | 5, ho =>
                obtain rfl := Option.some.inj ho
                have d12 : bx.tmps.getD 12 undef = .pointer (some ⟨T, 0, none⟩) := hS.base 12 (by kernel_rfl)
                refine ⟨rfl, rests_value (c := .pointer (some ⟨T, 1, none⟩)) ?_⟩
                simp [Act.eval, d12, go_sem]
              | 6, ho =>
                obtain rfl := Option.some.inj ho
                have d118 : bx.tmps.getD 118 undef = .pointer (some ⟨T, 1, none⟩) := hS.dep 5 118 (by kernel_rfl) (by kernel_rfl)
                have hl := (hz.fix _ (List.mem_cons_self)).1.cell 1 _ rfl
                refine ⟨rfl, rests_value (c := .int .i64 d.b) ?_⟩
                simp [Act.eval, d118, go_sem, hl]
              | 7, ho =>
                obtain rfl := Option.some.inj ho
                exact absurd rfl hne2
              | 8, ho =>
                obtain rfl := Option.some.inj ho
                have d116 : bx.tmps.getD 116 undef = .int .i64 E := hS.dep 3 116 (by kernel_rfl) (by kernel_rfl)
                have d120 : bx.tmps.getD 120 undef = .int .i64 E := hS.dep 7 120 (by kernel_rfl) (by kernel_rfl)
                refine ⟨rfl, rests_value (c := .bool true) ?_⟩
                simp [Act.eval, d116, d120, go_sem]
              | 9, ho =>
                obtain rfl := Option.some.inj ho
                have d121 : bx.tmps.getD 121 undef = .bool true := hS.dep 8 121 (by kernel_rfl) (by kernel_rfl)
                refine ⟨rfl, rests_value (c := .bool true) ?_⟩
                simp [execOp, Act.eval, d121]
              | n + 10, ho => exact absurd ho (by simp)
            case op1 =>
              intro o bx u b ho hJ hS
              obtain rfl := Option.some.inj ho
              have d113 : bx.tmps.getD 113 undef = .pointer (some ⟨bk.p, 0, none⟩) := hS.dep 0 113 (by kernel_rfl) (by kernel_rfl)
              have d115 : bx.tmps.getD 115 undef = .int .i64 d.b := hS.dep 2 115 (by kernel_rfl) (by kernel_rfl)
              have hcall := hcall1 u b hJ
              refine ⟨rfl, yieldsY_call (f := 12) (args := #[.pointer (some ⟨bk.p, 0, none⟩), .int .i64 d.b]) (u := u) ?_ (hcall.mono fun e u' h => ⟨_, h.1, rfl, h.2⟩) (K := fun v u' => v = .int .i64 E ∧ J true b u') (fun v u' h => h)⟩
              simp [Act.eval, d113, d115, go_sem]
            case op2 =>
              intro o bx u b ho hJ hS
              obtain rfl := Option.some.inj ho
              have d117 : bx.tmps.getD 117 undef = (.pointer (some ⟨bk'.p, 0, none⟩)) := hS.dep 4 117 (by kernel_rfl) (by kernel_rfl)
              have d119 : bx.tmps.getD 119 undef = .int .i64 d.b := hS.dep 6 119 (by kernel_rfl) (by kernel_rfl)
              have hcall := hcall2 u b hJ
              refine ⟨rfl, yieldsY_call (f := 13) (args := #[(.pointer (some ⟨bk'.p, 0, none⟩)), .int .i64 d.b]) (u := u) ?_ (hcall.mono fun e u' h => ⟨_, h.1, rfl, h.2⟩) (K := fun v u' => v = .int .i64 E ∧ J b true u') (fun v u' h => h)⟩
              simp [Act.eval, d117, d119, go_sem]
            case fin =>
              intro u hJ
              rw [hJd] at hJ
              obtain ⟨z, z', hz⟩ := hJ
              have HZ : Shut (Two w r ((T, [.int .i64 d.kind, .int .i64 d.b, .int .u64 d.k]) :: [(P, [.pointer (some ⟨bk'.p, 0, none⟩)]), (w.heap.size, [.int .i64 (r : Int)]), (w.heap.size + 1, [.bool false])]) u bk z bk' z' (remS s (d.b)) (remS s (d.b))) := ⟨by simpa using hz⟩
              clear hz hJd hcall1 hcall2 hJ0 HT3
              simp [putAll, dstAt, Act.put]
              have cp := (HZ.out.fix (P, [.pointer (some ⟨bk'.p, 0, none⟩)]) (by simp)).1.cell 0 _ rfl
              have cn := HZ.out.x.headR.2.2.2.2.2
              have hl := fun m => len_any (HZ.out.drewN m).a
              have HN : ∀ m, Shut (Two w r [(P, [.pointer (some ⟨bk'.p, 0, none⟩)]), (w.heap.size, [.int .i64 (r : Int)]), (w.heap.size + 1, [.bool false])] (u.drewN m) bk z bk' z' (remS s (d.b)) (remS s (d.b))) := fun m => ⟨(HZ.out.drewN m).less fun p hp => List.mem_cons_of_mem _ hp⟩
              obtain ⟨N, hN⟩ : ∃ N, (remS s (d.b)).n = N := ⟨_, rfl⟩
              rw [hN] at cn hl
              clear hN HZ
              go_wp2_with fail
              go_quiet (exact (hl _).mono fun e w' h => ⟨h.1, _, h.2⟩)
              go_wp2_with fail
              go_roundw
              case rel => exact ⟨i + 1, _, _, _, by go_num, by omega, HN _⟩
              case measure => simp [intOf]; omega
          · go_wp2_with fail
            generalize wr.alloc (.cells #[.int .i64 d.kind, .int .i64 d.b, .int .u64 d.k] 32) = Wt at *
            generalize wr.heap.size = T at *
            clear c0 c1 c2 cx lx m1 m2 s1 s2 k0 k1 hwk
            obtain ⟨E, hE⟩ : ∃ E, remE s (κ) = E := ⟨_, rfl⟩
            obtain ⟨J, hJd⟩ : ∃ J : Bool → Bool → World → Prop, J = fun p q u => ∃ z z', Two w r ((T, [.int .i64 d.kind, .int .i64 d.b, .int .u64 d.k]) :: [(P, [.pointer (some ⟨bk'.p, 0, none⟩)]), (w.heap.size, [.int .i64 (r : Int)]), (w.heap.size + 1, [.bool false])]) u bk z bk' z' (if p then (remS s (κ)) else s) (if q then (remS s (κ)) else s) := ⟨_, rfl⟩
            have hJ0 : ∀ W, Two w r ((T, [.int .i64 d.kind, .int .i64 d.b, .int .u64 d.k]) :: [(P, [.pointer (some ⟨bk'.p, 0, none⟩)]), (w.heap.size, [.int .i64 (r : Int)]), (w.heap.size + 1, [.bool false])]) W bk v bk' v' s s → J false false W.drew := fun W h => by rw [hJd]; exact ⟨v, v', h.drew⟩
            have hcall1 : ∀ u b, J false b u → Calls Try.prog 12 #[.pointer (some ⟨bk.p, 0, none⟩), .int .i64 (κ)] u fun e u' => e = .returned (.int .i64 E) ∧ J true b u' := by
              intro u b hJ
              rw [hJd] at hJ ⊢
              obtain ⟨z, z', hz⟩ := hJ
              have hc := remove_any hz.a hz.ra (by have := HS.out; omega) (κ)
              simp only [Bool.false_eq_true, if_false] at hc hz
              rw [hE] at hc
              refine hc.mono ?_
              rintro e u' ⟨rfl, z2, h1, h2⟩
              exact ⟨rfl, z2, z', by simpa using hz.wentA h1 h2 (reach_rem hz.ra _)⟩
            have hcall2 : ∀ u b, J b false u → Calls Try.prog 13 #[.pointer (some ⟨bk'.p, 0, none⟩), .int .i64 (κ)] u fun e u' => e = .returned (.int .i64 E) ∧ J b true u' := by
              intro u b hJ
              rw [hJd] at hJ ⊢
              obtain ⟨z, z', hz⟩ := hJ
              have hc := rremove_any hz.x hz.rx (by have := HS.out; omega) (κ)
              simp only [Bool.false_eq_true, if_false] at hc hz
              rw [hE] at hc
              refine hc.mono ?_
              rintro e u' ⟨rfl, z2, h1, h2⟩
              exact ⟨rfl, z, z2, by simpa using hz.wentR h1 h2 (reach_rem hz.rx _)⟩
            clear hE
            have hJ0 := hJ0 _ h2
            have HT3 : Shut _ := ⟨h2⟩
            clear h2
            refine wp_region_two (by kernel_rfl) [.pointer (some ⟨bk.p, 0, none⟩), .int .i64 κ, .int .i64 E, (.pointer (some ⟨bk'.p, 0, none⟩)), .int .i64 κ, .int .i64 E, .bool true, .bool true] 2 5 J (by kernel_rfl) (by decide) (by decide) (by decide) hJ0 ?op ?op1 ?op2 ?fin
            case op =>
              intro i o bx u p q ho hne1 hne2 hJ hS
              rw [hJd] at hJ
              obtain ⟨z, z', hz⟩ := hJ
              match i, ho with
              | 0, ho =>
                obtain rfl := Option.some.inj ho
                have d8 : bx.tmps.getD 8 undef = .pointer (some ⟨bk.p, 0, none⟩) := hS.base 8 (by kernel_rfl)
                refine ⟨rfl, rests_value (c := .pointer (some ⟨bk.p, 0, none⟩)) ?_⟩
                simp [execOp, Act.eval, d8]
              | 1, ho =>
                obtain rfl := Option.some.inj ho
                have d19 : bx.tmps.getD 19 undef = .int .i64 κ := hS.base 19 (by kernel_rfl)
                refine ⟨rfl, rests_value (c := .int .i64 κ) ?_⟩
                simp [execOp, Act.eval, d19]
              | 2, ho =>
                obtain rfl := Option.some.inj ho
                exact absurd rfl hne1
              | 3, ho =>
                obtain rfl := Option.some.inj ho
                have d10 : bx.tmps.getD 10 undef = .pointer (some ⟨P, 0, none⟩) := hS.base 10 (by kernel_rfl)
                have hl := (hz.fix (P, [.pointer (some ⟨bk'.p, 0, none⟩)]) (by simp)).1.cell 0 _ rfl
                refine ⟨rfl, rests_value (c := (.pointer (some ⟨bk'.p, 0, none⟩))) ?_⟩
                simp [Act.eval, d10, go_sem, hl]
              | 4, ho =>
                obtain rfl := Option.some.inj ho
                have d19 : bx.tmps.getD 19 undef = .int .i64 κ := hS.base 19 (by kernel_rfl)
                refine ⟨rfl, rests_value (c := .int .i64 κ) ?_⟩
                simp [execOp, Act.eval, d19]
              | 5, ho =>
                obtain rfl := Option.some.inj ho
                exact absurd rfl hne2
              | 6, ho =>
                obtain rfl := Option.some.inj ho
                have d130 : bx.tmps.getD 130 undef = .int .i64 E := hS.dep 2 130 (by kernel_rfl) (by kernel_rfl)
                have d133 : bx.tmps.getD 133 undef = .int .i64 E := hS.dep 5 133 (by kernel_rfl) (by kernel_rfl)
                refine ⟨rfl, rests_value (c := .bool true) ?_⟩
                simp [Act.eval, d130, d133, go_sem]
              | 7, ho =>
                obtain rfl := Option.some.inj ho
                have d134 : bx.tmps.getD 134 undef = .bool true := hS.dep 6 134 (by kernel_rfl) (by kernel_rfl)
                refine ⟨rfl, rests_value (c := .bool true) ?_⟩
                simp [execOp, Act.eval, d134]
              | n + 8, ho => exact absurd ho (by simp)
            case op1 =>
              intro o bx u b ho hJ hS
              obtain rfl := Option.some.inj ho
              have d128 : bx.tmps.getD 128 undef = .pointer (some ⟨bk.p, 0, none⟩) := hS.dep 0 128 (by kernel_rfl) (by kernel_rfl)
              have d129 : bx.tmps.getD 129 undef = .int .i64 κ := hS.dep 1 129 (by kernel_rfl) (by kernel_rfl)
              have hcall := hcall1 u b hJ
              refine ⟨rfl, yieldsY_call (f := 12) (args := #[.pointer (some ⟨bk.p, 0, none⟩), .int .i64 κ]) (u := u) ?_ (hcall.mono fun e u' h => ⟨_, h.1, rfl, h.2⟩) (K := fun v u' => v = .int .i64 E ∧ J true b u') (fun v u' h => h)⟩
              simp [Act.eval, d128, d129, go_sem]
            case op2 =>
              intro o bx u b ho hJ hS
              obtain rfl := Option.some.inj ho
              have d131 : bx.tmps.getD 131 undef = (.pointer (some ⟨bk'.p, 0, none⟩)) := hS.dep 3 131 (by kernel_rfl) (by kernel_rfl)
              have d132 : bx.tmps.getD 132 undef = .int .i64 κ := hS.dep 4 132 (by kernel_rfl) (by kernel_rfl)
              have hcall := hcall2 u b hJ
              refine ⟨rfl, yieldsY_call (f := 13) (args := #[(.pointer (some ⟨bk'.p, 0, none⟩)), .int .i64 κ]) (u := u) ?_ (hcall.mono fun e u' h => ⟨_, h.1, rfl, h.2⟩) (K := fun v u' => v = .int .i64 E ∧ J b true u') (fun v u' h => h)⟩
              simp [Act.eval, d131, d132, go_sem]
            case fin =>
              intro u hJ
              rw [hJd] at hJ
              obtain ⟨z, z', hz⟩ := hJ
              have HZ : Shut (Two w r ((T, [.int .i64 d.kind, .int .i64 d.b, .int .u64 d.k]) :: [(P, [.pointer (some ⟨bk'.p, 0, none⟩)]), (w.heap.size, [.int .i64 (r : Int)]), (w.heap.size + 1, [.bool false])]) u bk z bk' z' (remS s (κ)) (remS s (κ))) := ⟨by simpa using hz⟩
              clear hz hJd hcall1 hcall2 hJ0 HT3
              simp [putAll, dstAt, Act.put]
              have cp := (HZ.out.fix (P, [.pointer (some ⟨bk'.p, 0, none⟩)]) (by simp)).1.cell 0 _ rfl
              have cn := HZ.out.x.headR.2.2.2.2.2
              have hl := fun m => len_any (HZ.out.drewN m).a
              have HN : ∀ m, Shut (Two w r [(P, [.pointer (some ⟨bk'.p, 0, none⟩)]), (w.heap.size, [.int .i64 (r : Int)]), (w.heap.size + 1, [.bool false])] (u.drewN m) bk z bk' z' (remS s (κ)) (remS s (κ))) := fun m => ⟨(HZ.out.drewN m).less fun p hp => List.mem_cons_of_mem _ hp⟩
              obtain ⟨N, hN⟩ : ∃ N, (remS s (κ)).n = N := ⟨_, rfl⟩
              rw [hN] at cn hl
              clear hN HZ
              go_wp2_with fail
              go_quiet (exact (hl _).mono fun e w' h => ⟨h.1, _, h.2⟩)
              go_wp2_with fail
              go_roundw
              case rel => exact ⟨i + 1, _, _, _, by go_num, by omega, HN _⟩
              case measure => simp [intOf]; omega
          · go_wp2_with fail
            generalize wr.alloc (.cells #[.int .i64 d.kind, .int .i64 d.b, .int .u64 d.k] 32) = Wt at *
            generalize wr.heap.size = T at *
            clear c0 c1 c2 cx lx m1 m2 s1 s2 k0 k1 hwk
            have hd := HD.out
            obtain ⟨key, hkey⟩ := nn_of d.k hd.wf.2.2.1 (by have := hd.wf.2.2.2; omega)
            obtain ⟨E, hE⟩ : ∃ E : Int, ((bucket s (gmix key) : Nat) : Int) = E := ⟨_, rfl⟩
            obtain ⟨J, hJd⟩ : ∃ J : Bool → Bool → World → Prop, J = fun p q u => ∃ z z', Two w r ((T, [.int .i64 d.kind, .int .i64 d.b, .int .u64 d.k]) :: [(P, [.pointer (some ⟨bk'.p, 0, none⟩)]), (w.heap.size, [.int .i64 (r : Int)]), (w.heap.size + 1, [.bool false])]) u bk z bk' z' (if p then s else s) (if q then s else s) := ⟨_, rfl⟩
            have hJ0 : ∀ W, Two w r ((T, [.int .i64 d.kind, .int .i64 d.b, .int .u64 d.k]) :: [(P, [.pointer (some ⟨bk'.p, 0, none⟩)]), (w.heap.size, [.int .i64 (r : Int)]), (w.heap.size + 1, [.bool false])]) W bk v bk' v' s s → J false false W.drew := fun W h => by rw [hJd]; exact ⟨v, v', h.drew⟩
            have hcall1 : ∀ u b, J false b u → Calls Try.prog 14 #[.pointer (some ⟨bk.p, 0, none⟩), .int .u64 d.k] u fun e u' => e = .returned (.int .i64 E) ∧ J true b u' := by
              intro u b hJ
              rw [hJd] at hJ ⊢
              obtain ⟨z, z', hz⟩ := hJ
              simp only [ite_self] at hz
              have hc := bucket_any hz.a hz.ra.wf (by have := hz.ra.room; have := HS.out; omega) key
              rw [hE, hkey] at hc
              refine hc.mono ?_
              rintro e u' ⟨rfl, rfl⟩
              exact ⟨rfl, z, z', by simpa using hz⟩
            have hcall2 : ∀ u b, J b false u → Calls Try.prog 15 #[.pointer (some ⟨bk'.p, 0, none⟩), .int .u64 d.k] u fun e u' => e = .returned (.int .i64 E) ∧ J b true u' := by
              intro u b hJ
              rw [hJd] at hJ ⊢
              obtain ⟨z, z', hz⟩ := hJ
              simp only [ite_self] at hz
              have hc := rbucket_any hz.x hz.rx.wf (by have := hz.rx.room; have := HS.out; omega) key
              rw [hE, hkey] at hc
              refine hc.mono ?_
              rintro e u' ⟨rfl, hb⟩
              exact ⟨rfl, z, z', by simpa using hz.on hb⟩
            clear hE hkey
            have hJ0 := hJ0 _ h2
            have HT3 : Shut _ := ⟨h2⟩
            clear h2
            refine wp_region_two (by kernel_rfl) [.pointer (some ⟨bk.p, 0, none⟩), .pointer (some ⟨T, 2, none⟩), .int .u64 d.k, .int .i64 E, (.pointer (some ⟨bk'.p, 0, none⟩)), .pointer (some ⟨T, 2, none⟩), .int .u64 d.k, .int .i64 E, .bool true, .bool true] 3 7 J (by kernel_rfl) (by decide) (by decide) (by decide) hJ0 ?op ?op1 ?op2 ?fin
            case op =>
              intro i o bx u p q ho hne1 hne2 hJ hS
              rw [hJd] at hJ
              obtain ⟨z, z', hz⟩ := hJ
              match i, ho with
              | 0, ho =>
                obtain rfl := Option.some.inj ho
                have d8 : bx.tmps.getD 8 undef = .pointer (some ⟨bk.p, 0, none⟩) := hS.base 8 (by kernel_rfl)
                refine ⟨rfl, rests_value (c := .pointer (some ⟨bk.p, 0, none⟩)) ?_⟩
                simp [execOp, Act.eval, d8]
              | 1, ho =>
                obtain rfl := Option.some.inj ho
                have d12 : bx.tmps.getD 12 undef = .pointer (some ⟨T, 0, none⟩) := hS.base 12 (by kernel_rfl)
                refine ⟨rfl, rests_value (c := .pointer (some ⟨T, 2, none⟩)) ?_⟩
                simp [Act.eval, d12, go_sem]
              | 2, ho =>
                obtain rfl := Option.some.inj ho
                have d83 : bx.tmps.getD 83 undef = .pointer (some ⟨T, 2, none⟩) := hS.dep 1 83 (by kernel_rfl) (by kernel_rfl)
                have hl := (hz.fix _ (List.mem_cons_self)).1.cell 2 _ rfl
                refine ⟨rfl, rests_value (c := .int .u64 d.k) ?_⟩
                simp [Act.eval, d83, go_sem, hl]
              | 3, ho =>
                obtain rfl := Option.some.inj ho
                exact absurd rfl hne1
              | 4, ho =>
                obtain rfl := Option.some.inj ho
                have d10 : bx.tmps.getD 10 undef = .pointer (some ⟨P, 0, none⟩) := hS.base 10 (by kernel_rfl)
                have hl := (hz.fix (P, [.pointer (some ⟨bk'.p, 0, none⟩)]) (by simp)).1.cell 0 _ rfl
                refine ⟨rfl, rests_value (c := (.pointer (some ⟨bk'.p, 0, none⟩))) ?_⟩
                simp [Act.eval, d10, go_sem, hl]
              | 5, ho =>
                obtain rfl := Option.some.inj ho
                have d12 : bx.tmps.getD 12 undef = .pointer (some ⟨T, 0, none⟩) := hS.base 12 (by kernel_rfl)
                refine ⟨rfl, rests_value (c := .pointer (some ⟨T, 2, none⟩)) ?_⟩
                simp [Act.eval, d12, go_sem]
              | 6, ho =>
                obtain rfl := Option.some.inj ho
                have d87 : bx.tmps.getD 87 undef = .pointer (some ⟨T, 2, none⟩) := hS.dep 5 87 (by kernel_rfl) (by kernel_rfl)
                have hl := (hz.fix _ (List.mem_cons_self)).1.cell 2 _ rfl
                refine ⟨rfl, rests_value (c := .int .u64 d.k) ?_⟩
                simp [Act.eval, d87, go_sem, hl]
              | 7, ho =>
                obtain rfl := Option.some.inj ho
                exact absurd rfl hne2
              | 8, ho =>
                obtain rfl := Option.some.inj ho
                have d85 : bx.tmps.getD 85 undef = .int .i64 E := hS.dep 3 85 (by kernel_rfl) (by kernel_rfl)
                have d89 : bx.tmps.getD 89 undef = .int .i64 E := hS.dep 7 89 (by kernel_rfl) (by kernel_rfl)
                refine ⟨rfl, rests_value (c := .bool true) ?_⟩
                simp [Act.eval, d85, d89, go_sem]
              | 9, ho =>
                obtain rfl := Option.some.inj ho
                have d90 : bx.tmps.getD 90 undef = .bool true := hS.dep 8 90 (by kernel_rfl) (by kernel_rfl)
                refine ⟨rfl, rests_value (c := .bool true) ?_⟩
                simp [execOp, Act.eval, d90]
              | n + 10, ho => exact absurd ho (by simp)
            case op1 =>
              intro o bx u b ho hJ hS
              obtain rfl := Option.some.inj ho
              have d82 : bx.tmps.getD 82 undef = .pointer (some ⟨bk.p, 0, none⟩) := hS.dep 0 82 (by kernel_rfl) (by kernel_rfl)
              have d84 : bx.tmps.getD 84 undef = .int .u64 d.k := hS.dep 2 84 (by kernel_rfl) (by kernel_rfl)
              have hcall := hcall1 u b hJ
              refine ⟨rfl, yieldsY_call (f := 14) (args := #[.pointer (some ⟨bk.p, 0, none⟩), .int .u64 d.k]) (u := u) ?_ (hcall.mono fun e u' h => ⟨_, h.1, rfl, h.2⟩) (K := fun v u' => v = .int .i64 E ∧ J true b u') (fun v u' h => h)⟩
              simp [Act.eval, d82, d84, go_sem]
            case op2 =>
              intro o bx u b ho hJ hS
              obtain rfl := Option.some.inj ho
              have d86 : bx.tmps.getD 86 undef = (.pointer (some ⟨bk'.p, 0, none⟩)) := hS.dep 4 86 (by kernel_rfl) (by kernel_rfl)
              have d88 : bx.tmps.getD 88 undef = .int .u64 d.k := hS.dep 6 88 (by kernel_rfl) (by kernel_rfl)
              have hcall := hcall2 u b hJ
              refine ⟨rfl, yieldsY_call (f := 15) (args := #[(.pointer (some ⟨bk'.p, 0, none⟩)), .int .u64 d.k]) (u := u) ?_ (hcall.mono fun e u' h => ⟨_, h.1, rfl, h.2⟩) (K := fun v u' => v = .int .i64 E ∧ J b true u') (fun v u' h => h)⟩
              simp [Act.eval, d86, d88, go_sem]
            case fin =>
              intro u hJ
              rw [hJd] at hJ
              obtain ⟨z, z', hz⟩ := hJ
              have HZ : Shut (Two w r ((T, [.int .i64 d.kind, .int .i64 d.b, .int .u64 d.k]) :: [(P, [.pointer (some ⟨bk'.p, 0, none⟩)]), (w.heap.size, [.int .i64 (r : Int)]), (w.heap.size + 1, [.bool false])]) u bk z bk' z' s s) := ⟨by simpa using hz⟩
              clear hz hJd hcall1 hcall2 hJ0 HT3
              simp [putAll, dstAt, Act.put]
              have cp := (HZ.out.fix (P, [.pointer (some ⟨bk'.p, 0, none⟩)]) (by simp)).1.cell 0 _ rfl
              have cn := HZ.out.x.headR.2.2.2.2.2
              have hl := fun m => len_any (HZ.out.drewN m).a
              have HN : ∀ m, Shut (Two w r [(P, [.pointer (some ⟨bk'.p, 0, none⟩)]), (w.heap.size, [.int .i64 (r : Int)]), (w.heap.size + 1, [.bool false])] (u.drewN m) bk z bk' z' s s) := fun m => ⟨(HZ.out.drewN m).less fun p hp => List.mem_cons_of_mem _ hp⟩
              obtain ⟨N, hN⟩ : ∃ N, s.n = N := ⟨_, rfl⟩
              rw [hN] at cn hl
              clear hN HZ
              go_wp2_with fail
              go_quiet (exact (hl _).mono fun e w' h => ⟨h.1, _, h.2⟩)
              go_wp2_with fail
              go_roundw
              case rel => exact ⟨i + 1, _, _, _, by go_num, by omega, HN _⟩
              case measure => simp [intOf]; omega
        · rcases hmod with ⟨m1, m2⟩ | ⟨m1, m2⟩ | ⟨m1, m2⟩ | ⟨m1, m2⟩
          · go_wp2_with fail
            generalize wr.alloc (.cells #[.int .i64 d.kind, .int .i64 d.b, .int .u64 d.k] 32) = Wt at *
            generalize wr.heap.size = T at *
            clear c0 c1 c2 cx lx m1 m2 s1 k0 k1 hwk
            have hca := add_any h2.a h2.ra (by have := HS.out; omega)
            obtain ⟨B, hB⟩ : ∃ B, addB s = B := ⟨_, rfl⟩
            obtain ⟨E, hE⟩ : ∃ E, addE s = E := ⟨_, rfl⟩
            rw [hB, hE] at hca
            have HT3 : Shut _ := ⟨h2⟩
            clear h2
            refine hca.mono ?_
            rintro e u1 ⟨rfl, z, hA1, hw1⟩
            have h3 := HT3.out.wentA hA1 hw1 (reach_add HT3.out.ra)
            have hcx := radd_any h3.x h3.rx (by have := HS.out; omega)
            rw [hB, hE] at hcx
            have cp := (h3.fix (P, [.pointer (some ⟨bk'.p, 0, none⟩)]) (by simp)).1.cell 0 _ rfl
            have HT4 : Shut _ := ⟨h3⟩
            clear h3 hA1 hw1 hca HT3
            go_wp2_with fail
            refine hcx.mono ?_
            rintro e u ⟨rfl, z', hA1, hw1⟩
            have HZ : Shut (Two w r ((T, [.int .i64 d.kind, .int .i64 d.b, .int .u64 d.k]) :: [(P, [.pointer (some ⟨bk'.p, 0, none⟩)]), (w.heap.size, [.int .i64 (r : Int)]), (w.heap.size + 1, [.bool false])]) u bk z bk' z' (addS s) (addS s)) := ⟨HT4.out.wentR hA1 hw1 (reach_add HT4.out.rx)⟩
            clear hA1 hw1 hcx HT4 cp hB hE
            have cp := (HZ.out.fix (P, [.pointer (some ⟨bk'.p, 0, none⟩)]) (by simp)).1.cell 0 _ rfl
            have cn := HZ.out.x.headR.2.2.2.2.2
            have hl := fun m => len_any (HZ.out.drewN m).a
            have HN : ∀ m, Shut (Two w r [(P, [.pointer (some ⟨bk'.p, 0, none⟩)]), (w.heap.size, [.int .i64 (r : Int)]), (w.heap.size + 1, [.bool false])] (u.drewN m) bk z bk' z' (addS s) (addS s)) := fun m => ⟨(HZ.out.drewN m).less fun p hp => List.mem_cons_of_mem _ hp⟩
            obtain ⟨N, hN⟩ : ∃ N, (addS s).n = N := ⟨_, rfl⟩
            rw [hN] at cn hl
            clear hN HZ
            go_wp2_with fail
            go_quiet (exact (hl _).mono fun e w' h => ⟨h.1, _, h.2⟩)
            go_wp2_with fail
            go_roundw
            case rel => exact ⟨i + 1, _, _, _, by go_num, by omega, HN _⟩
            case measure => simp [intOf]; omega
          · go_wp2_with fail
            generalize wr.alloc (.cells #[.int .i64 d.kind, .int .i64 d.b, .int .u64 d.k] 32) = Wt at *
            generalize wr.heap.size = T at *
            clear c0 c1 c2 cx lx m1 m2 s1 k0 k1 hwk
            obtain ⟨E, hE⟩ : ∃ E, remE s (d.b) = E := ⟨_, rfl⟩
            obtain ⟨J, hJd⟩ : ∃ J : Bool → Bool → World → Prop, J = fun p q u => ∃ z z', Two w r ((T, [.int .i64 d.kind, .int .i64 d.b, .int .u64 d.k]) :: [(P, [.pointer (some ⟨bk'.p, 0, none⟩)]), (w.heap.size, [.int .i64 (r : Int)]), (w.heap.size + 1, [.bool false])]) u bk z bk' z' (if p then (remS s (d.b)) else s) (if q then (remS s (d.b)) else s) := ⟨_, rfl⟩
            have hJ0 : ∀ W, Two w r ((T, [.int .i64 d.kind, .int .i64 d.b, .int .u64 d.k]) :: [(P, [.pointer (some ⟨bk'.p, 0, none⟩)]), (w.heap.size, [.int .i64 (r : Int)]), (w.heap.size + 1, [.bool false])]) W bk v bk' v' s s → J false false W.drew := fun W h => by rw [hJd]; exact ⟨v, v', h.drew⟩
            have hcall1 : ∀ u b, J false b u → Calls Try.prog 12 #[.pointer (some ⟨bk.p, 0, none⟩), .int .i64 (d.b)] u fun e u' => e = .returned (.int .i64 E) ∧ J true b u' := by
              intro u b hJ
              rw [hJd] at hJ ⊢
              obtain ⟨z, z', hz⟩ := hJ
              have hc := remove_any hz.a hz.ra (by have := HS.out; omega) (d.b)
              simp only [Bool.false_eq_true, if_false] at hc hz
              rw [hE] at hc
              refine hc.mono ?_
              rintro e u' ⟨rfl, z2, h1, h2⟩
              exact ⟨rfl, z2, z', by simpa using hz.wentA h1 h2 (reach_rem hz.ra _)⟩
            have hcall2 : ∀ u b, J b false u → Calls Try.prog 13 #[.pointer (some ⟨bk'.p, 0, none⟩), .int .i64 (d.b)] u fun e u' => e = .returned (.int .i64 E) ∧ J b true u' := by
              intro u b hJ
              rw [hJd] at hJ ⊢
              obtain ⟨z, z', hz⟩ := hJ
              have hc := rremove_any hz.x hz.rx (by have := HS.out; omega) (d.b)
              simp only [Bool.false_eq_true, if_false] at hc hz
              rw [hE] at hc
              refine hc.mono ?_
              rintro e u' ⟨rfl, z2, h1, h2⟩
              exact ⟨rfl, z, z2, by simpa using hz.wentR h1 h2 (reach_rem hz.rx _)⟩
            clear hE
            have hJ0 := hJ0 _ h2
            have HT3 : Shut _ := ⟨h2⟩
            clear h2
            refine wp_region_two (by kernel_rfl) [.pointer (some ⟨bk.p, 0, none⟩), .pointer (some ⟨T, 1, none⟩), .int .i64 d.b, .int .i64 E, (.pointer (some ⟨bk'.p, 0, none⟩)), .pointer (some ⟨T, 1, none⟩), .int .i64 d.b, .int .i64 E, .bool true, .bool true] 3 7 J (by kernel_rfl) (by decide) (by decide) (by decide) hJ0 ?op ?op1 ?op2 ?fin
            case op =>
              intro i o bx u p q ho hne1 hne2 hJ hS
              rw [hJd] at hJ
              obtain ⟨z, z', hz⟩ := hJ
              match i, ho with
              | 0, ho =>
                obtain rfl := Option.some.inj ho
                have d8 : bx.tmps.getD 8 undef = .pointer (some ⟨bk.p, 0, none⟩) := hS.base 8 (by kernel_rfl)
                refine ⟨rfl, rests_value (c := .pointer (some ⟨bk.p, 0, none⟩)) ?_⟩
                simp [execOp, Act.eval, d8]
              | 1, ho =>
                obtain rfl := Option.some.inj ho
                have d12 : bx.tmps.getD 12 undef = .pointer (some ⟨T, 0, none⟩) := hS.base 12 (by kernel_rfl)
                refine ⟨rfl, rests_value (c := .pointer (some ⟨T, 1, none⟩)) ?_⟩
                simp [Act.eval, d12, go_sem]
              | 2, ho =>
                obtain rfl := Option.some.inj ho
                have d114 : bx.tmps.getD 114 undef = .pointer (some ⟨T, 1, none⟩) := hS.dep 1 114 (by kernel_rfl) (by kernel_rfl)
                have hl := (hz.fix _ (List.mem_cons_self)).1.cell 1 _ rfl
                refine ⟨rfl, rests_value (c := .int .i64 d.b) ?_⟩
                simp [Act.eval, d114, go_sem, hl]
              | 3, ho =>
                obtain rfl := Option.some.inj ho
                exact absurd rfl hne1
              | 4, ho =>
                obtain rfl := Option.some.inj ho
                have d10 : bx.tmps.getD 10 undef = .pointer (some ⟨P, 0, none⟩) := hS.base 10 (by kernel_rfl)
                have hl := (hz.fix (P, [.pointer (some ⟨bk'.p, 0, none⟩)]) (by simp)).1.cell 0 _ rfl
                refine ⟨rfl, rests_value (c := (.pointer (some ⟨bk'.p, 0, none⟩))) ?_⟩
                simp [Act.eval, d10, go_sem, hl]
              | 5, ho =>
                obtain rfl := Option.some.inj ho
                have d12 : bx.tmps.getD 12 undef = .pointer (some ⟨T, 0, none⟩) := hS.base 12 (by kernel_rfl)
                refine ⟨rfl, rests_value (c := .pointer (some ⟨T, 1, none⟩)) ?_⟩
                simp [Act.eval, d12, go_sem]
              | 6, ho =>
                obtain rfl := Option.some.inj ho
                have d118 : bx.tmps.getD 118 undef = .pointer (some ⟨T, 1, none⟩) := hS.dep 5 118 (by kernel_rfl) (by kernel_rfl)
                have hl := (hz.fix _ (List.mem_cons_self)).1.cell 1 _ rfl
                refine ⟨rfl, rests_value (c := .int .i64 d.b) ?_⟩
                simp [Act.eval, d118, go_sem, hl]
              | 7, ho =>
                obtain rfl := Option.some.inj ho
                exact absurd rfl hne2
              | 8, ho =>
                obtain rfl := Option.some.inj ho
                have d116 : bx.tmps.getD 116 undef = .int .i64 E := hS.dep 3 116 (by kernel_rfl) (by kernel_rfl)
                have d120 : bx.tmps.getD 120 undef = .int .i64 E := hS.dep 7 120 (by kernel_rfl) (by kernel_rfl)
                refine ⟨rfl, rests_value (c := .bool true) ?_⟩
                simp [Act.eval, d116, d120, go_sem]
              | 9, ho =>
                obtain rfl := Option.some.inj ho
                have d121 : bx.tmps.getD 121 undef = .bool true := hS.dep 8 121 (by kernel_rfl) (by kernel_rfl)
                refine ⟨rfl, rests_value (c := .bool true) ?_⟩
                simp [execOp, Act.eval, d121]
              | n + 10, ho => exact absurd ho (by simp)
            case op1 =>
              intro o bx u b ho hJ hS
              obtain rfl := Option.some.inj ho
              have d113 : bx.tmps.getD 113 undef = .pointer (some ⟨bk.p, 0, none⟩) := hS.dep 0 113 (by kernel_rfl) (by kernel_rfl)
              have d115 : bx.tmps.getD 115 undef = .int .i64 d.b := hS.dep 2 115 (by kernel_rfl) (by kernel_rfl)
              have hcall := hcall1 u b hJ
              refine ⟨rfl, yieldsY_call (f := 12) (args := #[.pointer (some ⟨bk.p, 0, none⟩), .int .i64 d.b]) (u := u) ?_ (hcall.mono fun e u' h => ⟨_, h.1, rfl, h.2⟩) (K := fun v u' => v = .int .i64 E ∧ J true b u') (fun v u' h => h)⟩
              simp [Act.eval, d113, d115, go_sem]
            case op2 =>
              intro o bx u b ho hJ hS
              obtain rfl := Option.some.inj ho
              have d117 : bx.tmps.getD 117 undef = (.pointer (some ⟨bk'.p, 0, none⟩)) := hS.dep 4 117 (by kernel_rfl) (by kernel_rfl)
              have d119 : bx.tmps.getD 119 undef = .int .i64 d.b := hS.dep 6 119 (by kernel_rfl) (by kernel_rfl)
              have hcall := hcall2 u b hJ
              refine ⟨rfl, yieldsY_call (f := 13) (args := #[(.pointer (some ⟨bk'.p, 0, none⟩)), .int .i64 d.b]) (u := u) ?_ (hcall.mono fun e u' h => ⟨_, h.1, rfl, h.2⟩) (K := fun v u' => v = .int .i64 E ∧ J b true u') (fun v u' h => h)⟩
              simp [Act.eval, d117, d119, go_sem]
            case fin =>
              intro u hJ
              rw [hJd] at hJ
              obtain ⟨z, z', hz⟩ := hJ
              have HZ : Shut (Two w r ((T, [.int .i64 d.kind, .int .i64 d.b, .int .u64 d.k]) :: [(P, [.pointer (some ⟨bk'.p, 0, none⟩)]), (w.heap.size, [.int .i64 (r : Int)]), (w.heap.size + 1, [.bool false])]) u bk z bk' z' (remS s (d.b)) (remS s (d.b))) := ⟨by simpa using hz⟩
              clear hz hJd hcall1 hcall2 hJ0 HT3
              simp [putAll, dstAt, Act.put]
              have cp := (HZ.out.fix (P, [.pointer (some ⟨bk'.p, 0, none⟩)]) (by simp)).1.cell 0 _ rfl
              have cn := HZ.out.x.headR.2.2.2.2.2
              have hl := fun m => len_any (HZ.out.drewN m).a
              have HN : ∀ m, Shut (Two w r [(P, [.pointer (some ⟨bk'.p, 0, none⟩)]), (w.heap.size, [.int .i64 (r : Int)]), (w.heap.size + 1, [.bool false])] (u.drewN m) bk z bk' z' (remS s (d.b)) (remS s (d.b))) := fun m => ⟨(HZ.out.drewN m).less fun p hp => List.mem_cons_of_mem _ hp⟩
              obtain ⟨N, hN⟩ : ∃ N, (remS s (d.b)).n = N := ⟨_, rfl⟩
              rw [hN] at cn hl
              clear hN HZ
              go_wp2_with fail
              go_quiet (exact (hl _).mono fun e w' h => ⟨h.1, _, h.2⟩)
              go_wp2_with fail
              go_roundw
              case rel => exact ⟨i + 1, _, _, _, by go_num, by omega, HN _⟩
              case measure => simp [intOf]; omega
          · go_wp2_with fail
            generalize wr.alloc (.cells #[.int .i64 d.kind, .int .i64 d.b, .int .u64 d.k] 32) = Wt at *
            generalize wr.heap.size = T at *
            clear c0 c1 c2 cx lx m1 m2 s1 k0 k1 hwk
            obtain ⟨E, hE⟩ : ∃ E, remE s (κ) = E := ⟨_, rfl⟩
            obtain ⟨J, hJd⟩ : ∃ J : Bool → Bool → World → Prop, J = fun p q u => ∃ z z', Two w r ((T, [.int .i64 d.kind, .int .i64 d.b, .int .u64 d.k]) :: [(P, [.pointer (some ⟨bk'.p, 0, none⟩)]), (w.heap.size, [.int .i64 (r : Int)]), (w.heap.size + 1, [.bool false])]) u bk z bk' z' (if p then (remS s (κ)) else s) (if q then (remS s (κ)) else s) := ⟨_, rfl⟩
            have hJ0 : ∀ W, Two w r ((T, [.int .i64 d.kind, .int .i64 d.b, .int .u64 d.k]) :: [(P, [.pointer (some ⟨bk'.p, 0, none⟩)]), (w.heap.size, [.int .i64 (r : Int)]), (w.heap.size + 1, [.bool false])]) W bk v bk' v' s s → J false false W.drew := fun W h => by rw [hJd]; exact ⟨v, v', h.drew⟩
            have hcall1 : ∀ u b, J false b u → Calls Try.prog 12 #[.pointer (some ⟨bk.p, 0, none⟩), .int .i64 (κ)] u fun e u' => e = .returned (.int .i64 E) ∧ J true b u' := by
              intro u b hJ
              rw [hJd] at hJ ⊢
              obtain ⟨z, z', hz⟩ := hJ
              have hc := remove_any hz.a hz.ra (by have := HS.out; omega) (κ)
              simp only [Bool.false_eq_true, if_false] at hc hz
              rw [hE] at hc
              refine hc.mono ?_
              rintro e u' ⟨rfl, z2, h1, h2⟩
              exact ⟨rfl, z2, z', by simpa using hz.wentA h1 h2 (reach_rem hz.ra _)⟩
            have hcall2 : ∀ u b, J b false u → Calls Try.prog 13 #[.pointer (some ⟨bk'.p, 0, none⟩), .int .i64 (κ)] u fun e u' => e = .returned (.int .i64 E) ∧ J b true u' := by
              intro u b hJ
              rw [hJd] at hJ ⊢
              obtain ⟨z, z', hz⟩ := hJ
              have hc := rremove_any hz.x hz.rx (by have := HS.out; omega) (κ)
              simp only [Bool.false_eq_true, if_false] at hc hz
              rw [hE] at hc
              refine hc.mono ?_
              rintro e u' ⟨rfl, z2, h1, h2⟩
              exact ⟨rfl, z, z2, by simpa using hz.wentR h1 h2 (reach_rem hz.rx _)⟩
            clear hE
            have hJ0 := hJ0 _ h2
            have HT3 : Shut _ := ⟨h2⟩
            clear h2
            refine wp_region_two (by kernel_rfl) [.pointer (some ⟨bk.p, 0, none⟩), .int .i64 κ, .int .i64 E, (.pointer (some ⟨bk'.p, 0, none⟩)), .int .i64 κ, .int .i64 E, .bool true, .bool true] 2 5 J (by kernel_rfl) (by decide) (by decide) (by decide) hJ0 ?op ?op1 ?op2 ?fin
            case op =>
              intro i o bx u p q ho hne1 hne2 hJ hS
              rw [hJd] at hJ
              obtain ⟨z, z', hz⟩ := hJ
              match i, ho with
              | 0, ho =>
                obtain rfl := Option.some.inj ho
                have d8 : bx.tmps.getD 8 undef = .pointer (some ⟨bk.p, 0, none⟩) := hS.base 8 (by kernel_rfl)
                refine ⟨rfl, rests_value (c := .pointer (some ⟨bk.p, 0, none⟩)) ?_⟩
                simp [execOp, Act.eval, d8]
              | 1, ho =>
                obtain rfl := Option.some.inj ho
                have d19 : bx.tmps.getD 19 undef = .int .i64 κ := hS.base 19 (by kernel_rfl)
                refine ⟨rfl, rests_value (c := .int .i64 κ) ?_⟩
                simp [execOp, Act.eval, d19]
              | 2, ho =>
                obtain rfl := Option.some.inj ho
                exact absurd rfl hne1
              | 3, ho =>
                obtain rfl := Option.some.inj ho
                have d10 : bx.tmps.getD 10 undef = .pointer (some ⟨P, 0, none⟩) := hS.base 10 (by kernel_rfl)
                have hl := (hz.fix (P, [.pointer (some ⟨bk'.p, 0, none⟩)]) (by simp)).1.cell 0 _ rfl
                refine ⟨rfl, rests_value (c := (.pointer (some ⟨bk'.p, 0, none⟩))) ?_⟩
                simp [Act.eval, d10, go_sem, hl]
              | 4, ho =>
                obtain rfl := Option.some.inj ho
                have d19 : bx.tmps.getD 19 undef = .int .i64 κ := hS.base 19 (by kernel_rfl)
                refine ⟨rfl, rests_value (c := .int .i64 κ) ?_⟩
                simp [execOp, Act.eval, d19]
              | 5, ho =>
                obtain rfl := Option.some.inj ho
                exact absurd rfl hne2
              | 6, ho =>
                obtain rfl := Option.some.inj ho
                have d130 : bx.tmps.getD 130 undef = .int .i64 E := hS.dep 2 130 (by kernel_rfl) (by kernel_rfl)
                have d133 : bx.tmps.getD 133 undef = .int .i64 E := hS.dep 5 133 (by kernel_rfl) (by kernel_rfl)
                refine ⟨rfl, rests_value (c := .bool true) ?_⟩
                simp [Act.eval, d130, d133, go_sem]
              | 7, ho =>
                obtain rfl := Option.some.inj ho
                have d134 : bx.tmps.getD 134 undef = .bool true := hS.dep 6 134 (by kernel_rfl) (by kernel_rfl)
                refine ⟨rfl, rests_value (c := .bool true) ?_⟩
                simp [execOp, Act.eval, d134]
              | n + 8, ho => exact absurd ho (by simp)
            case op1 =>
              intro o bx u b ho hJ hS
              obtain rfl := Option.some.inj ho
              have d128 : bx.tmps.getD 128 undef = .pointer (some ⟨bk.p, 0, none⟩) := hS.dep 0 128 (by kernel_rfl) (by kernel_rfl)
              have d129 : bx.tmps.getD 129 undef = .int .i64 κ := hS.dep 1 129 (by kernel_rfl) (by kernel_rfl)
              have hcall := hcall1 u b hJ
              refine ⟨rfl, yieldsY_call (f := 12) (args := #[.pointer (some ⟨bk.p, 0, none⟩), .int .i64 κ]) (u := u) ?_ (hcall.mono fun e u' h => ⟨_, h.1, rfl, h.2⟩) (K := fun v u' => v = .int .i64 E ∧ J true b u') (fun v u' h => h)⟩
              simp [Act.eval, d128, d129, go_sem]
            case op2 =>
              intro o bx u b ho hJ hS
              obtain rfl := Option.some.inj ho
              have d131 : bx.tmps.getD 131 undef = (.pointer (some ⟨bk'.p, 0, none⟩)) := hS.dep 3 131 (by kernel_rfl) (by kernel_rfl)
              have d132 : bx.tmps.getD 132 undef = .int .i64 κ := hS.dep 4 132 (by kernel_rfl) (by kernel_rfl)
              have hcall := hcall2 u b hJ
              refine ⟨rfl, yieldsY_call (f := 13) (args := #[(.pointer (some ⟨bk'.p, 0, none⟩)), .int .i64 κ]) (u := u) ?_ (hcall.mono fun e u' h => ⟨_, h.1, rfl, h.2⟩) (K := fun v u' => v = .int .i64 E ∧ J b true u') (fun v u' h => h)⟩
              simp [Act.eval, d131, d132, go_sem]
            case fin =>
              intro u hJ
              rw [hJd] at hJ
              obtain ⟨z, z', hz⟩ := hJ
              have HZ : Shut (Two w r ((T, [.int .i64 d.kind, .int .i64 d.b, .int .u64 d.k]) :: [(P, [.pointer (some ⟨bk'.p, 0, none⟩)]), (w.heap.size, [.int .i64 (r : Int)]), (w.heap.size + 1, [.bool false])]) u bk z bk' z' (remS s (κ)) (remS s (κ))) := ⟨by simpa using hz⟩
              clear hz hJd hcall1 hcall2 hJ0 HT3
              simp [putAll, dstAt, Act.put]
              have cp := (HZ.out.fix (P, [.pointer (some ⟨bk'.p, 0, none⟩)]) (by simp)).1.cell 0 _ rfl
              have cn := HZ.out.x.headR.2.2.2.2.2
              have hl := fun m => len_any (HZ.out.drewN m).a
              have HN : ∀ m, Shut (Two w r [(P, [.pointer (some ⟨bk'.p, 0, none⟩)]), (w.heap.size, [.int .i64 (r : Int)]), (w.heap.size + 1, [.bool false])] (u.drewN m) bk z bk' z' (remS s (κ)) (remS s (κ))) := fun m => ⟨(HZ.out.drewN m).less fun p hp => List.mem_cons_of_mem _ hp⟩
              obtain ⟨N, hN⟩ : ∃ N, (remS s (κ)).n = N := ⟨_, rfl⟩
              rw [hN] at cn hl
              clear hN HZ
              go_wp2_with fail
              go_quiet (exact (hl _).mono fun e w' h => ⟨h.1, _, h.2⟩)
              go_wp2_with fail
              go_roundw
              case rel => exact ⟨i + 1, _, _, _, by go_num, by omega, HN _⟩
              case measure => simp [intOf]; omega
          · go_wp2_with fail
            generalize wr.alloc (.cells #[.int .i64 d.kind, .int .i64 d.b, .int .u64 d.k] 32) = Wt at *
            generalize wr.heap.size = T at *
            clear c0 c1 c2 cx lx m1 m2 s1 k0 k1 hwk
            have hd := HD.out
            obtain ⟨key, hkey⟩ := nn_of d.k hd.wf.2.2.1 (by have := hd.wf.2.2.2; omega)
            obtain ⟨E, hE⟩ : ∃ E : Int, ((bucket s (gmix key) : Nat) : Int) = E := ⟨_, rfl⟩
            obtain ⟨J, hJd⟩ : ∃ J : Bool → Bool → World → Prop, J = fun p q u => ∃ z z', Two w r ((T, [.int .i64 d.kind, .int .i64 d.b, .int .u64 d.k]) :: [(P, [.pointer (some ⟨bk'.p, 0, none⟩)]), (w.heap.size, [.int .i64 (r : Int)]), (w.heap.size + 1, [.bool false])]) u bk z bk' z' (if p then s else s) (if q then s else s) := ⟨_, rfl⟩
            have hJ0 : ∀ W, Two w r ((T, [.int .i64 d.kind, .int .i64 d.b, .int .u64 d.k]) :: [(P, [.pointer (some ⟨bk'.p, 0, none⟩)]), (w.heap.size, [.int .i64 (r : Int)]), (w.heap.size + 1, [.bool false])]) W bk v bk' v' s s → J false false W.drew := fun W h => by rw [hJd]; exact ⟨v, v', h.drew⟩
            have hcall1 : ∀ u b, J false b u → Calls Try.prog 14 #[.pointer (some ⟨bk.p, 0, none⟩), .int .u64 d.k] u fun e u' => e = .returned (.int .i64 E) ∧ J true b u' := by
              intro u b hJ
              rw [hJd] at hJ ⊢
              obtain ⟨z, z', hz⟩ := hJ
              simp only [ite_self] at hz
              have hc := bucket_any hz.a hz.ra.wf (by have := hz.ra.room; have := HS.out; omega) key
              rw [hE, hkey] at hc
              refine hc.mono ?_
              rintro e u' ⟨rfl, rfl⟩
              exact ⟨rfl, z, z', by simpa using hz⟩
            have hcall2 : ∀ u b, J b false u → Calls Try.prog 15 #[.pointer (some ⟨bk'.p, 0, none⟩), .int .u64 d.k] u fun e u' => e = .returned (.int .i64 E) ∧ J b true u' := by
              intro u b hJ
              rw [hJd] at hJ ⊢
              obtain ⟨z, z', hz⟩ := hJ
              simp only [ite_self] at hz
              have hc := rbucket_any hz.x hz.rx.wf (by have := hz.rx.room; have := HS.out; omega) key
              rw [hE, hkey] at hc
              refine hc.mono ?_
              rintro e u' ⟨rfl, hb⟩
              exact ⟨rfl, z, z', by simpa using hz.on hb⟩
            clear hE hkey
            have hJ0 := hJ0 _ h2
            have HT3 : Shut _ := ⟨h2⟩
            clear h2
            refine wp_region_two (by kernel_rfl) [.pointer (some ⟨bk.p, 0, none⟩), .pointer (some ⟨T, 2, none⟩), .int .u64 d.k, .int .i64 E, (.pointer (some ⟨bk'.p, 0, none⟩)), .pointer (some ⟨T, 2, none⟩), .int .u64 d.k, .int .i64 E, .bool true, .bool true] 3 7 J (by kernel_rfl) (by decide) (by decide) (by decide) hJ0 ?op ?op1 ?op2 ?fin
            case op =>
              intro i o bx u p q ho hne1 hne2 hJ hS
              rw [hJd] at hJ
              obtain ⟨z, z', hz⟩ := hJ
              match i, ho with
              | 0, ho =>
                obtain rfl := Option.some.inj ho
                have d8 : bx.tmps.getD 8 undef = .pointer (some ⟨bk.p, 0, none⟩) := hS.base 8 (by kernel_rfl)
                refine ⟨rfl, rests_value (c := .pointer (some ⟨bk.p, 0, none⟩)) ?_⟩
                simp [execOp, Act.eval, d8]
              | 1, ho =>
                obtain rfl := Option.some.inj ho
                have d12 : bx.tmps.getD 12 undef = .pointer (some ⟨T, 0, none⟩) := hS.base 12 (by kernel_rfl)
                refine ⟨rfl, rests_value (c := .pointer (some ⟨T, 2, none⟩)) ?_⟩
                simp [Act.eval, d12, go_sem]
              | 2, ho =>
                obtain rfl := Option.some.inj ho
                have d83 : bx.tmps.getD 83 undef = .pointer (some ⟨T, 2, none⟩) := hS.dep 1 83 (by kernel_rfl) (by kernel_rfl)
                have hl := (hz.fix _ (List.mem_cons_self)).1.cell 2 _ rfl
                refine ⟨rfl, rests_value (c := .int .u64 d.k) ?_⟩
                simp [Act.eval, d83, go_sem, hl]
              | 3, ho =>
                obtain rfl := Option.some.inj ho
                exact absurd rfl hne1
              | 4, ho =>
                obtain rfl := Option.some.inj ho
                have d10 : bx.tmps.getD 10 undef = .pointer (some ⟨P, 0, none⟩) := hS.base 10 (by kernel_rfl)
                have hl := (hz.fix (P, [.pointer (some ⟨bk'.p, 0, none⟩)]) (by simp)).1.cell 0 _ rfl
                refine ⟨rfl, rests_value (c := (.pointer (some ⟨bk'.p, 0, none⟩))) ?_⟩
                simp [Act.eval, d10, go_sem, hl]
              | 5, ho =>
                obtain rfl := Option.some.inj ho
                have d12 : bx.tmps.getD 12 undef = .pointer (some ⟨T, 0, none⟩) := hS.base 12 (by kernel_rfl)
                refine ⟨rfl, rests_value (c := .pointer (some ⟨T, 2, none⟩)) ?_⟩
                simp [Act.eval, d12, go_sem]
              | 6, ho =>
                obtain rfl := Option.some.inj ho
                have d87 : bx.tmps.getD 87 undef = .pointer (some ⟨T, 2, none⟩) := hS.dep 5 87 (by kernel_rfl) (by kernel_rfl)
                have hl := (hz.fix _ (List.mem_cons_self)).1.cell 2 _ rfl
                refine ⟨rfl, rests_value (c := .int .u64 d.k) ?_⟩
                simp [Act.eval, d87, go_sem, hl]
              | 7, ho =>
                obtain rfl := Option.some.inj ho
                exact absurd rfl hne2
              | 8, ho =>
                obtain rfl := Option.some.inj ho
                have d85 : bx.tmps.getD 85 undef = .int .i64 E := hS.dep 3 85 (by kernel_rfl) (by kernel_rfl)
                have d89 : bx.tmps.getD 89 undef = .int .i64 E := hS.dep 7 89 (by kernel_rfl) (by kernel_rfl)
                refine ⟨rfl, rests_value (c := .bool true) ?_⟩
                simp [Act.eval, d85, d89, go_sem]
              | 9, ho =>
                obtain rfl := Option.some.inj ho
                have d90 : bx.tmps.getD 90 undef = .bool true := hS.dep 8 90 (by kernel_rfl) (by kernel_rfl)
                refine ⟨rfl, rests_value (c := .bool true) ?_⟩
                simp [execOp, Act.eval, d90]
              | n + 10, ho => exact absurd ho (by simp)
            case op1 =>
              intro o bx u b ho hJ hS
              obtain rfl := Option.some.inj ho
              have d82 : bx.tmps.getD 82 undef = .pointer (some ⟨bk.p, 0, none⟩) := hS.dep 0 82 (by kernel_rfl) (by kernel_rfl)
              have d84 : bx.tmps.getD 84 undef = .int .u64 d.k := hS.dep 2 84 (by kernel_rfl) (by kernel_rfl)
              have hcall := hcall1 u b hJ
              refine ⟨rfl, yieldsY_call (f := 14) (args := #[.pointer (some ⟨bk.p, 0, none⟩), .int .u64 d.k]) (u := u) ?_ (hcall.mono fun e u' h => ⟨_, h.1, rfl, h.2⟩) (K := fun v u' => v = .int .i64 E ∧ J true b u') (fun v u' h => h)⟩
              simp [Act.eval, d82, d84, go_sem]
            case op2 =>
              intro o bx u b ho hJ hS
              obtain rfl := Option.some.inj ho
              have d86 : bx.tmps.getD 86 undef = (.pointer (some ⟨bk'.p, 0, none⟩)) := hS.dep 4 86 (by kernel_rfl) (by kernel_rfl)
              have d88 : bx.tmps.getD 88 undef = .int .u64 d.k := hS.dep 6 88 (by kernel_rfl) (by kernel_rfl)
              have hcall := hcall2 u b hJ
              refine ⟨rfl, yieldsY_call (f := 15) (args := #[(.pointer (some ⟨bk'.p, 0, none⟩)), .int .u64 d.k]) (u := u) ?_ (hcall.mono fun e u' h => ⟨_, h.1, rfl, h.2⟩) (K := fun v u' => v = .int .i64 E ∧ J b true u') (fun v u' h => h)⟩
              simp [Act.eval, d86, d88, go_sem]
            case fin =>
              intro u hJ
              rw [hJd] at hJ
              obtain ⟨z, z', hz⟩ := hJ
              have HZ : Shut (Two w r ((T, [.int .i64 d.kind, .int .i64 d.b, .int .u64 d.k]) :: [(P, [.pointer (some ⟨bk'.p, 0, none⟩)]), (w.heap.size, [.int .i64 (r : Int)]), (w.heap.size + 1, [.bool false])]) u bk z bk' z' s s) := ⟨by simpa using hz⟩
              clear hz hJd hcall1 hcall2 hJ0 HT3
              simp [putAll, dstAt, Act.put]
              have cp := (HZ.out.fix (P, [.pointer (some ⟨bk'.p, 0, none⟩)]) (by simp)).1.cell 0 _ rfl
              have cn := HZ.out.x.headR.2.2.2.2.2
              have hl := fun m => len_any (HZ.out.drewN m).a
              have HN : ∀ m, Shut (Two w r [(P, [.pointer (some ⟨bk'.p, 0, none⟩)]), (w.heap.size, [.int .i64 (r : Int)]), (w.heap.size + 1, [.bool false])] (u.drewN m) bk z bk' z' s s) := fun m => ⟨(HZ.out.drewN m).less fun p hp => List.mem_cons_of_mem _ hp⟩
              obtain ⟨N, hN⟩ : ∃ N, s.n = N := ⟨_, rfl⟩
              rw [hN] at cn hl
              clear hN HZ
              go_wp2_with fail
              go_quiet (exact (hl _).mono fun e w' h => ⟨h.1, _, h.2⟩)
              go_wp2_with fail
              go_roundw
              case rel => exact ⟨i + 1, _, _, _, by go_num, by omega, HN _⟩
              case measure => simp [intOf]; omega
      · have h601 : decide ((i : Int) < 60) = false := by simp; omega
        have h602 : decide (i < 60) = false := by simp; omega
        have h2 := HT.out
        have cX := (h2.fix (w.heap.size, [.int .i64 (r : Int)]) (by simp)).1.cell 0 _ rfl
        clear HT hlt
        go_wp2_with fail
        refine (working_any _ _).mono ?_
        rintro e w3 ⟨rfl, rfl⟩
        go_wp2_with fail
        obtain ⟨V0, hV0⟩ : ∃ V0, (wr.alloc (.cells #[.int .i64 0] 3)).alloc (.cells #[.pointer (some ⟨bk.p, 0, none⟩)] 24) = V0 := ⟨_, rfl⟩
        have hsz : V0.heap.size = wr.heap.size + 2 := by rw [← hV0]; simp
        have hB3 : Below wr.heap.size wr V0 := by rw [← hV0]; exact ((Below.refl _ _).alloc (Nat.le_refl _) _).alloc (by simp) _
        have hT : Row V0 wr.heap.size [.int .i64 0] := by rw [← hV0]; exact row_alloc.on' ((Below.refl _ _).alloc (Nat.le_refl _) _)
        have hZ : V0.cell? ⟨wr.heap.size + 1, 0, none⟩ = some (.pointer (some ⟨bk.p, 0, none⟩)) := by rw [← hV0]; simp [go_sem]
        rw [hV0]
        clear hV0
        have h3 := h2.on hB3
        obtain ⟨l1, l2, l3⟩ := h2.lt
        have hwr : w.heap.size ≤ wr.heap.size := h2.below.size
        have hroom := h2.ra.room
        have hroom' := h2.rx.room
        have hS := HS.out
        have hba : bk.a < wr.heap.size := l1 bk.a (List.mem_append_left _ bk.ma)
        obtain ⟨T, hTe⟩ : ∃ T, wr.heap.size = T := ⟨_, rfl⟩
        rw [hTe] at hsz hT hZ l1 l2 l3 hwr hba
        simp only [hTe]
        clear hB3 hTe cX
        refine wp_working (d := 21) (b := bk) (s := s) (B := T + 1) rfl (by omega) hZ h3.a.reads (fun k => k ≠ T) (fun k hk => by omega) (by omega)
          (fun k W => Two w r [(P, [.pointer (some ⟨bk'.p, 0, none⟩)]), (w.heap.size, [.int .i64 (r : Int)]), (w.heap.size + 1, [.bool false])] W bk v bk' v' s s ∧ Row W T [.int .i64 (lastW s.A k + 1)]) (fun _ _ _ => False)
          (fun k W W' h hb => ⟨h.1.keep (fun y hy => by have := l1 y hy; omega) (fun y hy => by have := l2 y hy; omega) (fun p hp => by have := l3 p hp; omega) (by omega) hb, h.2.on hb (by omega)⟩) (fun _ _ _ _ h _ => h)
          ⟨h3, by simpa [lastW] using hT⟩ ?skip ?assign ?body ?done (fun _ _ _ h _ => h.elim)
        case skip =>
          rintro k W hk hz ⟨h4, h5⟩
          have e1 : lastW s.A (k + 1) = lastW s.A k := if_neg hz
          rw [e1]
          exact ⟨h4, h5⟩
        case assign =>
          intro l' k W K hK
          simp only [roundAct] at hK
          gi_wp2
          simpa using hK
        case body =>
          rintro l' k W hk hz ⟨h4, h5⟩
          have e1 : lastW s.A (k + 1) = (k : Int) := if_pos hz
          have hl := lastW_lt s.A k
          obtain ⟨j0, hj0⟩ := Int.eq_ofNat_of_zero_le (show 0 ≤ lastW s.A k + 1 by omega)
          have hgap : ∀ i, j0 ≤ i → i < k → s.A i ≠ 0 := fun i h1 h2 => lastW_gap s.A k i (by omega) h2
          rw [hj0] at h5
          have HG : Shut (∀ i, j0 ≤ i → i < k → s.A i ≠ 0) := ⟨hgap⟩
          have HK : Shut (k < r ∧ j0 ≤ k ∧ k < s.r) := ⟨by omega, by omega, hk⟩
          have HE : Shut (lastW s.A (k + 1) = (k : Int)) := ⟨e1⟩
          have HZ : Shut (s.A k = 0) := ⟨hz⟩
          have H4 : Shut _ := ⟨h4⟩
          have H5 : Shut _ := ⟨h5⟩
          clear h4 h5 hgap hl hj0 e1 hz hk h2 h3 hT hZ
          simp only [roundAct]
          gi_wp2
          simp only [List.setIfInBounds_toArray, List.set_cons_succ, List.set_cons_zero]
          gi_loopw [149] (fun _ W2 => ∃ j : Nat, j ≤ k ∧ (∀ i, j ≤ i → i < k → s.A i ≠ 0) ∧ Shut (Two w r [(P, [.pointer (some ⟨bk'.p, 0, none⟩)]), (w.heap.size, [.int .i64 (r : Int)]), (w.heap.size + 1, [.bool false])] W2 bk v bk' v' s s) ∧ Shut (Row W2 T [.int .i64 (j : Int)]) ∧ Shut (Keeps (fun k => k ≠ T) W W2)) (fun _ W2 => k - numIn T W2)
          case atStart => exact ⟨j0, HK.out.2.1, HG.out, H4, H5, ⟨Keeps.refl _ _⟩⟩
          case round =>
            obtain ⟨j, hjk, hgap, HT2, HR2, HK2⟩ := hrel
            clear H4 H5
            have hjr : (j : Int) < r := by have := HK.out; omega
            have hjn : j < s.r := by have := HK.out; omega
            have ct := HR2.out.cell 0 _ rfl
            have gt := HR2.out.free 0
            have cX := (HT2.out.fix (w.heap.size, [.int .i64 (r : Int)]) (by simp)).1.cell 0 _ rfl
            have cP := (HT2.out.fix (P, [.pointer (some ⟨bk'.p, 0, none⟩)]) (by simp)).1.cell 0 _ rfl
            have cs : wr.cell? ⟨bk'.p, 0, none⟩ = some (.slice (some ⟨bk'.a, 0, none⟩) r bk'.ca) := by rw [← hroom']; exact HT2.out.x.headR.1
            have ca := HT2.out.x.cellA j hjn
            by_cases hlt : j < k
            · have hpos : (0 : Int) < s.A j := by have := hgap j (Nat.le_refl _) hlt; omega
              have HJ : Shut (j < k ∧ ∀ i, j + 1 ≤ i → i < k → s.A i ≠ 0) := ⟨hlt, fun i h1 h2 => hgap i (by omega) h2⟩
              have HT3 : Shut (Two w r [(P, [.pointer (some ⟨bk'.p, 0, none⟩)]), (w.heap.size, [.int .i64 (r : Int)]), (w.heap.size + 1, [.bool false])] (wr.drew.setCell ⟨T, 0, none⟩ (.int .i64 ((j : Int) + 1))) bk v bk' v' s s) := ⟨HT2.out.drew.other l1 l2 l3 hwr 0 _⟩
              have HR3 : Shut (Row (wr.drew.setCell ⟨T, 0, none⟩ (.int .i64 ((j : Int) + 1))) T [.int .i64 ((j + 1 : Nat) : Int)]) := ⟨(show Row wr.drew T [.int .i64 (j : Int)] from HR2.out).set 0 (.int .i64 ((j : Int) + 1))⟩
              have HK3 : Shut (Keeps (fun k => k ≠ T) W (wr.drew.setCell ⟨T, 0, none⟩ (.int .i64 ((j : Int) + 1)))) := ⟨HK2.out.drew.setCell (p := ⟨T, 0, none⟩) (by simp) _⟩
              have HNI : Shut (numIn T wr = j) := ⟨numIn_row HR2.out⟩
              have hjb : (j : Int) ≤ 1000000 := by omega
              have hpn : 0 < s.A j := by omega
              clear HT2 HR2 HK2 hgap hlt
              gi_wp2
              refine region_read_in (by kernel_rfl) [.int .i64 (j : Int), .int .i64 (r : Int), .bool true, .bool true, (.pointer (some ⟨bk'.p, 0, none⟩)), (.pointer (some ⟨bk'.p, 0, none⟩)), (.pointer (some ⟨bk'.p, 0, none⟩)), (.slice (some ⟨bk'.a, 0, none⟩) r bk'.ca), .int .i64 (j : Int), (.pointer (some ⟨bk'.a, j, none⟩)), .int .i64 (s.A j : Int), .bool true, .bool true] (by kernel_rfl) (by kernel_rfl) ?op ?fin
              case op =>
                intro i o bx ho hS
                match i, ho with
                | 0, ho =>
                  obtain rfl := Option.some.inj ho
                  have d20 : bx.tmps.getD 20 undef = .pointer (some ⟨T, 0, none⟩) := hS.base 20 (by kernel_rfl)
                  refine .inl ⟨rfl, ?_⟩
                  simp [Act.eval, d20, go_sem, ct]
                | 1, ho =>
                  obtain rfl := Option.some.inj ho
                  have d3 : bx.tmps.getD 3 undef = .pointer (some ⟨w.heap.size, 0, none⟩) := hS.base 3 (by kernel_rfl)
                  refine .inl ⟨rfl, ?_⟩
                  simp [Act.eval, d3, go_sem, cX]
                | 2, ho =>
                  obtain rfl := Option.some.inj ho
                  have d149 : bx.tmps.getD 149 undef = .int .i64 (j : Int) := hS.dep 0 149 (by kernel_rfl) (by kernel_rfl)
                  have d150 : bx.tmps.getD 150 undef = .int .i64 (r : Int) := hS.dep 1 150 (by kernel_rfl) (by kernel_rfl)
                  refine .inl ⟨rfl, ?_⟩
                  simp [Act.eval, d149, d150, go_sem, hjr]
                | 3, ho =>
                  obtain rfl := Option.some.inj ho
                  have d151 : bx.tmps.getD 151 undef = .bool true := hS.dep 2 151 (by kernel_rfl) (by kernel_rfl)
                  refine .inl ⟨rfl, ?_⟩
                  simp [execOp, Act.eval, d151]
                | 4, ho =>
                  obtain rfl := Option.some.inj ho
                  have gd : bx.tmps.getD 152 undef = .bool true := hS.dep 3 152 (by kernel_rfl) (by kernel_rfl)
                  have d10 : bx.tmps.getD 10 undef = .pointer (some ⟨P, 0, none⟩) := hS.base 10 (by kernel_rfl)
                  refine .inl ⟨wanted_yes (j := 3) (t := 152) (c := true) (by kernel_rfl) (by kernel_rfl) gd, ?_⟩
                  simp [Act.eval, d10, go_sem, cP]
                | 5, ho =>
                  obtain rfl := Option.some.inj ho
                  have gd : bx.tmps.getD 152 undef = .bool true := hS.dep 3 152 (by kernel_rfl) (by kernel_rfl)
                  have d153 : bx.tmps.getD 153 undef = (.pointer (some ⟨bk'.p, 0, none⟩)) := hS.dep 4 153 (by kernel_rfl) (by kernel_rfl)
                  refine .inl ⟨wanted_yes (j := 3) (t := 152) (c := true) (by kernel_rfl) (by kernel_rfl) gd, ?_⟩
                  simp [execOp, Act.eval, d153]
                | 6, ho =>
                  obtain rfl := Option.some.inj ho
                  have gd : bx.tmps.getD 152 undef = .bool true := hS.dep 3 152 (by kernel_rfl) (by kernel_rfl)
                  have d154 : bx.tmps.getD 154 undef = (.pointer (some ⟨bk'.p, 0, none⟩)) := hS.dep 5 154 (by kernel_rfl) (by kernel_rfl)
                  refine .inl ⟨wanted_yes (j := 3) (t := 152) (c := true) (by kernel_rfl) (by kernel_rfl) gd, ?_⟩
                  simp [Act.eval, d154, go_sem]
                | 7, ho =>
                  obtain rfl := Option.some.inj ho
                  have gd : bx.tmps.getD 152 undef = .bool true := hS.dep 3 152 (by kernel_rfl) (by kernel_rfl)
                  have d155 : bx.tmps.getD 155 undef = (.pointer (some ⟨bk'.p, 0, none⟩)) := hS.dep 6 155 (by kernel_rfl) (by kernel_rfl)
                  refine .inl ⟨wanted_yes (j := 3) (t := 152) (c := true) (by kernel_rfl) (by kernel_rfl) gd, ?_⟩
                  simp [Act.eval, d155, go_sem, cs]
                | 8, ho =>
                  obtain rfl := Option.some.inj ho
                  have gd : bx.tmps.getD 152 undef = .bool true := hS.dep 3 152 (by kernel_rfl) (by kernel_rfl)
                  have d20 : bx.tmps.getD 20 undef = .pointer (some ⟨T, 0, none⟩) := hS.base 20 (by kernel_rfl)
                  refine .inl ⟨wanted_yes (j := 3) (t := 152) (c := true) (by kernel_rfl) (by kernel_rfl) gd, ?_⟩
                  simp [Act.eval, d20, go_sem, ct]
                | 9, ho =>
                  obtain rfl := Option.some.inj ho
                  have gd : bx.tmps.getD 152 undef = .bool true := hS.dep 3 152 (by kernel_rfl) (by kernel_rfl)
                  have d156 : bx.tmps.getD 156 undef = (.slice (some ⟨bk'.a, 0, none⟩) r bk'.ca) := hS.dep 7 156 (by kernel_rfl) (by kernel_rfl)
                  have d157 : bx.tmps.getD 157 undef = .int .i64 (j : Int) := hS.dep 8 157 (by kernel_rfl) (by kernel_rfl)
                  refine .inl ⟨wanted_yes (j := 3) (t := 152) (c := true) (by kernel_rfl) (by kernel_rfl) gd, ?_⟩
                  simp [Act.eval, d156, d157, go_sem, hjr]
                | 10, ho =>
                  obtain rfl := Option.some.inj ho
                  have gd : bx.tmps.getD 152 undef = .bool true := hS.dep 3 152 (by kernel_rfl) (by kernel_rfl)
                  have d158 : bx.tmps.getD 158 undef = (.pointer (some ⟨bk'.a, j, none⟩)) := hS.dep 9 158 (by kernel_rfl) (by kernel_rfl)
                  refine .inl ⟨wanted_yes (j := 3) (t := 152) (c := true) (by kernel_rfl) (by kernel_rfl) gd, ?_⟩
                  simp [Act.eval, d158, go_sem, ca]
                | 11, ho =>
                  obtain rfl := Option.some.inj ho
                  have gd : bx.tmps.getD 152 undef = .bool true := hS.dep 3 152 (by kernel_rfl) (by kernel_rfl)
                  have d159 : bx.tmps.getD 159 undef = .int .i64 (s.A j : Int) := hS.dep 10 159 (by kernel_rfl) (by kernel_rfl)
                  refine .inl ⟨wanted_yes (j := 3) (t := 152) (c := true) (by kernel_rfl) (by kernel_rfl) gd, ?_⟩
                  simp [Act.eval, d159, go_sem, hpn]
                | 12, ho =>
                  obtain rfl := Option.some.inj ho
                  have d152 : bx.tmps.getD 152 undef = .bool true := hS.dep 3 152 (by kernel_rfl) (by kernel_rfl)
                  have d160 : bx.tmps.getD 160 undef = .bool true := hS.dep 11 160 (by kernel_rfl) (by kernel_rfl)
                  refine .inl ⟨rfl, ?_⟩
                  simp [Act.eval, d152, d160, go_sem]
                | n + 13, ho => exact absurd ho (by simp)
              case fin =>
                simp [putAll, dstAt, Act.put]
                gi_wp2
                go_roundw
                case rel => exact ⟨j + 1, HJ.out.1, HJ.out.2, HT3, HR3, HK3⟩
                case measure =>
                  have hm1 := numIn_row HR3.out
                  have hm2 := HNI.out
                  have hm3 := HJ.out.1
                  show k - numIn T (wr.drew.setCell ⟨T, 0, none⟩ (.int .i64 ((j : Int) + 1))) < k - numIn T wr
                  rw [hm1, hm2]
                  omega
            · obtain rfl : j = k := by omega
              have HT3 : Shut (Two w r [(P, [.pointer (some ⟨bk'.p, 0, none⟩)]), (w.heap.size, [.int .i64 (r : Int)]), (w.heap.size + 1, [.bool false])] (wr.drew.setCell ⟨T, 0, none⟩ (.int .i64 ((j : Int) + 1))) bk v bk' v' s s) := ⟨HT2.out.drew.other l1 l2 l3 hwr 0 _⟩
              have HR3 : Shut (Row (wr.drew.setCell ⟨T, 0, none⟩ (.int .i64 ((j : Int) + 1))) T [.int .i64 ((j : Int) + 1)]) := ⟨(show Row wr.drew T [.int .i64 (j : Int)] from HR2.out).set 0 (.int .i64 ((j : Int) + 1))⟩
              have HK3 : Shut (Keeps (fun k => k ≠ T) W (wr.drew.setCell ⟨T, 0, none⟩ (.int .i64 ((j : Int) + 1)))) := ⟨HK2.out.drew.setCell (p := ⟨T, 0, none⟩) (by simp) _⟩
              have hjb : (j : Int) ≤ 1000000 := by omega
              rw [HZ.out] at ca
              clear HT2 HR2 HK2 hgap hlt hjk
              gi_wp2
              refine region_read_in (by kernel_rfl) [.int .i64 (j : Int), .int .i64 (r : Int), .bool true, .bool true, (.pointer (some ⟨bk'.p, 0, none⟩)), (.pointer (some ⟨bk'.p, 0, none⟩)), (.pointer (some ⟨bk'.p, 0, none⟩)), (.slice (some ⟨bk'.a, 0, none⟩) r bk'.ca), .int .i64 (j : Int), (.pointer (some ⟨bk'.a, j, none⟩)), .int .i64 0, .bool false, .bool false] (by kernel_rfl) (by kernel_rfl) ?op ?fin
              case op =>
                intro i o bx ho hS
                match i, ho with
                | 0, ho =>
                  obtain rfl := Option.some.inj ho
                  have d20 : bx.tmps.getD 20 undef = .pointer (some ⟨T, 0, none⟩) := hS.base 20 (by kernel_rfl)
                  refine .inl ⟨rfl, ?_⟩
                  simp [Act.eval, d20, go_sem, ct]
                | 1, ho =>
                  obtain rfl := Option.some.inj ho
                  have d3 : bx.tmps.getD 3 undef = .pointer (some ⟨w.heap.size, 0, none⟩) := hS.base 3 (by kernel_rfl)
                  refine .inl ⟨rfl, ?_⟩
                  simp [Act.eval, d3, go_sem, cX]
                | 2, ho =>
                  obtain rfl := Option.some.inj ho
                  have d149 : bx.tmps.getD 149 undef = .int .i64 (j : Int) := hS.dep 0 149 (by kernel_rfl) (by kernel_rfl)
                  have d150 : bx.tmps.getD 150 undef = .int .i64 (r : Int) := hS.dep 1 150 (by kernel_rfl) (by kernel_rfl)
                  refine .inl ⟨rfl, ?_⟩
                  simp [Act.eval, d149, d150, go_sem, hjr]
                | 3, ho =>
                  obtain rfl := Option.some.inj ho
                  have d151 : bx.tmps.getD 151 undef = .bool true := hS.dep 2 151 (by kernel_rfl) (by kernel_rfl)
                  refine .inl ⟨rfl, ?_⟩
                  simp [execOp, Act.eval, d151]
                | 4, ho =>
                  obtain rfl := Option.some.inj ho
                  have gd : bx.tmps.getD 152 undef = .bool true := hS.dep 3 152 (by kernel_rfl) (by kernel_rfl)
                  have d10 : bx.tmps.getD 10 undef = .pointer (some ⟨P, 0, none⟩) := hS.base 10 (by kernel_rfl)
                  refine .inl ⟨wanted_yes (j := 3) (t := 152) (c := true) (by kernel_rfl) (by kernel_rfl) gd, ?_⟩
                  simp [Act.eval, d10, go_sem, cP]
                | 5, ho =>
                  obtain rfl := Option.some.inj ho
                  have gd : bx.tmps.getD 152 undef = .bool true := hS.dep 3 152 (by kernel_rfl) (by kernel_rfl)
                  have d153 : bx.tmps.getD 153 undef = (.pointer (some ⟨bk'.p, 0, none⟩)) := hS.dep 4 153 (by kernel_rfl) (by kernel_rfl)
                  refine .inl ⟨wanted_yes (j := 3) (t := 152) (c := true) (by kernel_rfl) (by kernel_rfl) gd, ?_⟩
                  simp [execOp, Act.eval, d153]
                | 6, ho =>
                  obtain rfl := Option.some.inj ho
                  have gd : bx.tmps.getD 152 undef = .bool true := hS.dep 3 152 (by kernel_rfl) (by kernel_rfl)
                  have d154 : bx.tmps.getD 154 undef = (.pointer (some ⟨bk'.p, 0, none⟩)) := hS.dep 5 154 (by kernel_rfl) (by kernel_rfl)
                  refine .inl ⟨wanted_yes (j := 3) (t := 152) (c := true) (by kernel_rfl) (by kernel_rfl) gd, ?_⟩
                  simp [Act.eval, d154, go_sem]
                | 7, ho =>
                  obtain rfl := Option.some.inj ho
                  have gd : bx.tmps.getD 152 undef = .bool true := hS.dep 3 152 (by kernel_rfl) (by kernel_rfl)
                  have d155 : bx.tmps.getD 155 undef = (.pointer (some ⟨bk'.p, 0, none⟩)) := hS.dep 6 155 (by kernel_rfl) (by kernel_rfl)
                  refine .inl ⟨wanted_yes (j := 3) (t := 152) (c := true) (by kernel_rfl) (by kernel_rfl) gd, ?_⟩
                  simp [Act.eval, d155, go_sem, cs]
                | 8, ho =>
                  obtain rfl := Option.some.inj ho
                  have gd : bx.tmps.getD 152 undef = .bool true := hS.dep 3 152 (by kernel_rfl) (by kernel_rfl)
                  have d20 : bx.tmps.getD 20 undef = .pointer (some ⟨T, 0, none⟩) := hS.base 20 (by kernel_rfl)
                  refine .inl ⟨wanted_yes (j := 3) (t := 152) (c := true) (by kernel_rfl) (by kernel_rfl) gd, ?_⟩
                  simp [Act.eval, d20, go_sem, ct]
                | 9, ho =>
                  obtain rfl := Option.some.inj ho
                  have gd : bx.tmps.getD 152 undef = .bool true := hS.dep 3 152 (by kernel_rfl) (by kernel_rfl)
                  have d156 : bx.tmps.getD 156 undef = (.slice (some ⟨bk'.a, 0, none⟩) r bk'.ca) := hS.dep 7 156 (by kernel_rfl) (by kernel_rfl)
                  have d157 : bx.tmps.getD 157 undef = .int .i64 (j : Int) := hS.dep 8 157 (by kernel_rfl) (by kernel_rfl)
                  refine .inl ⟨wanted_yes (j := 3) (t := 152) (c := true) (by kernel_rfl) (by kernel_rfl) gd, ?_⟩
                  simp [Act.eval, d156, d157, go_sem, hjr]
                | 10, ho =>
                  obtain rfl := Option.some.inj ho
                  have gd : bx.tmps.getD 152 undef = .bool true := hS.dep 3 152 (by kernel_rfl) (by kernel_rfl)
                  have d158 : bx.tmps.getD 158 undef = (.pointer (some ⟨bk'.a, j, none⟩)) := hS.dep 9 158 (by kernel_rfl) (by kernel_rfl)
                  refine .inl ⟨wanted_yes (j := 3) (t := 152) (c := true) (by kernel_rfl) (by kernel_rfl) gd, ?_⟩
                  simp [Act.eval, d158, go_sem, ca]
                | 11, ho =>
                  obtain rfl := Option.some.inj ho
                  have gd : bx.tmps.getD 152 undef = .bool true := hS.dep 3 152 (by kernel_rfl) (by kernel_rfl)
                  have d159 : bx.tmps.getD 159 undef = .int .i64 0 := hS.dep 10 159 (by kernel_rfl) (by kernel_rfl)
                  refine .inl ⟨wanted_yes (j := 3) (t := 152) (c := true) (by kernel_rfl) (by kernel_rfl) gd, ?_⟩
                  simp [Act.eval, d159, go_sem]
                | 12, ho =>
                  obtain rfl := Option.some.inj ho
                  have d152 : bx.tmps.getD 152 undef = .bool true := hS.dep 3 152 (by kernel_rfl) (by kernel_rfl)
                  have d160 : bx.tmps.getD 160 undef = .bool false := hS.dep 11 160 (by kernel_rfl) (by kernel_rfl)
                  refine .inl ⟨rfl, ?_⟩
                  simp [Act.eval, d152, d160, go_sem]
                | n + 13, ho => exact absurd ho (by simp)
              case fin =>
                simp [putAll, dstAt, Act.put]
                gi_wp2
                refine ⟨HK3.out, HT3.out, ?_⟩
                rw [HE.out]
                exact HR3.out
        case done =>
          rintro W ⟨h4, _⟩ hK
          obtain ⟨key, hkey⟩ := nn_of 7 (by decide) (by decide)
          obtain ⟨E, hE⟩ : ∃ E : Int, ((bucket s (gmix key) : Nat) : Int) = E := ⟨_, rfl⟩
          have H4 : ∀ u, Below W.heap.size W.drew u → Two w r [(P, [.pointer (some ⟨bk'.p, 0, none⟩)]), (w.heap.size, [.int .i64 (r : Int)]), (w.heap.size + 1, [.bool false])] u bk v bk' v' s s := fun u hu => h4.on ⟨hu.os, hu.tape, hu.output, hu.size, hu.block⟩
          have hc1 : ∀ u, Below W.heap.size W.drew u → Calls Try.prog 14 #[.pointer (some ⟨bk.p, 0, none⟩), .int .u64 7] u fun e u' => e = .returned (.int .i64 E) ∧ Below u.heap.size u u' := fun u hu => by
            have hc := bucket_any (H4 u hu).a (H4 u hu).ra.wf (by omega) key
            rw [hE, hkey] at hc
            exact hc.mono fun e u' h => ⟨h.1, by rw [h.2]; exact Below.refl _ _⟩
          have hc2 : ∀ u, Below W.heap.size W.drew u → Calls Try.prog 15 #[.pointer (some ⟨bk'.p, 0, none⟩), .int .u64 7] u fun e u' => e = .returned (.int .i64 E) ∧ Below u.heap.size u u' := fun u hu => by
            have hc := rbucket_any (H4 u hu).x (H4 u hu).rx.wf (by omega) key
            rw [hE, hkey] at hc
            exact hc
          have hD : V0.heap.size < W.heap.size := (Array.getElem?_eq_some_iff.1 hK).1
          have HKU : ∀ u, Below W.heap.size W.drew u → (u.setCell ⟨w.heap.size + 1, 0, none⟩ (.bool true)).heap[T + 2]? = some (.deferred (some [])) := fun u hu => by
            rw [← hsz]
            exact (Below.heap_setCell _ _ _ _ (by show V0.heap.size ≠ w.heap.size + 1; have := l3 (w.heap.size + 1, [.bool false]) (by simp); simp only at this; omega)).trans ((hu.block _ hD).trans hK)
          have HKS : Shut (∀ u, Below W.heap.size W.drew u → (u.setCell ⟨w.heap.size + 1, 0, none⟩ (.bool true)).heap[T + 2]? = some (.deferred (some []))) := ⟨HKU⟩
          have HL : Shut (w.heap.size + 1 < T) := ⟨by have := l3 (w.heap.size + 1, [.bool false]) (by simp); simpa using this⟩
          clear HKU hE hkey h2 h3 hT hZ hS hD hK
          go_wp2_with fail
          refine wp_region_grow_store (by kernel_rfl) [.bool true, .bool true, .pointer (some ⟨bk.p, 0, none⟩), .int .i64 E, (.pointer (some ⟨bk'.p, 0, none⟩)), .int .i64 E, .bool true, .bool true, undef] 8 (fun u => u.setCell ⟨w.heap.size + 1, 0, none⟩ (.bool true)) (by kernel_rfl) (by decide) rfl ?op ?store ?fin
          case op =>
            intro i o bx u ho hne hbel hS
            match i, ho with
            | 0, ho =>
              obtain rfl := Option.some.inj ho
              have d7 : bx.tmps.getD 7 undef = .bool true := hS.base 7 (by kernel_rfl)
              refine .inl ⟨rfl, ends_value (c := .bool true) ?_⟩
              simp [execOp, Act.eval, d7]
            | 1, ho =>
              obtain rfl := Option.some.inj ho
              have d169 : bx.tmps.getD 169 undef = .bool true := hS.dep 0 169 (by kernel_rfl) (by kernel_rfl)
              refine .inl ⟨rfl, ends_value (c := .bool true) ?_⟩
              simp [execOp, Act.eval, d169]
            | 2, ho =>
              obtain rfl := Option.some.inj ho
              have gd : bx.tmps.getD 170 undef = .bool true := hS.dep 1 170 (by kernel_rfl) (by kernel_rfl)
              have d8 : bx.tmps.getD 8 undef = .pointer (some ⟨bk.p, 0, none⟩) := hS.base 8 (by kernel_rfl)
              refine .inl ⟨wanted_yes (j := 1) (t := 170) (c := true) (by kernel_rfl) (by kernel_rfl) gd, ends_value (c := .pointer (some ⟨bk.p, 0, none⟩)) ?_⟩
              simp [execOp, Act.eval, d8]
            | 3, ho =>
              obtain rfl := Option.some.inj ho
              have gd : bx.tmps.getD 170 undef = .bool true := hS.dep 1 170 (by kernel_rfl) (by kernel_rfl)
              have d171 : bx.tmps.getD 171 undef = .pointer (some ⟨bk.p, 0, none⟩) := hS.dep 2 171 (by kernel_rfl) (by kernel_rfl)
              refine .inl ⟨wanted_yes (j := 1) (t := 170) (c := true) (by kernel_rfl) (by kernel_rfl) gd, ends_call (f := 14) (args := #[.pointer (some ⟨bk.p, 0, none⟩), .int .u64 7]) (by kernel_rfl) ?_ (hc1 u (hbel (by kernel_rfl)))⟩
              simp [Act.eval, d171, go_sem]
            | 4, ho =>
              obtain rfl := Option.some.inj ho
              have gd : bx.tmps.getD 170 undef = .bool true := hS.dep 1 170 (by kernel_rfl) (by kernel_rfl)
              have d10 : bx.tmps.getD 10 undef = .pointer (some ⟨P, 0, none⟩) := hS.base 10 (by kernel_rfl)
              have hl := ((H4 u (hbel (by kernel_rfl))).fix (P, [.pointer (some ⟨bk'.p, 0, none⟩)]) (by simp)).1.cell 0 _ rfl
              refine .inl ⟨wanted_yes (j := 1) (t := 170) (c := true) (by kernel_rfl) (by kernel_rfl) gd, ends_value (c := (.pointer (some ⟨bk'.p, 0, none⟩))) ?_⟩
              simp [Act.eval, d10, go_sem, hl]
            | 5, ho =>
              obtain rfl := Option.some.inj ho
              have gd : bx.tmps.getD 170 undef = .bool true := hS.dep 1 170 (by kernel_rfl) (by kernel_rfl)
              have d173 : bx.tmps.getD 173 undef = (.pointer (some ⟨bk'.p, 0, none⟩)) := hS.dep 4 173 (by kernel_rfl) (by kernel_rfl)
              refine .inl ⟨wanted_yes (j := 1) (t := 170) (c := true) (by kernel_rfl) (by kernel_rfl) gd, ends_call (f := 15) (args := #[.pointer (some ⟨bk'.p, 0, none⟩), .int .u64 7]) (by kernel_rfl) ?_ (hc2 u (hbel (by kernel_rfl)))⟩
              simp [Act.eval, d173, go_sem]
            | 6, ho =>
              obtain rfl := Option.some.inj ho
              have gd : bx.tmps.getD 170 undef = .bool true := hS.dep 1 170 (by kernel_rfl) (by kernel_rfl)
              have d172 : bx.tmps.getD 172 undef = .int .i64 E := hS.dep 3 172 (by kernel_rfl) (by kernel_rfl)
              have d174 : bx.tmps.getD 174 undef = .int .i64 E := hS.dep 5 174 (by kernel_rfl) (by kernel_rfl)
              refine .inl ⟨wanted_yes (j := 1) (t := 170) (c := true) (by kernel_rfl) (by kernel_rfl) gd, ends_value (c := .bool true) ?_⟩
              simp [Act.eval, d172, d174, go_sem]
            | 7, ho =>
              obtain rfl := Option.some.inj ho
              have d170 : bx.tmps.getD 170 undef = .bool true := hS.dep 1 170 (by kernel_rfl) (by kernel_rfl)
              have d175 : bx.tmps.getD 175 undef = .bool true := hS.dep 6 175 (by kernel_rfl) (by kernel_rfl)
              refine .inl ⟨rfl, ends_value (c := .bool true) ?_⟩
              simp [Act.eval, d170, d175, go_sem]
            | 8, ho => exact absurd rfl hne
            | n + 9, ho => exact absurd ho (by simp)
          case store =>
            intro o bx u ho hbel hS
            obtain rfl := Option.some.inj ho
            have d6 : bx.tmps.getD 6 undef = .pointer (some ⟨w.heap.size + 1, 0, none⟩) := hS.base 6 (by kernel_rfl)
            have d176 : bx.tmps.getD 176 undef = .bool true := hS.dep 7 176 (by kernel_rfl) (by kernel_rfl)
            have hy := ((H4 u hbel).fix (w.heap.size + 1, [.bool false]) (by simp)).1
            have cy := hy.cell 0 _ rfl
            have gy := hy.free 0
            refine ⟨rfl, ?_⟩
            simp [Act.eval, d6, d176, go_sem, cy, gy]
          case fin =>
            intro u hbel
            have hy := ((H4 u hbel).fix (w.heap.size + 1, [.bool false]) (by simp)).1.set 0 (.bool true)
            have HB : Shut (Below w.heap.size w (u.setCell ⟨w.heap.size + 1, 0, none⟩ (.bool true))) := ⟨(H4 u hbel).below.setCell (p := ⟨w.heap.size + 1, 0, none⟩) (by simp) _⟩
            have HC : Shut _ := ⟨hy.cell 0 _ rfl⟩
            have HKF : Shut _ := ⟨HKS.out u hbel⟩
            clear hy hc1 hc2
            simp [putAll, dstAt, Act.put]
            go_wp2_with fail
            refine ⟨by simp, .inl ⟨_, _, rfl, run_takeDeferred HKF.out, ?_⟩⟩
            exact ⟨_, results_cell rfl _ _ _ _ rfl (load_bool (cell_put HC.out (by have := HL.out; simp; omega))), rfl, below_put HB.out (by have := HL.out; omega) _⟩
    · have hl1 : decide ((i : Int) < len) = false := by simp; omega
      have hl2 : decide (i < len) = false := by simp; omega
      have h2 := HT.out
      have cX := (h2.fix (w.heap.size, [.int .i64 (r : Int)]) (by simp)).1.cell 0 _ rfl
      clear HT hlt
      go_wp2_with fail
      refine (working_any _ _).mono ?_
      rintro e w3 ⟨rfl, rfl⟩
      go_wp2_with fail
      obtain ⟨V0, hV0⟩ : ∃ V0, (wr.alloc (.cells #[.int .i64 0] 3)).alloc (.cells #[.pointer (some ⟨bk.p, 0, none⟩)] 24) = V0 := ⟨_, rfl⟩
      have hsz : V0.heap.size = wr.heap.size + 2 := by rw [← hV0]; simp
      have hB3 : Below wr.heap.size wr V0 := by rw [← hV0]; exact ((Below.refl _ _).alloc (Nat.le_refl _) _).alloc (by simp) _
      have hT : Row V0 wr.heap.size [.int .i64 0] := by rw [← hV0]; exact row_alloc.on' ((Below.refl _ _).alloc (Nat.le_refl _) _)
      have hZ : V0.cell? ⟨wr.heap.size + 1, 0, none⟩ = some (.pointer (some ⟨bk.p, 0, none⟩)) := by rw [← hV0]; simp [go_sem]
      rw [hV0]
      clear hV0
      have h3 := h2.on hB3
      obtain ⟨l1, l2, l3⟩ := h2.lt
      have hwr : w.heap.size ≤ wr.heap.size := h2.below.size
      have hroom := h2.ra.room
      have hroom' := h2.rx.room
      have hS := HS.out
      have hba : bk.a < wr.heap.size := l1 bk.a (List.mem_append_left _ bk.ma)
      obtain ⟨T, hTe⟩ : ∃ T, wr.heap.size = T := ⟨_, rfl⟩
      rw [hTe] at hsz hT hZ l1 l2 l3 hwr hba
      simp only [hTe]
      clear hB3 hTe cX
      refine wp_working (d := 21) (b := bk) (s := s) (B := T + 1) rfl (by omega) hZ h3.a.reads (fun k => k ≠ T) (fun k hk => by omega) (by omega)
        (fun k W => Two w r [(P, [.pointer (some ⟨bk'.p, 0, none⟩)]), (w.heap.size, [.int .i64 (r : Int)]), (w.heap.size + 1, [.bool false])] W bk v bk' v' s s ∧ Row W T [.int .i64 (lastW s.A k + 1)]) (fun _ _ _ => False)
        (fun k W W' h hb => ⟨h.1.keep (fun y hy => by have := l1 y hy; omega) (fun y hy => by have := l2 y hy; omega) (fun p hp => by have := l3 p hp; omega) (by omega) hb, h.2.on hb (by omega)⟩) (fun _ _ _ _ h _ => h)
        ⟨h3, by simpa [lastW] using hT⟩ ?skip ?assign ?body ?done (fun _ _ _ h _ => h.elim)
      case skip =>
        rintro k W hk hz ⟨h4, h5⟩
        have e1 : lastW s.A (k + 1) = lastW s.A k := if_neg hz
        rw [e1]
        exact ⟨h4, h5⟩
      case assign =>
        intro l' k W K hK
        simp only [roundAct] at hK
        gi_wp2
        simpa using hK
      case body =>
        rintro l' k W hk hz ⟨h4, h5⟩
        have e1 : lastW s.A (k + 1) = (k : Int) := if_pos hz
        have hl := lastW_lt s.A k
        obtain ⟨j0, hj0⟩ := Int.eq_ofNat_of_zero_le (show 0 ≤ lastW s.A k + 1 by omega)
        have hgap : ∀ i, j0 ≤ i → i < k → s.A i ≠ 0 := fun i h1 h2 => lastW_gap s.A k i (by omega) h2
        rw [hj0] at h5
        have HG : Shut (∀ i, j0 ≤ i → i < k → s.A i ≠ 0) := ⟨hgap⟩
        have HK : Shut (k < r ∧ j0 ≤ k ∧ k < s.r) := ⟨by omega, by omega, hk⟩
        have HE : Shut (lastW s.A (k + 1) = (k : Int)) := ⟨e1⟩
        have HZ : Shut (s.A k = 0) := ⟨hz⟩
        have H4 : Shut _ := ⟨h4⟩
        have H5 : Shut _ := ⟨h5⟩
        clear h4 h5 hgap hl hj0 e1 hz hk h2 h3 hT hZ
        simp only [roundAct]
        gi_wp2
        simp only [List.setIfInBounds_toArray, List.set_cons_succ, List.set_cons_zero]
        gi_loopw [149] (fun _ W2 => ∃ j : Nat, j ≤ k ∧ (∀ i, j ≤ i → i < k → s.A i ≠ 0) ∧ Shut (Two w r [(P, [.pointer (some ⟨bk'.p, 0, none⟩)]), (w.heap.size, [.int .i64 (r : Int)]), (w.heap.size + 1, [.bool false])] W2 bk v bk' v' s s) ∧ Shut (Row W2 T [.int .i64 (j : Int)]) ∧ Shut (Keeps (fun k => k ≠ T) W W2)) (fun _ W2 => k - numIn T W2)
        case atStart => exact ⟨j0, HK.out.2.1, HG.out, H4, H5, ⟨Keeps.refl _ _⟩⟩
        case round =>
          obtain ⟨j, hjk, hgap, HT2, HR2, HK2⟩ := hrel
          clear H4 H5
          have hjr : (j : Int) < r := by have := HK.out; omega
          have hjn : j < s.r := by have := HK.out; omega
          have ct := HR2.out.cell 0 _ rfl
          have gt := HR2.out.free 0
          have cX := (HT2.out.fix (w.heap.size, [.int .i64 (r : Int)]) (by simp)).1.cell 0 _ rfl
          have cP := (HT2.out.fix (P, [.pointer (some ⟨bk'.p, 0, none⟩)]) (by simp)).1.cell 0 _ rfl
          have cs : wr.cell? ⟨bk'.p, 0, none⟩ = some (.slice (some ⟨bk'.a, 0, none⟩) r bk'.ca) := by rw [← hroom']; exact HT2.out.x.headR.1
          have ca := HT2.out.x.cellA j hjn
          by_cases hlt : j < k
          · have hpos : (0 : Int) < s.A j := by have := hgap j (Nat.le_refl _) hlt; omega
            have HJ : Shut (j < k ∧ ∀ i, j + 1 ≤ i → i < k → s.A i ≠ 0) := ⟨hlt, fun i h1 h2 => hgap i (by omega) h2⟩
            have HT3 : Shut (Two w r [(P, [.pointer (some ⟨bk'.p, 0, none⟩)]), (w.heap.size, [.int .i64 (r : Int)]), (w.heap.size + 1, [.bool false])] (wr.drew.setCell ⟨T, 0, none⟩ (.int .i64 ((j : Int) + 1))) bk v bk' v' s s) := ⟨HT2.out.drew.other l1 l2 l3 hwr 0 _⟩
            have HR3 : Shut (Row (wr.drew.setCell ⟨T, 0, none⟩ (.int .i64 ((j : Int) + 1))) T [.int .i64 ((j + 1 : Nat) : Int)]) := ⟨(show Row wr.drew T [.int .i64 (j : Int)] from HR2.out).set 0 (.int .i64 ((j : Int) + 1))⟩
            have HK3 : Shut (Keeps (fun k => k ≠ T) W (wr.drew.setCell ⟨T, 0, none⟩ (.int .i64 ((j : Int) + 1)))) := ⟨HK2.out.drew.setCell (p := ⟨T, 0, none⟩) (by simp) _⟩
            have HNI : Shut (numIn T wr = j) := ⟨numIn_row HR2.out⟩
            have hjb : (j : Int) ≤ 1000000 := by omega
            have hpn : 0 < s.A j := by omega
            clear HT2 HR2 HK2 hgap hlt
            gi_wp2
            refine region_read_in (by kernel_rfl) [.int .i64 (j : Int), .int .i64 (r : Int), .bool true, .bool true, (.pointer (some ⟨bk'.p, 0, none⟩)), (.pointer (some ⟨bk'.p, 0, none⟩)), (.pointer (some ⟨bk'.p, 0, none⟩)), (.slice (some ⟨bk'.a, 0, none⟩) r bk'.ca), .int .i64 (j : Int), (.pointer (some ⟨bk'.a, j, none⟩)), .int .i64 (s.A j : Int), .bool true, .bool true] (by kernel_rfl) (by kernel_rfl) ?op ?fin
            case op =>
              intro i o bx ho hS
              match i, ho with
              | 0, ho =>
                obtain rfl := Option.some.inj ho
                have d20 : bx.tmps.getD 20 undef = .pointer (some ⟨T, 0, none⟩) := hS.base 20 (by kernel_rfl)
                refine .inl ⟨rfl, ?_⟩
                simp [Act.eval, d20, go_sem, ct]
              | 1, ho =>
                obtain rfl := Option.some.inj ho
                have d3 : bx.tmps.getD 3 undef = .pointer (some ⟨w.heap.size, 0, none⟩) := hS.base 3 (by kernel_rfl)
                refine .inl ⟨rfl, ?_⟩
                simp [Act.eval, d3, go_sem, cX]
              | 2, ho =>
                obtain rfl := Option.some.inj ho
                have d149 : bx.tmps.getD 149 undef = .int .i64 (j : Int) := hS.dep 0 149 (by kernel_rfl) (by kernel_rfl)
                have d150 : bx.tmps.getD 150 undef = .int .i64 (r : Int) := hS.dep 1 150 (by kernel_rfl) (by kernel_rfl)
                refine .inl ⟨rfl, ?_⟩
                simp [Act.eval, d149, d150, go_sem, hjr]
              | 3, ho =>
                obtain rfl := Option.some.inj ho
                have d151 : bx.tmps.getD 151 undef = .bool true := hS.dep 2 151 (by kernel_rfl) (by kernel_rfl)
                refine .inl ⟨rfl, ?_⟩
                simp [execOp, Act.eval, d151]
              | 4, ho =>
                obtain rfl := Option.some.inj ho
                have gd : bx.tmps.getD 152 undef = .bool true := hS.dep 3 152 (by kernel_rfl) (by kernel_rfl)
                have d10 : bx.tmps.getD 10 undef = .pointer (some ⟨P, 0, none⟩) := hS.base 10 (by kernel_rfl)
                refine .inl ⟨wanted_yes (j := 3) (t := 152) (c := true) (by kernel_rfl) (by kernel_rfl) gd, ?_⟩
                simp [Act.eval, d10, go_sem, cP]
              | 5, ho =>
                obtain rfl := Option.some.inj ho
                have gd : bx.tmps.getD 152 undef = .bool true := hS.dep 3 152 (by kernel_rfl) (by kernel_rfl)
                have d153 : bx.tmps.getD 153 undef = (.pointer (some ⟨bk'.p, 0, none⟩)) := hS.dep 4 153 (by kernel_rfl) (by kernel_rfl)
                refine .inl ⟨wanted_yes (j := 3) (t := 152) (c := true) (by kernel_rfl) (by kernel_rfl) gd, ?_⟩
                simp [execOp, Act.eval, d153]
              | 6, ho =>
                obtain rfl := Option.some.inj ho
                have gd : bx.tmps.getD 152 undef = .bool true := hS.dep 3 152 (by kernel_rfl) (by kernel_rfl)
                have d154 : bx.tmps.getD 154 undef = (.pointer (some ⟨bk'.p, 0, none⟩)) := hS.dep 5 154 (by kernel_rfl) (by kernel_rfl)
                refine .inl ⟨wanted_yes (j := 3) (t := 152) (c := true) (by kernel_rfl) (by kernel_rfl) gd, ?_⟩
                simp [Act.eval, d154, go_sem]
              | 7, ho =>
                obtain rfl := Option.some.inj ho
                have gd : bx.tmps.getD 152 undef = .bool true := hS.dep 3 152 (by kernel_rfl) (by kernel_rfl)
                have d155 : bx.tmps.getD 155 undef = (.pointer (some ⟨bk'.p, 0, none⟩)) := hS.dep 6 155 (by kernel_rfl) (by kernel_rfl)
                refine .inl ⟨wanted_yes (j := 3) (t := 152) (c := true) (by kernel_rfl) (by kernel_rfl) gd, ?_⟩
                simp [Act.eval, d155, go_sem, cs]
              | 8, ho =>
                obtain rfl := Option.some.inj ho
                have gd : bx.tmps.getD 152 undef = .bool true := hS.dep 3 152 (by kernel_rfl) (by kernel_rfl)
                have d20 : bx.tmps.getD 20 undef = .pointer (some ⟨T, 0, none⟩) := hS.base 20 (by kernel_rfl)
                refine .inl ⟨wanted_yes (j := 3) (t := 152) (c := true) (by kernel_rfl) (by kernel_rfl) gd, ?_⟩
                simp [Act.eval, d20, go_sem, ct]
              | 9, ho =>
                obtain rfl := Option.some.inj ho
                have gd : bx.tmps.getD 152 undef = .bool true := hS.dep 3 152 (by kernel_rfl) (by kernel_rfl)
                have d156 : bx.tmps.getD 156 undef = (.slice (some ⟨bk'.a, 0, none⟩) r bk'.ca) := hS.dep 7 156 (by kernel_rfl) (by kernel_rfl)
                have d157 : bx.tmps.getD 157 undef = .int .i64 (j : Int) := hS.dep 8 157 (by kernel_rfl) (by kernel_rfl)
                refine .inl ⟨wanted_yes (j := 3) (t := 152) (c := true) (by kernel_rfl) (by kernel_rfl) gd, ?_⟩
                simp [Act.eval, d156, d157, go_sem, hjr]
              | 10, ho =>
                obtain rfl := Option.some.inj ho
                have gd : bx.tmps.getD 152 undef = .bool true := hS.dep 3 152 (by kernel_rfl) (by kernel_rfl)
                have d158 : bx.tmps.getD 158 undef = (.pointer (some ⟨bk'.a, j, none⟩)) := hS.dep 9 158 (by kernel_rfl) (by kernel_rfl)
                refine .inl ⟨wanted_yes (j := 3) (t := 152) (c := true) (by kernel_rfl) (by kernel_rfl) gd, ?_⟩
                simp [Act.eval, d158, go_sem, ca]
              | 11, ho =>
                obtain rfl := Option.some.inj ho
                have gd : bx.tmps.getD 152 undef = .bool true := hS.dep 3 152 (by kernel_rfl) (by kernel_rfl)
                have d159 : bx.tmps.getD 159 undef = .int .i64 (s.A j : Int) := hS.dep 10 159 (by kernel_rfl) (by kernel_rfl)
                refine .inl ⟨wanted_yes (j := 3) (t := 152) (c := true) (by kernel_rfl) (by kernel_rfl) gd, ?_⟩
                simp [Act.eval, d159, go_sem, hpn]
              | 12, ho =>
                obtain rfl := Option.some.inj ho
                have d152 : bx.tmps.getD 152 undef = .bool true := hS.dep 3 152 (by kernel_rfl) (by kernel_rfl)
                have d160 : bx.tmps.getD 160 undef = .bool true := hS.dep 11 160 (by kernel_rfl) (by kernel_rfl)
                refine .inl ⟨rfl, ?_⟩
                simp [Act.eval, d152, d160, go_sem]
              | n + 13, ho => exact absurd ho (by simp)
            case fin =>
              simp [putAll, dstAt, Act.put]
              gi_wp2
              go_roundw
              case rel => exact ⟨j + 1, HJ.out.1, HJ.out.2, HT3, HR3, HK3⟩
              case measure =>
                have hm1 := numIn_row HR3.out
                have hm2 := HNI.out
                have hm3 := HJ.out.1
                show k - numIn T (wr.drew.setCell ⟨T, 0, none⟩ (.int .i64 ((j : Int) + 1))) < k - numIn T wr
                rw [hm1, hm2]
                omega
          · obtain rfl : j = k := by omega
            have HT3 : Shut (Two w r [(P, [.pointer (some ⟨bk'.p, 0, none⟩)]), (w.heap.size, [.int .i64 (r : Int)]), (w.heap.size + 1, [.bool false])] (wr.drew.setCell ⟨T, 0, none⟩ (.int .i64 ((j : Int) + 1))) bk v bk' v' s s) := ⟨HT2.out.drew.other l1 l2 l3 hwr 0 _⟩
            have HR3 : Shut (Row (wr.drew.setCell ⟨T, 0, none⟩ (.int .i64 ((j : Int) + 1))) T [.int .i64 ((j : Int) + 1)]) := ⟨(show Row wr.drew T [.int .i64 (j : Int)] from HR2.out).set 0 (.int .i64 ((j : Int) + 1))⟩
            have HK3 : Shut (Keeps (fun k => k ≠ T) W (wr.drew.setCell ⟨T, 0, none⟩ (.int .i64 ((j : Int) + 1)))) := ⟨HK2.out.drew.setCell (p := ⟨T, 0, none⟩) (by simp) _⟩
            have hjb : (j : Int) ≤ 1000000 := by omega
            rw [HZ.out] at ca
            clear HT2 HR2 HK2 hgap hlt hjk
            gi_wp2
            refine region_read_in (by kernel_rfl) [.int .i64 (j : Int), .int .i64 (r : Int), .bool true, .bool true, (.pointer (some ⟨bk'.p, 0, none⟩)), (.pointer (some ⟨bk'.p, 0, none⟩)), (.pointer (some ⟨bk'.p, 0, none⟩)), (.slice (some ⟨bk'.a, 0, none⟩) r bk'.ca), .int .i64 (j : Int), (.pointer (some ⟨bk'.a, j, none⟩)), .int .i64 0, .bool false, .bool false] (by kernel_rfl) (by kernel_rfl) ?op ?fin
            case op =>
              intro i o bx ho hS
              match i, ho with
              | 0, ho =>
                obtain rfl := Option.some.inj ho
                have d20 : bx.tmps.getD 20 undef = .pointer (some ⟨T, 0, none⟩) := hS.base 20 (by kernel_rfl)
                refine .inl ⟨rfl, ?_⟩
                simp [Act.eval, d20, go_sem, ct]
              | 1, ho =>
                obtain rfl := Option.some.inj ho
                have d3 : bx.tmps.getD 3 undef = .pointer (some ⟨w.heap.size, 0, none⟩) := hS.base 3 (by kernel_rfl)
                refine .inl ⟨rfl, ?_⟩
                simp [Act.eval, d3, go_sem, cX]
              | 2, ho =>
                obtain rfl := Option.some.inj ho
                have d149 : bx.tmps.getD 149 undef = .int .i64 (j : Int) := hS.dep 0 149 (by kernel_rfl) (by kernel_rfl)
                have d150 : bx.tmps.getD 150 undef = .int .i64 (r : Int) := hS.dep 1 150 (by kernel_rfl) (by kernel_rfl)
                refine .inl ⟨rfl, ?_⟩
                simp [Act.eval, d149, d150, go_sem, hjr]
              | 3, ho =>
                obtain rfl := Option.some.inj ho
                have d151 : bx.tmps.getD 151 undef = .bool true := hS.dep 2 151 (by kernel_rfl) (by kernel_rfl)
                refine .inl ⟨rfl, ?_⟩
                simp [execOp, Act.eval, d151]
              | 4, ho =>
                obtain rfl := Option.some.inj ho
                have gd : bx.tmps.getD 152 undef = .bool true := hS.dep 3 152 (by kernel_rfl) (by kernel_rfl)
                have d10 : bx.tmps.getD 10 undef = .pointer (some ⟨P, 0, none⟩) := hS.base 10 (by kernel_rfl)
                refine .inl ⟨wanted_yes (j := 3) (t := 152) (c := true) (by kernel_rfl) (by kernel_rfl) gd, ?_⟩
                simp [Act.eval, d10, go_sem, cP]
              | 5, ho =>
                obtain rfl := Option.some.inj ho
                have gd : bx.tmps.getD 152 undef = .bool true := hS.dep 3 152 (by kernel_rfl) (by kernel_rfl)
                have d153 : bx.tmps.getD 153 undef = (.pointer (some ⟨bk'.p, 0, none⟩)) := hS.dep 4 153 (by kernel_rfl) (by kernel_rfl)
                refine .inl ⟨wanted_yes (j := 3) (t := 152) (c := true) (by kernel_rfl) (by kernel_rfl) gd, ?_⟩
                simp [execOp, Act.eval, d153]
              | 6, ho =>
                obtain rfl := Option.some.inj ho
                have gd : bx.tmps.getD 152 undef = .bool true := hS.dep 3 152 (by kernel_rfl) (by kernel_rfl)
                have d154 : bx.tmps.getD 154 undef = (.pointer (some ⟨bk'.p, 0, none⟩)) := hS.dep 5 154 (by kernel_rfl) (by kernel_rfl)
                refine .inl ⟨wanted_yes (j := 3) (t := 152) (c := true) (by kernel_rfl) (by kernel_rfl) gd, ?_⟩
                simp [Act.eval, d154, go_sem]
              | 7, ho =>
                obtain rfl := Option.some.inj ho
                have gd : bx.tmps.getD 152 undef = .bool true := hS.dep 3 152 (by kernel_rfl) (by kernel_rfl)
                have d155 : bx.tmps.getD 155 undef = (.pointer (some ⟨bk'.p, 0, none⟩)) := hS.dep 6 155 (by kernel_rfl) (by kernel_rfl)
                refine .inl ⟨wanted_yes (j := 3) (t := 152) (c := true) (by kernel_rfl) (by kernel_rfl) gd, ?_⟩
                simp [Act.eval, d155, go_sem, cs]
              | 8, ho =>
                obtain rfl := Option.some.inj ho
                have gd : bx.tmps.getD 152 undef = .bool true := hS.dep 3 152 (by kernel_rfl) (by kernel_rfl)
                have d20 : bx.tmps.getD 20 undef = .pointer (some ⟨T, 0, none⟩) := hS.base 20 (by kernel_rfl)
                refine .inl ⟨wanted_yes (j := 3) (t := 152) (c := true) (by kernel_rfl) (by kernel_rfl) gd, ?_⟩
                simp [Act.eval, d20, go_sem, ct]
              | 9, ho =>
                obtain rfl := Option.some.inj ho
                have gd : bx.tmps.getD 152 undef = .bool true := hS.dep 3 152 (by kernel_rfl) (by kernel_rfl)
                have d156 : bx.tmps.getD 156 undef = (.slice (some ⟨bk'.a, 0, none⟩) r bk'.ca) := hS.dep 7 156 (by kernel_rfl) (by kernel_rfl)
                have d157 : bx.tmps.getD 157 undef = .int .i64 (j : Int) := hS.dep 8 157 (by kernel_rfl) (by kernel_rfl)
                refine .inl ⟨wanted_yes (j := 3) (t := 152) (c := true) (by kernel_rfl) (by kernel_rfl) gd, ?_⟩
                simp [Act.eval, d156, d157, go_sem, hjr]
              | 10, ho =>
                obtain rfl := Option.some.inj ho
                have gd : bx.tmps.getD 152 undef = .bool true := hS.dep 3 152 (by kernel_rfl) (by kernel_rfl)
                have d158 : bx.tmps.getD 158 undef = (.pointer (some ⟨bk'.a, j, none⟩)) := hS.dep 9 158 (by kernel_rfl) (by kernel_rfl)
                refine .inl ⟨wanted_yes (j := 3) (t := 152) (c := true) (by kernel_rfl) (by kernel_rfl) gd, ?_⟩
                simp [Act.eval, d158, go_sem, ca]
              | 11, ho =>
                obtain rfl := Option.some.inj ho
                have gd : bx.tmps.getD 152 undef = .bool true := hS.dep 3 152 (by kernel_rfl) (by kernel_rfl)
                have d159 : bx.tmps.getD 159 undef = .int .i64 0 := hS.dep 10 159 (by kernel_rfl) (by kernel_rfl)
                refine .inl ⟨wanted_yes (j := 3) (t := 152) (c := true) (by kernel_rfl) (by kernel_rfl) gd, ?_⟩
                simp [Act.eval, d159, go_sem]
              | 12, ho =>
                obtain rfl := Option.some.inj ho
                have d152 : bx.tmps.getD 152 undef = .bool true := hS.dep 3 152 (by kernel_rfl) (by kernel_rfl)
                have d160 : bx.tmps.getD 160 undef = .bool false := hS.dep 11 160 (by kernel_rfl) (by kernel_rfl)
                refine .inl ⟨rfl, ?_⟩
                simp [Act.eval, d152, d160, go_sem]
              | n + 13, ho => exact absurd ho (by simp)
            case fin =>
              simp [putAll, dstAt, Act.put]
              gi_wp2
              refine ⟨HK3.out, HT3.out, ?_⟩
              rw [HE.out]
              exact HR3.out
      case done =>
        rintro W ⟨h4, _⟩ hK
        obtain ⟨key, hkey⟩ := nn_of 7 (by decide) (by decide)
        obtain ⟨E, hE⟩ : ∃ E : Int, ((bucket s (gmix key) : Nat) : Int) = E := ⟨_, rfl⟩
        have H4 : ∀ u, Below W.heap.size W.drew u → Two w r [(P, [.pointer (some ⟨bk'.p, 0, none⟩)]), (w.heap.size, [.int .i64 (r : Int)]), (w.heap.size + 1, [.bool false])] u bk v bk' v' s s := fun u hu => h4.on ⟨hu.os, hu.tape, hu.output, hu.size, hu.block⟩
        have hc1 : ∀ u, Below W.heap.size W.drew u → Calls Try.prog 14 #[.pointer (some ⟨bk.p, 0, none⟩), .int .u64 7] u fun e u' => e = .returned (.int .i64 E) ∧ Below u.heap.size u u' := fun u hu => by
          have hc := bucket_any (H4 u hu).a (H4 u hu).ra.wf (by omega) key
          rw [hE, hkey] at hc
          exact hc.mono fun e u' h => ⟨h.1, by rw [h.2]; exact Below.refl _ _⟩
        have hc2 : ∀ u, Below W.heap.size W.drew u → Calls Try.prog 15 #[.pointer (some ⟨bk'.p, 0, none⟩), .int .u64 7] u fun e u' => e = .returned (.int .i64 E) ∧ Below u.heap.size u u' := fun u hu => by
          have hc := rbucket_any (H4 u hu).x (H4 u hu).rx.wf (by omega) key
          rw [hE, hkey] at hc
          exact hc
        have hD : V0.heap.size < W.heap.size := (Array.getElem?_eq_some_iff.1 hK).1
        have HKU : ∀ u, Below W.heap.size W.drew u → (u.setCell ⟨w.heap.size + 1, 0, none⟩ (.bool true)).heap[T + 2]? = some (.deferred (some [])) := fun u hu => by
          rw [← hsz]
          exact (Below.heap_setCell _ _ _ _ (by show V0.heap.size ≠ w.heap.size + 1; have := l3 (w.heap.size + 1, [.bool false]) (by simp); simp only at this; omega)).trans ((hu.block _ hD).trans hK)
        have HKS : Shut (∀ u, Below W.heap.size W.drew u → (u.setCell ⟨w.heap.size + 1, 0, none⟩ (.bool true)).heap[T + 2]? = some (.deferred (some []))) := ⟨HKU⟩
        have HL : Shut (w.heap.size + 1 < T) := ⟨by have := l3 (w.heap.size + 1, [.bool false]) (by simp); simpa using this⟩
        clear HKU hE hkey h2 h3 hT hZ hS hD hK
        go_wp2_with fail
        refine wp_region_grow_store (by kernel_rfl) [.bool true, .bool true, .pointer (some ⟨bk.p, 0, none⟩), .int .i64 E, (.pointer (some ⟨bk'.p, 0, none⟩)), .int .i64 E, .bool true, .bool true, undef] 8 (fun u => u.setCell ⟨w.heap.size + 1, 0, none⟩ (.bool true)) (by kernel_rfl) (by decide) rfl ?op ?store ?fin
        case op =>
          intro i o bx u ho hne hbel hS
          match i, ho with
          | 0, ho =>
            obtain rfl := Option.some.inj ho
            have d7 : bx.tmps.getD 7 undef = .bool true := hS.base 7 (by kernel_rfl)
            refine .inl ⟨rfl, ends_value (c := .bool true) ?_⟩
            simp [execOp, Act.eval, d7]
          | 1, ho =>
            obtain rfl := Option.some.inj ho
            have d169 : bx.tmps.getD 169 undef = .bool true := hS.dep 0 169 (by kernel_rfl) (by kernel_rfl)
            refine .inl ⟨rfl, ends_value (c := .bool true) ?_⟩
            simp [execOp, Act.eval, d169]
          | 2, ho =>
            obtain rfl := Option.some.inj ho
            have gd : bx.tmps.getD 170 undef = .bool true := hS.dep 1 170 (by kernel_rfl) (by kernel_rfl)
            have d8 : bx.tmps.getD 8 undef = .pointer (some ⟨bk.p, 0, none⟩) := hS.base 8 (by kernel_rfl)
            refine .inl ⟨wanted_yes (j := 1) (t := 170) (c := true) (by kernel_rfl) (by kernel_rfl) gd, ends_value (c := .pointer (some ⟨bk.p, 0, none⟩)) ?_⟩
            simp [execOp, Act.eval, d8]
          | 3, ho =>
            obtain rfl := Option.some.inj ho
            have gd : bx.tmps.getD 170 undef = .bool true := hS.dep 1 170 (by kernel_rfl) (by kernel_rfl)
            have d171 : bx.tmps.getD 171 undef = .pointer (some ⟨bk.p, 0, none⟩) := hS.dep 2 171 (by kernel_rfl) (by kernel_rfl)
            refine .inl ⟨wanted_yes (j := 1) (t := 170) (c := true) (by kernel_rfl) (by kernel_rfl) gd, ends_call (f := 14) (args := #[.pointer (some ⟨bk.p, 0, none⟩), .int .u64 7]) (by kernel_rfl) ?_ (hc1 u (hbel (by kernel_rfl)))⟩
            simp [Act.eval, d171, go_sem]
          | 4, ho =>
            obtain rfl := Option.some.inj ho
            have gd : bx.tmps.getD 170 undef = .bool true := hS.dep 1 170 (by kernel_rfl) (by kernel_rfl)
            have d10 : bx.tmps.getD 10 undef = .pointer (some ⟨P, 0, none⟩) := hS.base 10 (by kernel_rfl)
            have hl := ((H4 u (hbel (by kernel_rfl))).fix (P, [.pointer (some ⟨bk'.p, 0, none⟩)]) (by simp)).1.cell 0 _ rfl
            refine .inl ⟨wanted_yes (j := 1) (t := 170) (c := true) (by kernel_rfl) (by kernel_rfl) gd, ends_value (c := (.pointer (some ⟨bk'.p, 0, none⟩))) ?_⟩
            simp [Act.eval, d10, go_sem, hl]
          | 5, ho =>
            obtain rfl := Option.some.inj ho
            have gd : bx.tmps.getD 170 undef = .bool true := hS.dep 1 170 (by kernel_rfl) (by kernel_rfl)
            have d173 : bx.tmps.getD 173 undef = (.pointer (some ⟨bk'.p, 0, none⟩)) := hS.dep 4 173 (by kernel_rfl) (by kernel_rfl)
            refine .inl ⟨wanted_yes (j := 1) (t := 170) (c := true) (by kernel_rfl) (by kernel_rfl) gd, ends_call (f := 15) (args := #[.pointer (some ⟨bk'.p, 0, none⟩), .int .u64 7]) (by kernel_rfl) ?_ (hc2 u (hbel (by kernel_rfl)))⟩
            simp [Act.eval, d173, go_sem]
          | 6, ho =>
            obtain rfl := Option.some.inj ho
            have gd : bx.tmps.getD 170 undef = .bool true := hS.dep 1 170 (by kernel_rfl) (by kernel_rfl)
            have d172 : bx.tmps.getD 172 undef = .int .i64 E := hS.dep 3 172 (by kernel_rfl) (by kernel_rfl)
            have d174 : bx.tmps.getD 174 undef = .int .i64 E := hS.dep 5 174 (by kernel_rfl) (by kernel_rfl)
            refine .inl ⟨wanted_yes (j := 1) (t := 170) (c := true) (by kernel_rfl) (by kernel_rfl) gd, ends_value (c := .bool true) ?_⟩
            simp [Act.eval, d172, d174, go_sem]
          | 7, ho =>
            obtain rfl := Option.some.inj ho
            have d170 : bx.tmps.getD 170 undef = .bool true := hS.dep 1 170 (by kernel_rfl) (by kernel_rfl)
            have d175 : bx.tmps.getD 175 undef = .bool true := hS.dep 6 175 (by kernel_rfl) (by kernel_rfl)
            refine .inl ⟨rfl, ends_value (c := .bool true) ?_⟩
            simp [Act.eval, d170, d175, go_sem]
          | 8, ho => exact absurd rfl hne
          | n + 9, ho => exact absurd ho (by simp)
        case store =>
          intro o bx u ho hbel hS
          obtain rfl := Option.some.inj ho
          have d6 : bx.tmps.getD 6 undef = .pointer (some ⟨w.heap.size + 1, 0, none⟩) := hS.base 6 (by kernel_rfl)
          have d176 : bx.tmps.getD 176 undef = .bool true := hS.dep 7 176 (by kernel_rfl) (by kernel_rfl)
          have hy := ((H4 u hbel).fix (w.heap.size + 1, [.bool false]) (by simp)).1
          have cy := hy.cell 0 _ rfl
          have gy := hy.free 0
          refine ⟨rfl, ?_⟩
          simp [Act.eval, d6, d176, go_sem, cy, gy]
        case fin =>
          intro u hbel
          have hy := ((H4 u hbel).fix (w.heap.size + 1, [.bool false]) (by simp)).1.set 0 (.bool true)
          have HB : Shut (Below w.heap.size w (u.setCell ⟨w.heap.size + 1, 0, none⟩ (.bool true))) := ⟨(H4 u hbel).below.setCell (p := ⟨w.heap.size + 1, 0, none⟩) (by simp) _⟩
          have HC : Shut _ := ⟨hy.cell 0 _ rfl⟩
          have HKF : Shut _ := ⟨HKS.out u hbel⟩
          clear hy hc1 hc2
          simp [putAll, dstAt, Act.put]
          go_wp2_with fail
          refine ⟨by simp, .inl ⟨_, _, rfl, run_takeDeferred HKF.out, ?_⟩⟩
          exact ⟨_, results_cell rfl _ _ _ _ rfl (load_bool (cell_put HC.out (by have := HL.out; simp; omega))), rfl, below_put HB.out (by have := HL.out; omega) _⟩
end Go.Proofs.Ytmmaglhilghofaa
