/- The law on deeds, where the number of numbers goes round. -/
import Derived.Test.YtbncjinkojeioaaCuDuo
import Derived.Test.YtbncjinkojeioaaCuReg
namespace Go.Proofs.Ytbncjinkojeioaa
open Go.ChangeShapes Go.WideShapes Go.ChangeAt Go.RowKit Sp Cu

set_option maxRecDepth 100000 in
set_option maxHeartbeats 40000000 in
theorem plays_good1 (a0 : Int) (n : Nat) (a : Option Addr) (len cap : Nat) (h1 : 300 < a0) (h2 : a0 ≤ 65536) (hn : a0.tmod 301 = (n : Int)) (hn1 : 1 ≤ n) (hn2 : n ≤ 300) (w : World) (hds : IsDeeds w a len cap) :
    Calls Try.prog 3 #[.int .i64 a0, .slice a len cap] w fun e w' => e = .returned (.bool true) ∧ Below w.heap.size w w' := by
  have hnz : ¬ (n : Int) = 0 := by omega
  have hn0 : ¬ n = 0 := by omega
  have HN : Shut (1 ≤ n ∧ n ≤ 300) := ⟨hn1, hn2⟩
  clear hn1 hn2
  go_enter Try.func3, Try.ntmps3
  go_wp2_with fail
  refine (examples_any _).mono ?_
  rintro e w1 ⟨rfl, hb1⟩
  have HB := hide hb1
  clear hb1
  go_wp2_with fail
  refine (new_cur n HN.out.1 (by have := HN.out.2; omega) w _ (unhide HB)).mono ?_
  rintro e w2 ⟨p, rfl, h2⟩
  have H2 : Shut (Cur w w2 p (newCu n)) := ⟨h2⟩
  clear h2 HB
  go_wp2_with fail
  refine (rnew_ok n HN.out.1 (by have := HN.out.2; omega) w2).mono ?_
  rintro e w3 ⟨q, rfl, ⟨g, hr⟩, hb⟩
  have HT0 : Shut (Duo w w3 p q g (newCu n) (newCu n) []) := ⟨duo_new H2.out hr hb (wf_new HN.out.1 (by have := HN.out.2; omega))⟩
  clear hr hb H2
  go_wp2_with fail
  go_loopw [9] (fun y W => ∃ (i : Nat) (s : Cu), y = .int .i64 (i : Int) ∧ i ≤ 100 ∧ Shut (Duo w W p q g s s [])) (fun y _ => 100 - (intOf y).toNat)
  case atStart => exact ⟨0, newCu n, rfl, by omega, HT0⟩
  case round =>
    obtain ⟨i, s, rfl, hi, HT⟩ := hrel
    clear HT0
    by_cases hlt : i < len
    · have hlt1 : (i : Int) < len := by omega
      by_cases h60 : i < 100
      · have h601 : (i : Int) < 100 := by omega
        obtain ⟨x, d, rfl, hd⟩ := (hds.on HT.out.below).get i hlt
        have h2 := HT.out.box [.int .i64 d.kind, .int .i64 d.i] 31
        have c0 : wr.cell? (x.add (i * 2)) = some (.int .i64 d.kind) := hd.c0
        have c1 : wr.cell? ⟨(x.add (i * 2)).block, (x.add (i * 2)).off + 1, none⟩ = some (.int .i64 d.i) := hd.c1
        obtain ⟨kk, hkk⟩ : ∃ kk : Int, 0 ≤ kk ∧ kk ≤ 9223372036854775807 ∧ ((decide (d.kind < 0) = true ∧ -(d.kind + 1) = kk) ∨ (decide (d.kind < 0) = false ∧ d.kind = kk)) := by
          have := hd.wf.1
          by_cases h : d.kind < 0
          · exact ⟨_, by omega, by omega, .inl ⟨by simpa using h, rfl⟩⟩
          · exact ⟨_, by omega, by omega, .inr ⟨by simpa using h, rfl⟩⟩
        obtain ⟨κ, hκ⟩ : ∃ κ, d.i.tmod (n : Int) = κ := ⟨_, rfl⟩
        have hwk := hd.wf.1
        have hmod : kk % 6 = 3 ∧ kk.tmod 6 = 3 ∨ kk % 6 = 4 ∧ kk.tmod 6 = 4 ∨ kk % 6 = 5 ∧ kk.tmod 6 = 5 ∨ (¬ kk % 6 = 3 ∧ ¬ kk % 6 = 4 ∧ ¬ kk % 6 = 5) ∧ (¬ kk.tmod 6 = 3 ∧ ¬ kk.tmod 6 = 4 ∧ ¬ kk.tmod 6 = 5) := by
          have := Int.tmod_eq_emod_of_nonneg (b := 6) hkk.1
          omega
        clear HT hd
        rcases hkk with ⟨k0, k1, ⟨s1, s2⟩ | ⟨s1, rfl⟩⟩
        · rcases hmod with ⟨m1, m2⟩ | ⟨m1, m2⟩ | ⟨m1, m2⟩ | ⟨⟨m1, m2, m3⟩, m4, m5, m6⟩
          · go_wp2_with fail
            generalize wr.alloc (.cells #[.int .i64 d.kind, .int .i64 d.i] 31) = Wt at *
            generalize wr.heap.size = T at *
            clear c0 c1 s1 s2 k0 k1 hwk
            obtain ⟨E, hE⟩ : ∃ E, s.has (κ) = E := ⟨_, rfl⟩
            obtain ⟨J, hJd⟩ : ∃ J : Bool → Bool → World → Prop, J = fun a b u => Duo w u p q g (if a then s.free (κ) else s) (if b then s.free (κ) else s) [(T, [.int .i64 d.kind, .int .i64 d.i])] := ⟨_, rfl⟩
            have hJ0 : ∀ W, Duo w W p q g s s [(T, [.int .i64 d.kind, .int .i64 d.i])] → J false false W.drew := fun W h => by rw [hJd]; exact h.drew
            have hcall1 : ∀ u b, J false b u → Calls Try.prog 10 #[.pointer (some ⟨p, 0, none⟩), .int .i64 κ] u fun e u' => e = .returned (.bool E) ∧ J true b u' := by
              intro u b hJ
              rw [hJd] at hJ ⊢
              have hc := hJ.free (κ)
              simp only [Bool.false_eq_true, if_false] at hc
              rw [hE] at hc
              refine hc.mono ?_
              rintro e u' ⟨rfl, h1⟩
              exact ⟨rfl, by simpa using h1⟩
            have hcall2 : ∀ u b, J b false u → Calls Try.prog 11 #[.pointer (some ⟨q, 0, none⟩), .int .i64 κ] u fun e u' => e = .returned (.bool E) ∧ J b true u' := by
              intro u b hJ
              rw [hJd] at hJ ⊢
              have hc := hJ.rfree (κ)
              simp only [Bool.false_eq_true, if_false] at hc
              rw [hE] at hc
              refine hc.mono ?_
              rintro e u' ⟨rfl, h1⟩
              exact ⟨rfl, by simpa using h1⟩
            clear hE
            have hJ0 := hJ0 _ h2
            clear h2
            refine wp_region_two (by kernel_rfl) [.pointer (some ⟨p, 0, none⟩), .pointer (some ⟨T, 1, none⟩), .int .i64 d.i, .int .i64 (n : Int), .int .i64 κ, .bool E, .pointer (some ⟨q, 0, none⟩), .pointer (some ⟨T, 1, none⟩), .int .i64 d.i, .int .i64 (n : Int), .int .i64 κ, .bool E, .bool true, .bool true] 5 11 J (by kernel_rfl) (by decide) (by decide) (by decide) hJ0 ?op ?op1 ?op2 ?fin
            case op =>
              intro iop o bx u a b ho hne1 hne2 hJ hS
              rw [hJd] at hJ
              have hz := hJ
              match iop, ho with
              | 0, ho =>
                obtain rfl := Option.some.inj ho
                have d6 : bx.tmps.getD 6 undef = .pointer (some ⟨p, 0, none⟩) := hS.base 6 (by kernel_rfl)
                refine ⟨rfl, rests_value (c := .pointer (some ⟨p, 0, none⟩)) ?_⟩
                simp [execOp, Act.eval, go_sem, d6]
              | 1, ho =>
                obtain rfl := Option.some.inj ho
                have d10 : bx.tmps.getD 10 undef = .pointer (some ⟨T, 0, none⟩) := hS.base 10 (by kernel_rfl)
                refine ⟨rfl, rests_value (c := .pointer (some ⟨T, 1, none⟩)) ?_⟩
                simp [Act.eval, go_sem, d10]
              | 2, ho =>
                obtain rfl := Option.some.inj ho
                have d96 : bx.tmps.getD 96 undef = .pointer (some ⟨T, 1, none⟩) := hS.dep 1 96 (by kernel_rfl) (by kernel_rfl)
                have hl := (hz.rows _ (List.mem_cons_self)).1.cell 1 _ rfl
                refine ⟨rfl, rests_value (c := .int .i64 d.i) ?_⟩
                simp [Act.eval, go_sem, d96, hl]
              | 3, ho =>
                obtain rfl := Option.some.inj ho
                have d0 : bx.tmps.getD 0 undef = .int .i64 (n : Int) := hS.base 0 (by kernel_rfl)
                refine ⟨rfl, rests_value (c := .int .i64 (n : Int)) ?_⟩
                simp [execOp, Act.eval, go_sem, d0]
              | 4, ho =>
                obtain rfl := Option.some.inj ho
                have d97 : bx.tmps.getD 97 undef = .int .i64 d.i := hS.dep 2 97 (by kernel_rfl) (by kernel_rfl)
                have d98 : bx.tmps.getD 98 undef = .int .i64 (n : Int) := hS.dep 3 98 (by kernel_rfl) (by kernel_rfl)
                refine ⟨rfl, rests_value (c := .int .i64 κ) ?_⟩
                simp [Act.eval, go_sem, d97, d98, hn0, hκ]
              | 5, ho =>
                obtain rfl := Option.some.inj ho
                exact absurd rfl hne1
              | 6, ho =>
                obtain rfl := Option.some.inj ho
                have d8 : bx.tmps.getD 8 undef = .pointer (some ⟨q, 0, none⟩) := hS.base 8 (by kernel_rfl)
                refine ⟨rfl, rests_value (c := .pointer (some ⟨q, 0, none⟩)) ?_⟩
                simp [execOp, Act.eval, go_sem, d8]
              | 7, ho =>
                obtain rfl := Option.some.inj ho
                have d10 : bx.tmps.getD 10 undef = .pointer (some ⟨T, 0, none⟩) := hS.base 10 (by kernel_rfl)
                refine ⟨rfl, rests_value (c := .pointer (some ⟨T, 1, none⟩)) ?_⟩
                simp [Act.eval, go_sem, d10]
              | 8, ho =>
                obtain rfl := Option.some.inj ho
                have d102 : bx.tmps.getD 102 undef = .pointer (some ⟨T, 1, none⟩) := hS.dep 7 102 (by kernel_rfl) (by kernel_rfl)
                have hl := (hz.rows _ (List.mem_cons_self)).1.cell 1 _ rfl
                refine ⟨rfl, rests_value (c := .int .i64 d.i) ?_⟩
                simp [Act.eval, go_sem, d102, hl]
              | 9, ho =>
                obtain rfl := Option.some.inj ho
                have d0 : bx.tmps.getD 0 undef = .int .i64 (n : Int) := hS.base 0 (by kernel_rfl)
                refine ⟨rfl, rests_value (c := .int .i64 (n : Int)) ?_⟩
                simp [execOp, Act.eval, go_sem, d0]
              | 10, ho =>
                obtain rfl := Option.some.inj ho
                have d103 : bx.tmps.getD 103 undef = .int .i64 d.i := hS.dep 8 103 (by kernel_rfl) (by kernel_rfl)
                have d104 : bx.tmps.getD 104 undef = .int .i64 (n : Int) := hS.dep 9 104 (by kernel_rfl) (by kernel_rfl)
                refine ⟨rfl, rests_value (c := .int .i64 κ) ?_⟩
                simp [Act.eval, go_sem, d103, d104, hn0, hκ]
              | 11, ho =>
                obtain rfl := Option.some.inj ho
                exact absurd rfl hne2
              | 12, ho =>
                obtain rfl := Option.some.inj ho
                have d100 : bx.tmps.getD 100 undef = .bool E := hS.dep 5 100 (by kernel_rfl) (by kernel_rfl)
                have d106 : bx.tmps.getD 106 undef = .bool E := hS.dep 11 106 (by kernel_rfl) (by kernel_rfl)
                refine ⟨rfl, rests_value (c := .bool true) ?_⟩
                simp [Act.eval, go_sem, d100, d106]
              | 13, ho =>
                obtain rfl := Option.some.inj ho
                have d107 : bx.tmps.getD 107 undef = .bool true := hS.dep 12 107 (by kernel_rfl) (by kernel_rfl)
                refine ⟨rfl, rests_value (c := .bool true) ?_⟩
                simp [execOp, Act.eval, go_sem, d107]
              | iop + 14, ho => exact absurd ho (by simp)
            case op1 =>
              intro o bx u b ho hJ hS
              obtain rfl := Option.some.inj ho
              have d95 : bx.tmps.getD 95 undef = .pointer (some ⟨p, 0, none⟩) := hS.dep 0 95 (by kernel_rfl) (by kernel_rfl)
              have d99 : bx.tmps.getD 99 undef = .int .i64 κ := hS.dep 4 99 (by kernel_rfl) (by kernel_rfl)
              have hcall := hcall1 u b hJ
              refine ⟨rfl, yieldsY_call (f := 10) (args := #[.pointer (some ⟨p, 0, none⟩), .int .i64 κ]) (u := u) ?_ (hcall.mono fun e u' h => ⟨_, h.1, rfl, h.2⟩) (K := fun v u' => v = .bool E ∧ J true b u') (fun v u' h => h)⟩
              simp [Act.eval, d95, d99, go_sem]
            case op2 =>
              intro o bx u b ho hJ hS
              obtain rfl := Option.some.inj ho
              have d101 : bx.tmps.getD 101 undef = .pointer (some ⟨q, 0, none⟩) := hS.dep 6 101 (by kernel_rfl) (by kernel_rfl)
              have d105 : bx.tmps.getD 105 undef = .int .i64 κ := hS.dep 10 105 (by kernel_rfl) (by kernel_rfl)
              have hcall := hcall2 u b hJ
              refine ⟨rfl, yieldsY_call (f := 11) (args := #[.pointer (some ⟨q, 0, none⟩), .int .i64 κ]) (u := u) ?_ (hcall.mono fun e u' h => ⟨_, h.1, rfl, h.2⟩) (K := fun v u' => v = .bool E ∧ J b true u') (fun v u' h => h)⟩
              simp [Act.eval, d101, d105, go_sem]
            case fin =>
              intro u hJ
              rw [hJd] at hJ
              have h3 : Duo w u p q g (s.free (κ)) (s.free (κ)) [(T, [.int .i64 d.kind, .int .i64 d.i])] := by simpa using hJ
              clear hJ hJd hcall1 hcall2 hJ0
              have HZ : Shut _ := ⟨h3⟩
              clear h3
              simp [putAll, dstAt, Act.put]
              obtain ⟨N, hN⟩ : ∃ N : Nat, Cu.many (s.free (κ)) = N := ⟨_, rfl⟩
              have hl1 := HZ.out.len
              have hl2 := HZ.out.rlen
              rw [hN] at hl1 hl2
              clear hN
              go_wp2_with fail
              refine hl1.mono ?_
              rintro e u3 ⟨rfl, rfl⟩
              go_wp2_with fail
              refine hl2.mono ?_
              rintro e u4 ⟨rfl, rfl⟩
              go_wp2_with fail
              go_roundw
              case rel => exact ⟨i + 1, _, by go_num, by omega, ⟨HZ.out.less fun r hr => absurd hr (List.not_mem_nil)⟩⟩
              case measure => simp [intOf]; omega
          · go_wp2_with fail
            generalize wr.alloc (.cells #[.int .i64 d.kind, .int .i64 d.i] 31) = Wt at *
            generalize wr.heap.size = T at *
            clear c0 c1 s1 s2 k0 k1 hwk
            obtain ⟨E, hE⟩ : ∃ E, s.has (d.i) = E := ⟨_, rfl⟩
            obtain ⟨J, hJd⟩ : ∃ J : Bool → Bool → World → Prop, J = fun a b u => Duo w u p q g (if a then s.free (d.i) else s) (if b then s.free (d.i) else s) [(T, [.int .i64 d.kind, .int .i64 d.i])] := ⟨_, rfl⟩
            have hJ0 : ∀ W, Duo w W p q g s s [(T, [.int .i64 d.kind, .int .i64 d.i])] → J false false W.drew := fun W h => by rw [hJd]; exact h.drew
            have hcall1 : ∀ u b, J false b u → Calls Try.prog 10 #[.pointer (some ⟨p, 0, none⟩), .int .i64 d.i] u fun e u' => e = .returned (.bool E) ∧ J true b u' := by
              intro u b hJ
              rw [hJd] at hJ ⊢
              have hc := hJ.free (d.i)
              simp only [Bool.false_eq_true, if_false] at hc
              rw [hE] at hc
              refine hc.mono ?_
              rintro e u' ⟨rfl, h1⟩
              exact ⟨rfl, by simpa using h1⟩
            have hcall2 : ∀ u b, J b false u → Calls Try.prog 11 #[.pointer (some ⟨q, 0, none⟩), .int .i64 d.i] u fun e u' => e = .returned (.bool E) ∧ J b true u' := by
              intro u b hJ
              rw [hJd] at hJ ⊢
              have hc := hJ.rfree (d.i)
              simp only [Bool.false_eq_true, if_false] at hc
              rw [hE] at hc
              refine hc.mono ?_
              rintro e u' ⟨rfl, h1⟩
              exact ⟨rfl, by simpa using h1⟩
            clear hE
            have hJ0 := hJ0 _ h2
            clear h2
            refine wp_region_two (by kernel_rfl) [.pointer (some ⟨p, 0, none⟩), .pointer (some ⟨T, 1, none⟩), .int .i64 d.i, .bool E, .pointer (some ⟨q, 0, none⟩), .pointer (some ⟨T, 1, none⟩), .int .i64 d.i, .bool E, .bool true, .bool true] 3 7 J (by kernel_rfl) (by decide) (by decide) (by decide) hJ0 ?op ?op1 ?op2 ?fin
            case op =>
              intro iop o bx u a b ho hne1 hne2 hJ hS
              rw [hJd] at hJ
              have hz := hJ
              match iop, ho with
              | 0, ho =>
                obtain rfl := Option.some.inj ho
                have d6 : bx.tmps.getD 6 undef = .pointer (some ⟨p, 0, none⟩) := hS.base 6 (by kernel_rfl)
                refine ⟨rfl, rests_value (c := .pointer (some ⟨p, 0, none⟩)) ?_⟩
                simp [execOp, Act.eval, go_sem, d6]
              | 1, ho =>
                obtain rfl := Option.some.inj ho
                have d10 : bx.tmps.getD 10 undef = .pointer (some ⟨T, 0, none⟩) := hS.base 10 (by kernel_rfl)
                refine ⟨rfl, rests_value (c := .pointer (some ⟨T, 1, none⟩)) ?_⟩
                simp [Act.eval, go_sem, d10]
              | 2, ho =>
                obtain rfl := Option.some.inj ho
                have d111 : bx.tmps.getD 111 undef = .pointer (some ⟨T, 1, none⟩) := hS.dep 1 111 (by kernel_rfl) (by kernel_rfl)
                have hl := (hz.rows _ (List.mem_cons_self)).1.cell 1 _ rfl
                refine ⟨rfl, rests_value (c := .int .i64 d.i) ?_⟩
                simp [Act.eval, go_sem, d111, hl]
              | 3, ho =>
                obtain rfl := Option.some.inj ho
                exact absurd rfl hne1
              | 4, ho =>
                obtain rfl := Option.some.inj ho
                have d8 : bx.tmps.getD 8 undef = .pointer (some ⟨q, 0, none⟩) := hS.base 8 (by kernel_rfl)
                refine ⟨rfl, rests_value (c := .pointer (some ⟨q, 0, none⟩)) ?_⟩
                simp [execOp, Act.eval, go_sem, d8]
              | 5, ho =>
                obtain rfl := Option.some.inj ho
                have d10 : bx.tmps.getD 10 undef = .pointer (some ⟨T, 0, none⟩) := hS.base 10 (by kernel_rfl)
                refine ⟨rfl, rests_value (c := .pointer (some ⟨T, 1, none⟩)) ?_⟩
                simp [Act.eval, go_sem, d10]
              | 6, ho =>
                obtain rfl := Option.some.inj ho
                have d115 : bx.tmps.getD 115 undef = .pointer (some ⟨T, 1, none⟩) := hS.dep 5 115 (by kernel_rfl) (by kernel_rfl)
                have hl := (hz.rows _ (List.mem_cons_self)).1.cell 1 _ rfl
                refine ⟨rfl, rests_value (c := .int .i64 d.i) ?_⟩
                simp [Act.eval, go_sem, d115, hl]
              | 7, ho =>
                obtain rfl := Option.some.inj ho
                exact absurd rfl hne2
              | 8, ho =>
                obtain rfl := Option.some.inj ho
                have d113 : bx.tmps.getD 113 undef = .bool E := hS.dep 3 113 (by kernel_rfl) (by kernel_rfl)
                have d117 : bx.tmps.getD 117 undef = .bool E := hS.dep 7 117 (by kernel_rfl) (by kernel_rfl)
                refine ⟨rfl, rests_value (c := .bool true) ?_⟩
                simp [Act.eval, go_sem, d113, d117]
              | 9, ho =>
                obtain rfl := Option.some.inj ho
                have d118 : bx.tmps.getD 118 undef = .bool true := hS.dep 8 118 (by kernel_rfl) (by kernel_rfl)
                refine ⟨rfl, rests_value (c := .bool true) ?_⟩
                simp [execOp, Act.eval, go_sem, d118]
              | iop + 10, ho => exact absurd ho (by simp)
            case op1 =>
              intro o bx u b ho hJ hS
              obtain rfl := Option.some.inj ho
              have d110 : bx.tmps.getD 110 undef = .pointer (some ⟨p, 0, none⟩) := hS.dep 0 110 (by kernel_rfl) (by kernel_rfl)
              have d112 : bx.tmps.getD 112 undef = .int .i64 d.i := hS.dep 2 112 (by kernel_rfl) (by kernel_rfl)
              have hcall := hcall1 u b hJ
              refine ⟨rfl, yieldsY_call (f := 10) (args := #[.pointer (some ⟨p, 0, none⟩), .int .i64 d.i]) (u := u) ?_ (hcall.mono fun e u' h => ⟨_, h.1, rfl, h.2⟩) (K := fun v u' => v = .bool E ∧ J true b u') (fun v u' h => h)⟩
              simp [Act.eval, d110, d112, go_sem]
            case op2 =>
              intro o bx u b ho hJ hS
              obtain rfl := Option.some.inj ho
              have d114 : bx.tmps.getD 114 undef = .pointer (some ⟨q, 0, none⟩) := hS.dep 4 114 (by kernel_rfl) (by kernel_rfl)
              have d116 : bx.tmps.getD 116 undef = .int .i64 d.i := hS.dep 6 116 (by kernel_rfl) (by kernel_rfl)
              have hcall := hcall2 u b hJ
              refine ⟨rfl, yieldsY_call (f := 11) (args := #[.pointer (some ⟨q, 0, none⟩), .int .i64 d.i]) (u := u) ?_ (hcall.mono fun e u' h => ⟨_, h.1, rfl, h.2⟩) (K := fun v u' => v = .bool E ∧ J b true u') (fun v u' h => h)⟩
              simp [Act.eval, d114, d116, go_sem]
            case fin =>
              intro u hJ
              rw [hJd] at hJ
              have h3 : Duo w u p q g (s.free (d.i)) (s.free (d.i)) [(T, [.int .i64 d.kind, .int .i64 d.i])] := by simpa using hJ
              clear hJ hJd hcall1 hcall2 hJ0
              have HZ : Shut _ := ⟨h3⟩
              clear h3
              simp [putAll, dstAt, Act.put]
              obtain ⟨N, hN⟩ : ∃ N : Nat, Cu.many (s.free (d.i)) = N := ⟨_, rfl⟩
              have hl1 := HZ.out.len
              have hl2 := HZ.out.rlen
              rw [hN] at hl1 hl2
              clear hN
              go_wp2_with fail
              refine hl1.mono ?_
              rintro e u3 ⟨rfl, rfl⟩
              go_wp2_with fail
              refine hl2.mono ?_
              rintro e u4 ⟨rfl, rfl⟩
              go_wp2_with fail
              go_roundw
              case rel => exact ⟨i + 1, _, by go_num, by omega, ⟨HZ.out.less fun r hr => absurd hr (List.not_mem_nil)⟩⟩
              case measure => simp [intOf]; omega
          · go_wp2_with fail
            generalize wr.alloc (.cells #[.int .i64 d.kind, .int .i64 d.i] 31) = Wt at *
            generalize wr.heap.size = T at *
            clear c0 c1 s1 s2 k0 k1 hwk
            obtain ⟨E, hE⟩ : ∃ E, s.has (d.i) = E := ⟨_, rfl⟩
            obtain ⟨J, hJd⟩ : ∃ J : Bool → Bool → World → Prop, J = fun a b u => Duo w u p q g s s [(T, [.int .i64 d.kind, .int .i64 d.i])] := ⟨_, rfl⟩
            have hJ0 : ∀ W, Duo w W p q g s s [(T, [.int .i64 d.kind, .int .i64 d.i])] → J false false W.drew := fun W h => by rw [hJd]; exact h.drew
            have hcall1 : ∀ u b, J false b u → Calls Try.prog 12 #[.pointer (some ⟨p, 0, none⟩), .int .i64 d.i] u fun e u' => e = .returned (.bool E) ∧ J true b u' := by
              intro u b hJ
              rw [hJd] at hJ ⊢
              have hc := Duo.used hJ (d.i)
              rw [hE] at hc
              refine hc.mono ?_
              rintro e u' ⟨rfl, rfl⟩
              exact ⟨rfl, hJ⟩
            have hcall2 : ∀ u b, J b false u → Calls Try.prog 13 #[.pointer (some ⟨q, 0, none⟩), .int .i64 d.i] u fun e u' => e = .returned (.bool E) ∧ J b true u' := by
              intro u b hJ
              rw [hJd] at hJ ⊢
              have hc := Duo.has hJ (d.i)
              rw [hE] at hc
              refine hc.mono ?_
              rintro e u' ⟨rfl, rfl⟩
              exact ⟨rfl, hJ⟩
            clear hE
            have hJ0 := hJ0 _ h2
            clear h2
            refine wp_region_two (by kernel_rfl) [.pointer (some ⟨p, 0, none⟩), .pointer (some ⟨T, 1, none⟩), .int .i64 d.i, .bool E, .pointer (some ⟨q, 0, none⟩), .pointer (some ⟨T, 1, none⟩), .int .i64 d.i, .bool E, .bool true, .bool true] 3 7 J (by kernel_rfl) (by decide) (by decide) (by decide) hJ0 ?op ?op1 ?op2 ?fin
            case op =>
              intro iop o bx u a b ho hne1 hne2 hJ hS
              rw [hJd] at hJ
              have hz := hJ
              match iop, ho with
              | 0, ho =>
                obtain rfl := Option.some.inj ho
                have d6 : bx.tmps.getD 6 undef = .pointer (some ⟨p, 0, none⟩) := hS.base 6 (by kernel_rfl)
                refine ⟨rfl, rests_value (c := .pointer (some ⟨p, 0, none⟩)) ?_⟩
                simp [execOp, Act.eval, go_sem, d6]
              | 1, ho =>
                obtain rfl := Option.some.inj ho
                have d10 : bx.tmps.getD 10 undef = .pointer (some ⟨T, 0, none⟩) := hS.base 10 (by kernel_rfl)
                refine ⟨rfl, rests_value (c := .pointer (some ⟨T, 1, none⟩)) ?_⟩
                simp [Act.eval, go_sem, d10]
              | 2, ho =>
                obtain rfl := Option.some.inj ho
                have d122 : bx.tmps.getD 122 undef = .pointer (some ⟨T, 1, none⟩) := hS.dep 1 122 (by kernel_rfl) (by kernel_rfl)
                have hl := (hz.rows _ (List.mem_cons_self)).1.cell 1 _ rfl
                refine ⟨rfl, rests_value (c := .int .i64 d.i) ?_⟩
                simp [Act.eval, go_sem, d122, hl]
              | 3, ho =>
                obtain rfl := Option.some.inj ho
                exact absurd rfl hne1
              | 4, ho =>
                obtain rfl := Option.some.inj ho
                have d8 : bx.tmps.getD 8 undef = .pointer (some ⟨q, 0, none⟩) := hS.base 8 (by kernel_rfl)
                refine ⟨rfl, rests_value (c := .pointer (some ⟨q, 0, none⟩)) ?_⟩
                simp [execOp, Act.eval, go_sem, d8]
              | 5, ho =>
                obtain rfl := Option.some.inj ho
                have d10 : bx.tmps.getD 10 undef = .pointer (some ⟨T, 0, none⟩) := hS.base 10 (by kernel_rfl)
                refine ⟨rfl, rests_value (c := .pointer (some ⟨T, 1, none⟩)) ?_⟩
                simp [Act.eval, go_sem, d10]
              | 6, ho =>
                obtain rfl := Option.some.inj ho
                have d126 : bx.tmps.getD 126 undef = .pointer (some ⟨T, 1, none⟩) := hS.dep 5 126 (by kernel_rfl) (by kernel_rfl)
                have hl := (hz.rows _ (List.mem_cons_self)).1.cell 1 _ rfl
                refine ⟨rfl, rests_value (c := .int .i64 d.i) ?_⟩
                simp [Act.eval, go_sem, d126, hl]
              | 7, ho =>
                obtain rfl := Option.some.inj ho
                exact absurd rfl hne2
              | 8, ho =>
                obtain rfl := Option.some.inj ho
                have d124 : bx.tmps.getD 124 undef = .bool E := hS.dep 3 124 (by kernel_rfl) (by kernel_rfl)
                have d128 : bx.tmps.getD 128 undef = .bool E := hS.dep 7 128 (by kernel_rfl) (by kernel_rfl)
                refine ⟨rfl, rests_value (c := .bool true) ?_⟩
                simp [Act.eval, go_sem, d124, d128]
              | 9, ho =>
                obtain rfl := Option.some.inj ho
                have d129 : bx.tmps.getD 129 undef = .bool true := hS.dep 8 129 (by kernel_rfl) (by kernel_rfl)
                refine ⟨rfl, rests_value (c := .bool true) ?_⟩
                simp [execOp, Act.eval, go_sem, d129]
              | iop + 10, ho => exact absurd ho (by simp)
            case op1 =>
              intro o bx u b ho hJ hS
              obtain rfl := Option.some.inj ho
              have d121 : bx.tmps.getD 121 undef = .pointer (some ⟨p, 0, none⟩) := hS.dep 0 121 (by kernel_rfl) (by kernel_rfl)
              have d123 : bx.tmps.getD 123 undef = .int .i64 d.i := hS.dep 2 123 (by kernel_rfl) (by kernel_rfl)
              have hcall := hcall1 u b hJ
              refine ⟨rfl, yieldsY_call (f := 12) (args := #[.pointer (some ⟨p, 0, none⟩), .int .i64 d.i]) (u := u) ?_ (hcall.mono fun e u' h => ⟨_, h.1, rfl, h.2⟩) (K := fun v u' => v = .bool E ∧ J true b u') (fun v u' h => h)⟩
              simp [Act.eval, d121, d123, go_sem]
            case op2 =>
              intro o bx u b ho hJ hS
              obtain rfl := Option.some.inj ho
              have d125 : bx.tmps.getD 125 undef = .pointer (some ⟨q, 0, none⟩) := hS.dep 4 125 (by kernel_rfl) (by kernel_rfl)
              have d127 : bx.tmps.getD 127 undef = .int .i64 d.i := hS.dep 6 127 (by kernel_rfl) (by kernel_rfl)
              have hcall := hcall2 u b hJ
              refine ⟨rfl, yieldsY_call (f := 13) (args := #[.pointer (some ⟨q, 0, none⟩), .int .i64 d.i]) (u := u) ?_ (hcall.mono fun e u' h => ⟨_, h.1, rfl, h.2⟩) (K := fun v u' => v = .bool E ∧ J b true u') (fun v u' h => h)⟩
              simp [Act.eval, d125, d127, go_sem]
            case fin =>
              intro u hJ
              rw [hJd] at hJ
              have h3 : Duo w u p q g s s [(T, [.int .i64 d.kind, .int .i64 d.i])] := by simpa using hJ
              clear hJ hJd hcall1 hcall2 hJ0
              have HZ : Shut _ := ⟨h3⟩
              clear h3
              simp [putAll, dstAt, Act.put]
              obtain ⟨N, hN⟩ : ∃ N : Nat, Cu.many s = N := ⟨_, rfl⟩
              have hl1 := HZ.out.len
              have hl2 := HZ.out.rlen
              rw [hN] at hl1 hl2
              clear hN
              go_wp2_with fail
              refine hl1.mono ?_
              rintro e u3 ⟨rfl, rfl⟩
              go_wp2_with fail
              refine hl2.mono ?_
              rintro e u4 ⟨rfl, rfl⟩
              go_wp2_with fail
              go_roundw
              case rel => exact ⟨i + 1, _, by go_num, by omega, ⟨HZ.out.less fun r hr => absurd hr (List.not_mem_nil)⟩⟩
              case measure => simp [intOf]; omega
          · go_wp2_with fail
            generalize wr.alloc (.cells #[.int .i64 d.kind, .int .i64 d.i] 31) = Wt at *
            generalize wr.heap.size = T at *
            clear c0 c1 s1 s2 k0 k1 hwk
            obtain ⟨k, b, s', hT⟩ := tk_any h2.wf
            have hc1 := h2.take hT
            have HK : Shut (Tk s k b s') := ⟨hT⟩
            clear h2 hT
            refine hc1.mono ?_
            rintro e u1 ⟨rfl, h3⟩
            clear hc1
            have hc2 := h3.rtake HK.out
            clear h3
            go_wp2_with fail
            refine hc2.mono ?_
            rintro e u2 ⟨rfl, h4⟩
            have HZ : Shut _ := ⟨h4⟩
            clear h4 hc2 HK
            obtain ⟨N, hN⟩ : ∃ N : Nat, Cu.many s' = N := ⟨_, rfl⟩
            have hl1 := HZ.out.len
            have hl2 := HZ.out.rlen
            rw [hN] at hl1 hl2
            clear hN
            go_wp2_with fail
            refine hl1.mono ?_
            rintro e u3 ⟨rfl, rfl⟩
            go_wp2_with fail
            refine hl2.mono ?_
            rintro e u4 ⟨rfl, rfl⟩
            go_wp2_with fail
            go_roundw
            case rel => exact ⟨i + 1, _, by go_num, by omega, ⟨HZ.out.less fun r hr => absurd hr (List.not_mem_nil)⟩⟩
            case measure => simp [intOf]; omega
        · rcases hmod with ⟨m1, m2⟩ | ⟨m1, m2⟩ | ⟨m1, m2⟩ | ⟨⟨m1, m2, m3⟩, m4, m5, m6⟩
          · go_wp2_with fail
            generalize wr.alloc (.cells #[.int .i64 d.kind, .int .i64 d.i] 31) = Wt at *
            generalize wr.heap.size = T at *
            clear c0 c1 s1 k0 k1 hwk
            obtain ⟨E, hE⟩ : ∃ E, s.has (κ) = E := ⟨_, rfl⟩
            obtain ⟨J, hJd⟩ : ∃ J : Bool → Bool → World → Prop, J = fun a b u => Duo w u p q g (if a then s.free (κ) else s) (if b then s.free (κ) else s) [(T, [.int .i64 d.kind, .int .i64 d.i])] := ⟨_, rfl⟩
            have hJ0 : ∀ W, Duo w W p q g s s [(T, [.int .i64 d.kind, .int .i64 d.i])] → J false false W.drew := fun W h => by rw [hJd]; exact h.drew
            have hcall1 : ∀ u b, J false b u → Calls Try.prog 10 #[.pointer (some ⟨p, 0, none⟩), .int .i64 κ] u fun e u' => e = .returned (.bool E) ∧ J true b u' := by
              intro u b hJ
              rw [hJd] at hJ ⊢
              have hc := hJ.free (κ)
              simp only [Bool.false_eq_true, if_false] at hc
              rw [hE] at hc
              refine hc.mono ?_
              rintro e u' ⟨rfl, h1⟩
              exact ⟨rfl, by simpa using h1⟩
            have hcall2 : ∀ u b, J b false u → Calls Try.prog 11 #[.pointer (some ⟨q, 0, none⟩), .int .i64 κ] u fun e u' => e = .returned (.bool E) ∧ J b true u' := by
              intro u b hJ
              rw [hJd] at hJ ⊢
              have hc := hJ.rfree (κ)
              simp only [Bool.false_eq_true, if_false] at hc
              rw [hE] at hc
              refine hc.mono ?_
              rintro e u' ⟨rfl, h1⟩
              exact ⟨rfl, by simpa using h1⟩
            clear hE
            have hJ0 := hJ0 _ h2
            clear h2
            refine wp_region_two (by kernel_rfl) [.pointer (some ⟨p, 0, none⟩), .pointer (some ⟨T, 1, none⟩), .int .i64 d.i, .int .i64 (n : Int), .int .i64 κ, .bool E, .pointer (some ⟨q, 0, none⟩), .pointer (some ⟨T, 1, none⟩), .int .i64 d.i, .int .i64 (n : Int), .int .i64 κ, .bool E, .bool true, .bool true] 5 11 J (by kernel_rfl) (by decide) (by decide) (by decide) hJ0 ?op ?op1 ?op2 ?fin
            case op =>
              intro iop o bx u a b ho hne1 hne2 hJ hS
              rw [hJd] at hJ
              have hz := hJ
              match iop, ho with
              | 0, ho =>
                obtain rfl := Option.some.inj ho
                have d6 : bx.tmps.getD 6 undef = .pointer (some ⟨p, 0, none⟩) := hS.base 6 (by kernel_rfl)
                refine ⟨rfl, rests_value (c := .pointer (some ⟨p, 0, none⟩)) ?_⟩
                simp [execOp, Act.eval, go_sem, d6]
              | 1, ho =>
                obtain rfl := Option.some.inj ho
                have d10 : bx.tmps.getD 10 undef = .pointer (some ⟨T, 0, none⟩) := hS.base 10 (by kernel_rfl)
                refine ⟨rfl, rests_value (c := .pointer (some ⟨T, 1, none⟩)) ?_⟩
                simp [Act.eval, go_sem, d10]
              | 2, ho =>
                obtain rfl := Option.some.inj ho
                have d96 : bx.tmps.getD 96 undef = .pointer (some ⟨T, 1, none⟩) := hS.dep 1 96 (by kernel_rfl) (by kernel_rfl)
                have hl := (hz.rows _ (List.mem_cons_self)).1.cell 1 _ rfl
                refine ⟨rfl, rests_value (c := .int .i64 d.i) ?_⟩
                simp [Act.eval, go_sem, d96, hl]
              | 3, ho =>
                obtain rfl := Option.some.inj ho
                have d0 : bx.tmps.getD 0 undef = .int .i64 (n : Int) := hS.base 0 (by kernel_rfl)
                refine ⟨rfl, rests_value (c := .int .i64 (n : Int)) ?_⟩
                simp [execOp, Act.eval, go_sem, d0]
              | 4, ho =>
                obtain rfl := Option.some.inj ho
                have d97 : bx.tmps.getD 97 undef = .int .i64 d.i := hS.dep 2 97 (by kernel_rfl) (by kernel_rfl)
                have d98 : bx.tmps.getD 98 undef = .int .i64 (n : Int) := hS.dep 3 98 (by kernel_rfl) (by kernel_rfl)
                refine ⟨rfl, rests_value (c := .int .i64 κ) ?_⟩
                simp [Act.eval, go_sem, d97, d98, hn0, hκ]
              | 5, ho =>
                obtain rfl := Option.some.inj ho
                exact absurd rfl hne1
              | 6, ho =>
                obtain rfl := Option.some.inj ho
                have d8 : bx.tmps.getD 8 undef = .pointer (some ⟨q, 0, none⟩) := hS.base 8 (by kernel_rfl)
                refine ⟨rfl, rests_value (c := .pointer (some ⟨q, 0, none⟩)) ?_⟩
                simp [execOp, Act.eval, go_sem, d8]
              | 7, ho =>
                obtain rfl := Option.some.inj ho
                have d10 : bx.tmps.getD 10 undef = .pointer (some ⟨T, 0, none⟩) := hS.base 10 (by kernel_rfl)
                refine ⟨rfl, rests_value (c := .pointer (some ⟨T, 1, none⟩)) ?_⟩
                simp [Act.eval, go_sem, d10]
              | 8, ho =>
                obtain rfl := Option.some.inj ho
                have d102 : bx.tmps.getD 102 undef = .pointer (some ⟨T, 1, none⟩) := hS.dep 7 102 (by kernel_rfl) (by kernel_rfl)
                have hl := (hz.rows _ (List.mem_cons_self)).1.cell 1 _ rfl
                refine ⟨rfl, rests_value (c := .int .i64 d.i) ?_⟩
                simp [Act.eval, go_sem, d102, hl]
              | 9, ho =>
                obtain rfl := Option.some.inj ho
                have d0 : bx.tmps.getD 0 undef = .int .i64 (n : Int) := hS.base 0 (by kernel_rfl)
                refine ⟨rfl, rests_value (c := .int .i64 (n : Int)) ?_⟩
                simp [execOp, Act.eval, go_sem, d0]
              | 10, ho =>
                obtain rfl := Option.some.inj ho
                have d103 : bx.tmps.getD 103 undef = .int .i64 d.i := hS.dep 8 103 (by kernel_rfl) (by kernel_rfl)
                have d104 : bx.tmps.getD 104 undef = .int .i64 (n : Int) := hS.dep 9 104 (by kernel_rfl) (by kernel_rfl)
                refine ⟨rfl, rests_value (c := .int .i64 κ) ?_⟩
                simp [Act.eval, go_sem, d103, d104, hn0, hκ]
              | 11, ho =>
                obtain rfl := Option.some.inj ho
                exact absurd rfl hne2
              | 12, ho =>
                obtain rfl := Option.some.inj ho
                have d100 : bx.tmps.getD 100 undef = .bool E := hS.dep 5 100 (by kernel_rfl) (by kernel_rfl)
                have d106 : bx.tmps.getD 106 undef = .bool E := hS.dep 11 106 (by kernel_rfl) (by kernel_rfl)
                refine ⟨rfl, rests_value (c := .bool true) ?_⟩
                simp [Act.eval, go_sem, d100, d106]
              | 13, ho =>
                obtain rfl := Option.some.inj ho
                have d107 : bx.tmps.getD 107 undef = .bool true := hS.dep 12 107 (by kernel_rfl) (by kernel_rfl)
                refine ⟨rfl, rests_value (c := .bool true) ?_⟩
                simp [execOp, Act.eval, go_sem, d107]
              | iop + 14, ho => exact absurd ho (by simp)
            case op1 =>
              intro o bx u b ho hJ hS
              obtain rfl := Option.some.inj ho
              have d95 : bx.tmps.getD 95 undef = .pointer (some ⟨p, 0, none⟩) := hS.dep 0 95 (by kernel_rfl) (by kernel_rfl)
              have d99 : bx.tmps.getD 99 undef = .int .i64 κ := hS.dep 4 99 (by kernel_rfl) (by kernel_rfl)
              have hcall := hcall1 u b hJ
              refine ⟨rfl, yieldsY_call (f := 10) (args := #[.pointer (some ⟨p, 0, none⟩), .int .i64 κ]) (u := u) ?_ (hcall.mono fun e u' h => ⟨_, h.1, rfl, h.2⟩) (K := fun v u' => v = .bool E ∧ J true b u') (fun v u' h => h)⟩
              simp [Act.eval, d95, d99, go_sem]
            case op2 =>
              intro o bx u b ho hJ hS
              obtain rfl := Option.some.inj ho
              have d101 : bx.tmps.getD 101 undef = .pointer (some ⟨q, 0, none⟩) := hS.dep 6 101 (by kernel_rfl) (by kernel_rfl)
              have d105 : bx.tmps.getD 105 undef = .int .i64 κ := hS.dep 10 105 (by kernel_rfl) (by kernel_rfl)
              have hcall := hcall2 u b hJ
              refine ⟨rfl, yieldsY_call (f := 11) (args := #[.pointer (some ⟨q, 0, none⟩), .int .i64 κ]) (u := u) ?_ (hcall.mono fun e u' h => ⟨_, h.1, rfl, h.2⟩) (K := fun v u' => v = .bool E ∧ J b true u') (fun v u' h => h)⟩
              simp [Act.eval, d101, d105, go_sem]
            case fin =>
              intro u hJ
              rw [hJd] at hJ
              have h3 : Duo w u p q g (s.free (κ)) (s.free (κ)) [(T, [.int .i64 d.kind, .int .i64 d.i])] := by simpa using hJ
              clear hJ hJd hcall1 hcall2 hJ0
              have HZ : Shut _ := ⟨h3⟩
              clear h3
              simp [putAll, dstAt, Act.put]
              obtain ⟨N, hN⟩ : ∃ N : Nat, Cu.many (s.free (κ)) = N := ⟨_, rfl⟩
              have hl1 := HZ.out.len
              have hl2 := HZ.out.rlen
              rw [hN] at hl1 hl2
              clear hN
              go_wp2_with fail
              refine hl1.mono ?_
              rintro e u3 ⟨rfl, rfl⟩
              go_wp2_with fail
              refine hl2.mono ?_
              rintro e u4 ⟨rfl, rfl⟩
              go_wp2_with fail
              go_roundw
              case rel => exact ⟨i + 1, _, by go_num, by omega, ⟨HZ.out.less fun r hr => absurd hr (List.not_mem_nil)⟩⟩
              case measure => simp [intOf]; omega
          · go_wp2_with fail
            generalize wr.alloc (.cells #[.int .i64 d.kind, .int .i64 d.i] 31) = Wt at *
            generalize wr.heap.size = T at *
            clear c0 c1 s1 k0 k1 hwk
            obtain ⟨E, hE⟩ : ∃ E, s.has (d.i) = E := ⟨_, rfl⟩
            obtain ⟨J, hJd⟩ : ∃ J : Bool → Bool → World → Prop, J = fun a b u => Duo w u p q g (if a then s.free (d.i) else s) (if b then s.free (d.i) else s) [(T, [.int .i64 d.kind, .int .i64 d.i])] := ⟨_, rfl⟩
            have hJ0 : ∀ W, Duo w W p q g s s [(T, [.int .i64 d.kind, .int .i64 d.i])] → J false false W.drew := fun W h => by rw [hJd]; exact h.drew
            have hcall1 : ∀ u b, J false b u → Calls Try.prog 10 #[.pointer (some ⟨p, 0, none⟩), .int .i64 d.i] u fun e u' => e = .returned (.bool E) ∧ J true b u' := by
              intro u b hJ
              rw [hJd] at hJ ⊢
              have hc := hJ.free (d.i)
              simp only [Bool.false_eq_true, if_false] at hc
              rw [hE] at hc
              refine hc.mono ?_
              rintro e u' ⟨rfl, h1⟩
              exact ⟨rfl, by simpa using h1⟩
            have hcall2 : ∀ u b, J b false u → Calls Try.prog 11 #[.pointer (some ⟨q, 0, none⟩), .int .i64 d.i] u fun e u' => e = .returned (.bool E) ∧ J b true u' := by
              intro u b hJ
              rw [hJd] at hJ ⊢
              have hc := hJ.rfree (d.i)
              simp only [Bool.false_eq_true, if_false] at hc
              rw [hE] at hc
              refine hc.mono ?_
              rintro e u' ⟨rfl, h1⟩
              exact ⟨rfl, by simpa using h1⟩
            clear hE
            have hJ0 := hJ0 _ h2
            clear h2
            refine wp_region_two (by kernel_rfl) [.pointer (some ⟨p, 0, none⟩), .pointer (some ⟨T, 1, none⟩), .int .i64 d.i, .bool E, .pointer (some ⟨q, 0, none⟩), .pointer (some ⟨T, 1, none⟩), .int .i64 d.i, .bool E, .bool true, .bool true] 3 7 J (by kernel_rfl) (by decide) (by decide) (by decide) hJ0 ?op ?op1 ?op2 ?fin
            case op =>
              intro iop o bx u a b ho hne1 hne2 hJ hS
              rw [hJd] at hJ
              have hz := hJ
              match iop, ho with
              | 0, ho =>
                obtain rfl := Option.some.inj ho
                have d6 : bx.tmps.getD 6 undef = .pointer (some ⟨p, 0, none⟩) := hS.base 6 (by kernel_rfl)
                refine ⟨rfl, rests_value (c := .pointer (some ⟨p, 0, none⟩)) ?_⟩
                simp [execOp, Act.eval, go_sem, d6]
              | 1, ho =>
                obtain rfl := Option.some.inj ho
                have d10 : bx.tmps.getD 10 undef = .pointer (some ⟨T, 0, none⟩) := hS.base 10 (by kernel_rfl)
                refine ⟨rfl, rests_value (c := .pointer (some ⟨T, 1, none⟩)) ?_⟩
                simp [Act.eval, go_sem, d10]
              | 2, ho =>
                obtain rfl := Option.some.inj ho
                have d111 : bx.tmps.getD 111 undef = .pointer (some ⟨T, 1, none⟩) := hS.dep 1 111 (by kernel_rfl) (by kernel_rfl)
                have hl := (hz.rows _ (List.mem_cons_self)).1.cell 1 _ rfl
                refine ⟨rfl, rests_value (c := .int .i64 d.i) ?_⟩
                simp [Act.eval, go_sem, d111, hl]
              | 3, ho =>
                obtain rfl := Option.some.inj ho
                exact absurd rfl hne1
              | 4, ho =>
                obtain rfl := Option.some.inj ho
                have d8 : bx.tmps.getD 8 undef = .pointer (some ⟨q, 0, none⟩) := hS.base 8 (by kernel_rfl)
                refine ⟨rfl, rests_value (c := .pointer (some ⟨q, 0, none⟩)) ?_⟩
                simp [execOp, Act.eval, go_sem, d8]
              | 5, ho =>
                obtain rfl := Option.some.inj ho
                have d10 : bx.tmps.getD 10 undef = .pointer (some ⟨T, 0, none⟩) := hS.base 10 (by kernel_rfl)
                refine ⟨rfl, rests_value (c := .pointer (some ⟨T, 1, none⟩)) ?_⟩
                simp [Act.eval, go_sem, d10]
              | 6, ho =>
                obtain rfl := Option.some.inj ho
                have d115 : bx.tmps.getD 115 undef = .pointer (some ⟨T, 1, none⟩) := hS.dep 5 115 (by kernel_rfl) (by kernel_rfl)
                have hl := (hz.rows _ (List.mem_cons_self)).1.cell 1 _ rfl
                refine ⟨rfl, rests_value (c := .int .i64 d.i) ?_⟩
                simp [Act.eval, go_sem, d115, hl]
              | 7, ho =>
                obtain rfl := Option.some.inj ho
                exact absurd rfl hne2
              | 8, ho =>
                obtain rfl := Option.some.inj ho
                have d113 : bx.tmps.getD 113 undef = .bool E := hS.dep 3 113 (by kernel_rfl) (by kernel_rfl)
                have d117 : bx.tmps.getD 117 undef = .bool E := hS.dep 7 117 (by kernel_rfl) (by kernel_rfl)
                refine ⟨rfl, rests_value (c := .bool true) ?_⟩
                simp [Act.eval, go_sem, d113, d117]
              | 9, ho =>
                obtain rfl := Option.some.inj ho
                have d118 : bx.tmps.getD 118 undef = .bool true := hS.dep 8 118 (by kernel_rfl) (by kernel_rfl)
                refine ⟨rfl, rests_value (c := .bool true) ?_⟩
                simp [execOp, Act.eval, go_sem, d118]
              | iop + 10, ho => exact absurd ho (by simp)
            case op1 =>
              intro o bx u b ho hJ hS
              obtain rfl := Option.some.inj ho
              have d110 : bx.tmps.getD 110 undef = .pointer (some ⟨p, 0, none⟩) := hS.dep 0 110 (by kernel_rfl) (by kernel_rfl)
              have d112 : bx.tmps.getD 112 undef = .int .i64 d.i := hS.dep 2 112 (by kernel_rfl) (by kernel_rfl)
              have hcall := hcall1 u b hJ
              refine ⟨rfl, yieldsY_call (f := 10) (args := #[.pointer (some ⟨p, 0, none⟩), .int .i64 d.i]) (u := u) ?_ (hcall.mono fun e u' h => ⟨_, h.1, rfl, h.2⟩) (K := fun v u' => v = .bool E ∧ J true b u') (fun v u' h => h)⟩
              simp [Act.eval, d110, d112, go_sem]
            case op2 =>
              intro o bx u b ho hJ hS
              obtain rfl := Option.some.inj ho
              have d114 : bx.tmps.getD 114 undef = .pointer (some ⟨q, 0, none⟩) := hS.dep 4 114 (by kernel_rfl) (by kernel_rfl)
              have d116 : bx.tmps.getD 116 undef = .int .i64 d.i := hS.dep 6 116 (by kernel_rfl) (by kernel_rfl)
              have hcall := hcall2 u b hJ
              refine ⟨rfl, yieldsY_call (f := 11) (args := #[.pointer (some ⟨q, 0, none⟩), .int .i64 d.i]) (u := u) ?_ (hcall.mono fun e u' h => ⟨_, h.1, rfl, h.2⟩) (K := fun v u' => v = .bool E ∧ J b true u') (fun v u' h => h)⟩
              simp [Act.eval, d114, d116, go_sem]
            case fin =>
              intro u hJ
              rw [hJd] at hJ
              have h3 : Duo w u p q g (s.free (d.i)) (s.free (d.i)) [(T, [.int .i64 d.kind, .int .i64 d.i])] := by simpa using hJ
              clear hJ hJd hcall1 hcall2 hJ0
              have HZ : Shut _ := ⟨h3⟩
              clear h3
              simp [putAll, dstAt, Act.put]
              obtain ⟨N, hN⟩ : ∃ N : Nat, Cu.many (s.free (d.i)) = N := ⟨_, rfl⟩
              have hl1 := HZ.out.len
              have hl2 := HZ.out.rlen
              rw [hN] at hl1 hl2
              clear hN
              go_wp2_with fail
              refine hl1.mono ?_
              rintro e u3 ⟨rfl, rfl⟩
              go_wp2_with fail
              refine hl2.mono ?_
              rintro e u4 ⟨rfl, rfl⟩
              go_wp2_with fail
              go_roundw
              case rel => exact ⟨i + 1, _, by go_num, by omega, ⟨HZ.out.less fun r hr => absurd hr (List.not_mem_nil)⟩⟩
              case measure => simp [intOf]; omega
          · go_wp2_with fail
            generalize wr.alloc (.cells #[.int .i64 d.kind, .int .i64 d.i] 31) = Wt at *
            generalize wr.heap.size = T at *
            clear c0 c1 s1 k0 k1 hwk
            obtain ⟨E, hE⟩ : ∃ E, s.has (d.i) = E := ⟨_, rfl⟩
            obtain ⟨J, hJd⟩ : ∃ J : Bool → Bool → World → Prop, J = fun a b u => Duo w u p q g s s [(T, [.int .i64 d.kind, .int .i64 d.i])] := ⟨_, rfl⟩
            have hJ0 : ∀ W, Duo w W p q g s s [(T, [.int .i64 d.kind, .int .i64 d.i])] → J false false W.drew := fun W h => by rw [hJd]; exact h.drew
            have hcall1 : ∀ u b, J false b u → Calls Try.prog 12 #[.pointer (some ⟨p, 0, none⟩), .int .i64 d.i] u fun e u' => e = .returned (.bool E) ∧ J true b u' := by
              intro u b hJ
              rw [hJd] at hJ ⊢
              have hc := Duo.used hJ (d.i)
              rw [hE] at hc
              refine hc.mono ?_
              rintro e u' ⟨rfl, rfl⟩
              exact ⟨rfl, hJ⟩
            have hcall2 : ∀ u b, J b false u → Calls Try.prog 13 #[.pointer (some ⟨q, 0, none⟩), .int .i64 d.i] u fun e u' => e = .returned (.bool E) ∧ J b true u' := by
              intro u b hJ
              rw [hJd] at hJ ⊢
              have hc := Duo.has hJ (d.i)
              rw [hE] at hc
              refine hc.mono ?_
              rintro e u' ⟨rfl, rfl⟩
              exact ⟨rfl, hJ⟩
            clear hE
            have hJ0 := hJ0 _ h2
            clear h2
            refine wp_region_two (by kernel_rfl) [.pointer (some ⟨p, 0, none⟩), .pointer (some ⟨T, 1, none⟩), .int .i64 d.i, .bool E, .pointer (some ⟨q, 0, none⟩), .pointer (some ⟨T, 1, none⟩), .int .i64 d.i, .bool E, .bool true, .bool true] 3 7 J (by kernel_rfl) (by decide) (by decide) (by decide) hJ0 ?op ?op1 ?op2 ?fin
            case op =>
              intro iop o bx u a b ho hne1 hne2 hJ hS
              rw [hJd] at hJ
              have hz := hJ
              match iop, ho with
              | 0, ho =>
                obtain rfl := Option.some.inj ho
                have d6 : bx.tmps.getD 6 undef = .pointer (some ⟨p, 0, none⟩) := hS.base 6 (by kernel_rfl)
                refine ⟨rfl, rests_value (c := .pointer (some ⟨p, 0, none⟩)) ?_⟩
                simp [execOp, Act.eval, go_sem, d6]
              | 1, ho =>
                obtain rfl := Option.some.inj ho
                have d10 : bx.tmps.getD 10 undef = .pointer (some ⟨T, 0, none⟩) := hS.base 10 (by kernel_rfl)
                refine ⟨rfl, rests_value (c := .pointer (some ⟨T, 1, none⟩)) ?_⟩
                simp [Act.eval, go_sem, d10]
              | 2, ho =>
                obtain rfl := Option.some.inj ho
                have d122 : bx.tmps.getD 122 undef = .pointer (some ⟨T, 1, none⟩) := hS.dep 1 122 (by kernel_rfl) (by kernel_rfl)
                have hl := (hz.rows _ (List.mem_cons_self)).1.cell 1 _ rfl
                refine ⟨rfl, rests_value (c := .int .i64 d.i) ?_⟩
                simp [Act.eval, go_sem, d122, hl]
              | 3, ho =>
                obtain rfl := Option.some.inj ho
                exact absurd rfl hne1
              | 4, ho =>
                obtain rfl := Option.some.inj ho
                have d8 : bx.tmps.getD 8 undef = .pointer (some ⟨q, 0, none⟩) := hS.base 8 (by kernel_rfl)
                refine ⟨rfl, rests_value (c := .pointer (some ⟨q, 0, none⟩)) ?_⟩
                simp [execOp, Act.eval, go_sem, d8]
              | 5, ho =>
                obtain rfl := Option.some.inj ho
                have d10 : bx.tmps.getD 10 undef = .pointer (some ⟨T, 0, none⟩) := hS.base 10 (by kernel_rfl)
                refine ⟨rfl, rests_value (c := .pointer (some ⟨T, 1, none⟩)) ?_⟩
                simp [Act.eval, go_sem, d10]
              | 6, ho =>
                obtain rfl := Option.some.inj ho
                have d126 : bx.tmps.getD 126 undef = .pointer (some ⟨T, 1, none⟩) := hS.dep 5 126 (by kernel_rfl) (by kernel_rfl)
                have hl := (hz.rows _ (List.mem_cons_self)).1.cell 1 _ rfl
                refine ⟨rfl, rests_value (c := .int .i64 d.i) ?_⟩
                simp [Act.eval, go_sem, d126, hl]
              | 7, ho =>
                obtain rfl := Option.some.inj ho
                exact absurd rfl hne2
              | 8, ho =>
                obtain rfl := Option.some.inj ho
                have d124 : bx.tmps.getD 124 undef = .bool E := hS.dep 3 124 (by kernel_rfl) (by kernel_rfl)
                have d128 : bx.tmps.getD 128 undef = .bool E := hS.dep 7 128 (by kernel_rfl) (by kernel_rfl)
                refine ⟨rfl, rests_value (c := .bool true) ?_⟩
                simp [Act.eval, go_sem, d124, d128]
              | 9, ho =>
                obtain rfl := Option.some.inj ho
                have d129 : bx.tmps.getD 129 undef = .bool true := hS.dep 8 129 (by kernel_rfl) (by kernel_rfl)
                refine ⟨rfl, rests_value (c := .bool true) ?_⟩
                simp [execOp, Act.eval, go_sem, d129]
              | iop + 10, ho => exact absurd ho (by simp)
            case op1 =>
              intro o bx u b ho hJ hS
              obtain rfl := Option.some.inj ho
              have d121 : bx.tmps.getD 121 undef = .pointer (some ⟨p, 0, none⟩) := hS.dep 0 121 (by kernel_rfl) (by kernel_rfl)
              have d123 : bx.tmps.getD 123 undef = .int .i64 d.i := hS.dep 2 123 (by kernel_rfl) (by kernel_rfl)
              have hcall := hcall1 u b hJ
              refine ⟨rfl, yieldsY_call (f := 12) (args := #[.pointer (some ⟨p, 0, none⟩), .int .i64 d.i]) (u := u) ?_ (hcall.mono fun e u' h => ⟨_, h.1, rfl, h.2⟩) (K := fun v u' => v = .bool E ∧ J true b u') (fun v u' h => h)⟩
              simp [Act.eval, d121, d123, go_sem]
            case op2 =>
              intro o bx u b ho hJ hS
              obtain rfl := Option.some.inj ho
              have d125 : bx.tmps.getD 125 undef = .pointer (some ⟨q, 0, none⟩) := hS.dep 4 125 (by kernel_rfl) (by kernel_rfl)
              have d127 : bx.tmps.getD 127 undef = .int .i64 d.i := hS.dep 6 127 (by kernel_rfl) (by kernel_rfl)
              have hcall := hcall2 u b hJ
              refine ⟨rfl, yieldsY_call (f := 13) (args := #[.pointer (some ⟨q, 0, none⟩), .int .i64 d.i]) (u := u) ?_ (hcall.mono fun e u' h => ⟨_, h.1, rfl, h.2⟩) (K := fun v u' => v = .bool E ∧ J b true u') (fun v u' h => h)⟩
              simp [Act.eval, d125, d127, go_sem]
            case fin =>
              intro u hJ
              rw [hJd] at hJ
              have h3 : Duo w u p q g s s [(T, [.int .i64 d.kind, .int .i64 d.i])] := by simpa using hJ
              clear hJ hJd hcall1 hcall2 hJ0
              have HZ : Shut _ := ⟨h3⟩
              clear h3
              simp [putAll, dstAt, Act.put]
              obtain ⟨N, hN⟩ : ∃ N : Nat, Cu.many s = N := ⟨_, rfl⟩
              have hl1 := HZ.out.len
              have hl2 := HZ.out.rlen
              rw [hN] at hl1 hl2
              clear hN
              go_wp2_with fail
              refine hl1.mono ?_
              rintro e u3 ⟨rfl, rfl⟩
              go_wp2_with fail
              refine hl2.mono ?_
              rintro e u4 ⟨rfl, rfl⟩
              go_wp2_with fail
              go_roundw
              case rel => exact ⟨i + 1, _, by go_num, by omega, ⟨HZ.out.less fun r hr => absurd hr (List.not_mem_nil)⟩⟩
              case measure => simp [intOf]; omega
          · go_wp2_with fail
            generalize wr.alloc (.cells #[.int .i64 d.kind, .int .i64 d.i] 31) = Wt at *
            generalize wr.heap.size = T at *
            clear c0 c1 s1 k0 k1 hwk
            obtain ⟨k, b, s', hT⟩ := tk_any h2.wf
            have hc1 := h2.take hT
            have HK : Shut (Tk s k b s') := ⟨hT⟩
            clear h2 hT
            refine hc1.mono ?_
            rintro e u1 ⟨rfl, h3⟩
            clear hc1
            have hc2 := h3.rtake HK.out
            clear h3
            go_wp2_with fail
            refine hc2.mono ?_
            rintro e u2 ⟨rfl, h4⟩
            have HZ : Shut _ := ⟨h4⟩
            clear h4 hc2 HK
            obtain ⟨N, hN⟩ : ∃ N : Nat, Cu.many s' = N := ⟨_, rfl⟩
            have hl1 := HZ.out.len
            have hl2 := HZ.out.rlen
            rw [hN] at hl1 hl2
            clear hN
            go_wp2_with fail
            refine hl1.mono ?_
            rintro e u3 ⟨rfl, rfl⟩
            go_wp2_with fail
            refine hl2.mono ?_
            rintro e u4 ⟨rfl, rfl⟩
            go_wp2_with fail
            go_roundw
            case rel => exact ⟨i + 1, _, by go_num, by omega, ⟨HZ.out.less fun r hr => absurd hr (List.not_mem_nil)⟩⟩
            case measure => simp [intOf]; omega
      · have h601 : ¬ (i : Int) < 100 := by omega
        clear h60
        go_wp2_with fail
        go_ret
        exact ⟨rfl, HT.out.below⟩
    · have hlt1 : ¬ (i : Int) < len := by omega
      clear hlt
      go_wp2_with fail
      go_ret
      exact ⟨rfl, HT.out.below⟩
end Go.Proofs.Ytbncjinkojeioaa
