/- Remove of the reference of chapter 12. -/
import Derived.Test.YtckkdgifjgkoaaaAnRem
namespace Go.Proofs.Ytckkdgifjgkoaaa
open Go.ChangeShapes Go.WideShapes Go.ChangeAt Go.RowKit An

section
variable {base : Nat} {w : World} {b : Bk} {v : Value} {s : An}
set_option maxHeartbeats 400000 in
theorem rremove_out (hA : AnAt hdR base w b v s) (x : Int) (hx : x < 0 ∨ (0 ≤ x ∧ (s.r : Int) ≤ x)) :
    Calls Try.prog 60 #[.pointer (some ⟨b.p, 0, none⟩), .int .i64 x] w fun e w' => e = .returned (.int .i64 19) ∧ w' = w := by
  obtain ⟨c1, _⟩ := hA.headR
  rcases hx with hx | ⟨h0, hx⟩
  · go_enter Try.func60, Try.ntmps60
    go_wp2_with fail
    go_ret
    exact ⟨rfl, rfl⟩
  · have h0' : ¬ x < 0 := by omega
    go_enter Try.func60, Try.ntmps60
    go_wp2_with fail
    go_ret
    exact ⟨rfl, rfl⟩
set_option maxHeartbeats 400000 in
theorem rremove_gone (hA : AnAt hdR base w b v s) (x : Nat) (hx : x < s.r) (hg : s.A x ≠ 0) :
    Calls Try.prog 60 #[.pointer (some ⟨b.p, 0, none⟩), .int .i64 (x : Int)] w fun e w' => e = .returned (.int .i64 19) ∧ w' = w := by
  obtain ⟨c1, _⟩ := hA.headR
  have ca := hA.cellA x hx
  have hlt : (x : Int) < s.r := by omega
  have hle : ¬ (s.r : Int) ≤ x := by omega
  have hp : (0 : Int) < s.A x := by omega
  clear hg
  go_enter Try.func60, Try.ntmps60
  go_wp2_with fail
  go_ret
  exact ⟨rfl, rfl⟩
set_option maxHeartbeats 400000 in
theorem rremove_last (hA : AnAt hdR base w b v s) (x : Nat) (hx : Works s x) (h1 : s.n = 1) :
    Calls Try.prog 60 #[.pointer (some ⟨b.p, 0, none⟩), .int .i64 (x : Int)] w fun e w' => e = .returned (.int .i64 15) ∧ w' = w := by
  obtain ⟨c1, _, _, _, _, c0⟩ := hA.headR
  rw [h1] at c0
  have ca := hA.cellA x hx.1
  rw [hx.2] at ca
  have hlt : (x : Int) < s.r := by have := hx.1; omega
  have hle : ¬ (s.r : Int) ≤ x := by omega
  clear h1
  go_enter Try.func60, Try.ntmps60
  go_wp2_with fail
  go_ret
  exact ⟨rfl, rfl⟩
set_option maxRecDepth 100000 in
set_option maxHeartbeats 2000000 in
theorem rremove_ok (hA : AnAt hdR base w b v s) (wf : WF s) (hr : s.r ≤ 65536) (x : Nat) (hx : Works s x) (h2 : 2 ≤ s.n) (hS : s.S.length ≤ 65536) :
    Calls Try.prog 60 #[.pointer (some ⟨b.p, 0, none⟩), .int .i64 (x : Int)] w fun e w' => e = .returned (.int .i64 0) ∧ ∃ v', AnAt hdR base w' b v' (remove s x) ∧ Went w w' b v v' := by
  obtain ⟨i0, hi, hz0, hz1, hz2⟩ := info_parts info_int
  obtain ⟨m, hm⟩ : ∃ m, s.n = m + 1 := ⟨s.n - 1, by omega⟩
  obtain ⟨c1, _, _, _, c5, c0⟩ := hA.headR
  rw [hm] at c0
  have ca := hA.cellA x hx.1
  rw [hx.2] at ca
  have hlt : (x : Int) < s.r := by have := hx.1; omega
  have hle : ¬ (s.r : Int) ≤ x := by omega
  have hm1 : ¬ m = 0 := by omega
  have hbase : base ≤ w.heap.size := by have := hA.lt b.p (List.mem_append_left _ (by simp [Bk.five])); omega
  have HA : Shut (AnAt hdR base w b v s) := ⟨hA⟩
  have HS : Shut (s.S.length ≤ 65536) := ⟨hS⟩
  have HR : Shut (s.r ≤ 65536) := ⟨hr⟩
  have HM : Shut (s.n = m + 1) := ⟨hm⟩
  have H2 : Shut (2 ≤ s.n) := ⟨h2⟩
  have hown := hA.st
  clear hS hr hm h2 hA
  go_enter Try.func60, Try.ntmps60
  go_wp2_with (at_builtin; refine wpList_append_own_at _ rfl _ _ 44 rfl base 3 i0 (.int .i64 0) 1 8 Try.underlying44 hi hz0 hz1 hz2 rfl (by decide) _ _ _ rfl (hown.alloc _) ⟨w.heap.size, 0, none⟩ 1 1 [.int .i64 (x : Int)] rfl rfl cell_one ?c2 ?c3 ?c4 ?c5 ?_)
  case c2 => rfl
  case c3 => have := HS.out; unfold maxLen; omega
  case c4 => have := HS.out; omega
  case c5 => omega
  intro v' w1 hown' hgrow _ hor
  obtain ⟨g, cap, rfl⟩ := own_succ hown'
  obtain ⟨v', hv'⟩ : ∃ v', Value.slice (some ⟨g, 0, none⟩) (s.S.length + 1) cap = v' := ⟨_, rfl⟩
  rw [hv'] at hown' hor
  have hB0 : Below w.heap.size w (w.alloc (.cells #[.int .i64 (x : Int)] 3)) := (Below.refl _ _).alloc (Nat.le_refl _) _
  have hA0 := HA.out.on hB0
  have hor' : v'.ownBlock = v.ownBlock ∨ v'.ownBlock = some (w.alloc (.cells #[.int .i64 (x : Int)] 3)).heap.size := by rw [World.size_alloc]; exact hor
  have hr1 := hA0.head_grown hgrow
  have d0 : w1.cell? ⟨b.p, 5, none⟩ = some (.int .i64 ((m + 1 : Nat) : Int)) := by rw [← HM.out]; exact hr1.cell 5 _ rfl
  have d5 : w1.cell? ⟨b.p, 4, none⟩ = some v := hr1.cell 4 _ rfl
  have g0 := hr1.free 5
  have g5 := hr1.free 4
  have hA1 := hA0.setS hgrow (S := x :: s.S) 4 rfl (by rw [stk_cons]; exact hown') hor'
  have HA2 : Shut _ := ⟨hA1.setNR m⟩
  have HW2 : Shut _ := ⟨((Went.push (b := b) hB0 hgrow hor').cell b.mp 4 v').cell b.mp 5 (.int .i64 (m : Int))⟩
  have hM1 : (m : Int) ≤ 1000000 := by have := HR.out; have := HM.out; have := wf.nr; omega
  clear hB0 hA0 hor hor' hr1 hA1 hgrow hown' hown c0 c1 c5 ca HA
  subst hv'
  go_wp2_with fail
  obtain ⟨V, hV⟩ : ∃ V, (w1.setCell ⟨b.p, 4, none⟩ (.slice (some ⟨g, 0, none⟩) (s.S.length + 1) cap)).setCell ⟨b.p, 5, none⟩ (.int .i64 (m : Int)) = V := ⟨_, rfl⟩
  rw [hV] at HA2 HW2 ⊢
  clear hV d0 d5 g0 g5
  have c0 : V.cell? ⟨b.p, 5, none⟩ = some (.int .i64 (m : Int)) := HA2.out.headR.2.2.2.2.2
  have c1 : V.cell? ⟨b.p, 0, none⟩ = some (.slice (some ⟨b.a, 0, none⟩) s.r b.ca) := HA2.out.headR.1
  have ca : V.cell? ⟨b.a, x, none⟩ = some (.int .i64 (s.A x : Int)) := HA2.out.cellA x hx.1
  have ga := HA2.out.la.free x
  go_region
  have HA3 : Shut (AnAt hdR base (V.setCell ⟨b.a, x, none⟩ (.int .i64 (m : Int))).drew b _ { s with n := m, S := x :: s.S, A := upd s.A x m }) := ⟨(HA2.out.setA x m hx.1 rfl).drew⟩
  have HW3 : Shut _ := ⟨(HW2.out.cell b.ma x (.int .i64 (m : Int))).drew⟩
  generalize (V.setCell ⟨b.a, x, none⟩ (.int .i64 (m : Int))).drew = V3 at *
  clear c0 c1 ca ga HA2 HW2
  have c0 : V3.cell? ⟨b.p, 5, none⟩ = some (.int .i64 (m : Int)) := HA3.out.headR.2.2.2.2.2
  have c2 : V3.cell? ⟨b.p, 1, none⟩ = some (.slice (some ⟨b.o, 0, none⟩) s.r b.co) := HA3.out.headR.2.1
  have hmr : m < s.r := by have := wf.nr; have := HM.out; omega
  have hmr1 : (m : Int) < s.r := by omega
  have cw : V3.cell? ⟨b.o, m, none⟩ = some (.int .i64 (s.W m : Int)) := HA3.out.cellW m hmr
  have HY : Shut (s.W m < s.r) := ⟨(wf.wl m (by have := HM.out; omega)).1.1⟩
  have HL : Shut (s.L x < s.r) := ⟨by have := (wf.lw x hx).1; have := wf.nr; omega⟩
  obtain ⟨y, hy⟩ : ∃ y, s.W m = y := ⟨_, rfl⟩
  obtain ⟨p, hp⟩ : ∃ p, s.L x = p := ⟨_, rfl⟩
  rw [hy] at cw HY
  rw [hp] at HL
  have HYE : Shut (s.W m = y) := ⟨hy⟩
  have HPE : Shut (s.L x = p) := ⟨hp⟩
  clear hy hp hmr
  go_wp2_with fail
  go_region
  have HA4 := HA3.out.drew
  have HW4 := HW3.out.drew
  clear HA3 HW3 c0 c2 cw hmr1
  generalize V3.drew = V4 at *
  have c2 : V4.cell? ⟨b.p, 1, none⟩ = some (.slice (some ⟨b.o, 0, none⟩) s.r b.co) := HA4.headR.2.1
  have c3 : V4.cell? ⟨b.p, 2, none⟩ = some (.slice (some ⟨b.l, 0, none⟩) s.r b.cl) := HA4.headR.2.2.1
  have cl : V4.cell? ⟨b.l, x, none⟩ = some (.int .i64 (p : Int)) := by rw [← HPE.out]; exact HA4.cellL x hx.1
  have co : V4.cell? ⟨b.o, p, none⟩ = some (.int .i64 (s.W p : Int)) := HA4.cellW p HL.out
  have go : V4.frozen? ⟨b.o, p, none⟩ = false := HA4.lo.free p
  have hp1 : (p : Int) < s.r := by have := HL.out; omega
  have HA5 : Shut _ := ⟨HA4⟩
  have HW5 : Shut _ := ⟨HW4⟩
  clear HA4 HW4
  go_wp2_with fail
  go_region
  have HA8 : Shut (AnAt hdR base (V4.setCell ⟨b.o, p, none⟩ (.int .i64 (y : Int))).drew b _ { s with n := m, S := x :: s.S, A := upd s.A x m, W := upd s.W p y }) := ⟨(HA5.out.setW p y HL.out rfl).drew⟩
  have HW8 : Shut _ := ⟨(HW5.out.cell b.mo p (.int .i64 (y : Int))).drew⟩
  generalize (V4.setCell ⟨b.o, p, none⟩ (.int .i64 (y : Int))).drew = V5 at *
  clear c2 c3 cl co go hp1 HA5 HW5
  have c4 : V5.cell? ⟨b.p, 3, none⟩ = some (.slice (some ⟨b.k, 0, none⟩) s.r b.ck) := HA8.out.headR.2.2.2.1
  have ck : V5.cell? ⟨b.k, x, none⟩ = some (.int .i64 (s.K x : Int)) := HA8.out.cellK x hx.1
  have gk : V5.frozen? ⟨b.k, x, none⟩ = false := HA8.out.lk.free x
  have HA6 : Shut (AnAt hdR base (V5.setCell ⟨b.k, x, none⟩ (.int .i64 (y : Int))) b _ { s with n := m, S := x :: s.S, A := upd s.A x m, W := upd s.W p y, K := upd s.K x y }) := ⟨HA8.out.setK x y hx.1 rfl⟩
  have HW6 : Shut _ := ⟨HW8.out.cell b.mk' x (.int .i64 (y : Int))⟩
  clear HA8 HW8
  go_wp2_with fail
  generalize V5.setCell ⟨b.k, x, none⟩ (.int .i64 (y : Int)) = V6 at *
  clear c4 ck gk
  have c3 : V6.cell? ⟨b.p, 2, none⟩ = some (.slice (some ⟨b.l, 0, none⟩) s.r b.cl) := HA6.out.headR.2.2.1
  have cl : V6.cell? ⟨b.l, x, none⟩ = some (.int .i64 (p : Int)) := by rw [← HPE.out]; exact HA6.out.cellL x hx.1
  have cy : V6.cell? ⟨b.l, y, none⟩ = some (.int .i64 (s.L y : Int)) := HA6.out.cellL y HY.out
  have gy : V6.frozen? ⟨b.l, y, none⟩ = false := HA6.out.ll.free y
  have hy1 : (y : Int) < s.r := by have := HY.out; omega
  go_wp2_with fail
  go_region
  have HA7 : Shut (AnAt hdR base (V6.setCell ⟨b.l, y, none⟩ (.int .i64 (p : Int))).drew b _ (remove s x)) := ⟨by
    have h := (HA6.out.setL y p HY.out rfl).drew
    have e : s.n - 1 = m := by have := HM.out; omega
    unfold remove
    rw [e, HYE.out, HPE.out]
    exact h⟩
  have HW7 : Shut _ := ⟨(HW6.out.cell b.ml y (.int .i64 (p : Int))).drew⟩
  generalize (V6.setCell ⟨b.l, y, none⟩ (.int .i64 (p : Int))).drew = V7 at *
  clear c3 cl cy gy hy1 HA6 HW6
  go_wp2_with fail
  go_ret
  exact ⟨rfl, _, HA7.out, HW7.out⟩
end
end Go.Proofs.Ytckkdgifjgkoaaa
