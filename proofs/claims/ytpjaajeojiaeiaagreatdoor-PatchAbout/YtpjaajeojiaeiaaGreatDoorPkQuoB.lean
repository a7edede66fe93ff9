/- What quoted of package packet computes. -/
import Derived.Test.YtpjaajeojiaeiaaGreatDoorPkQuo
namespace Go.Proofs.YtpjaajeojiaeiaaGreatDoor
open Go.ChangeShapes Go.WideShapes Go.ChangeAt Go.RowKit

/-- The region that reads the first byte and the protocol into two new variables, whichever is made first. -/
structure QI (N : Nat) (W0 : World) (g0 g9 : Int) (come : Nat → Prop) (b : Act) (u : World) : Prop where
 size : b.tmps.size = 50
 bel : Below N W0 u
 x : come 4 → ∃ x, b.tmps.getD 6 undef = .pointer (some ⟨x, 0, none⟩) ∧ N ≤ x ∧ ((¬ come 6 ∧ Row u x [.int .i64 0]) ∨ (come 6 ∧ Row u x [.int .i64 g0]))
 y : come 5 → ∃ y, b.tmps.getD 7 undef = .pointer (some ⟨y, 0, none⟩) ∧ N ≤ y ∧ ((¬ come 7 ∧ Row u y [.int .i64 0]) ∨ (come 7 ∧ Row u y [.int .i64 g9]))
 ne : come 4 → come 5 → b.tmps.getD 6 undef ≠ b.tmps.getD 7 undef
theorem QI.quiet {N : Nat} {W0 : World} {g0 g9 : Int} {come : Nat → Prop} {b : Act} {u : World} (h : QI N W0 g0 g9 come b u) (i : Nat) (d : Option Tmp) (v : Value) (h4 : i ≠ 4) (h5 : i ≠ 5) (h6 : i ≠ 6) (h7 : i ≠ 7) (d6 : d ≠ some 6) (d7 : d ≠ some 7) :
  QI N W0 g0 g9 (fun j => j = i ∨ come j) (b.put d v) u := by
 have e6 : (b.put d v).tmps.getD 6 undef = b.tmps.getD 6 undef := getD_put_other _ _ _ _ d6
 have e7 : (b.put d v).tmps.getD 7 undef = b.tmps.getD 7 undef := getD_put_other _ _ _ _ d7
 refine ⟨(size_put _ _ _).trans h.size, h.bel, fun hc => ?_, fun hc => ?_, fun hc hc' => ?_⟩
 ·obtain ⟨x, hx, hN, hr⟩ := h.x (hc.resolve_left h4.symm)
  refine ⟨x, e6.trans hx, hN, ?_⟩
  simpa [h6.symm] using hr
 ·obtain ⟨y, hy, hN, hr⟩ := h.y (hc.resolve_left h5.symm)
  refine ⟨y, e7.trans hy, hN, ?_⟩
  simpa [h7.symm] using hr
 ·rw [e6, e7]
  exact h.ne (hc.resolve_left h4.symm) (hc'.resolve_left h5.symm)
theorem QI.alloc4 {N : Nat} {W0 : World} {g0 g9 : Int} {come : Nat → Prop} {b : Act} {u : World} (h : QI N W0 g0 g9 come b u) (h6 : ¬ come 6) (hN : N ≤ W0.heap.size) (t : TypeId) :
  QI N W0 g0 g9 (fun j => j = 4 ∨ come j) (b.put (some 6) (.pointer (some ⟨u.heap.size, 0, none⟩))) (u.alloc (.cells #[.int .i64 0] t)) := by
 have hNu := Nat.le_trans hN h.bel.size
 have e6 : (b.put (some 6) (.pointer (some ⟨u.heap.size, 0, none⟩))).tmps.getD 6 undef = .pointer (some ⟨u.heap.size, 0, none⟩) := getD_put_same _ _ _ (by rw [h.size]; decide)
 have e7 : (b.put (some 6) (.pointer (some ⟨u.heap.size, 0, none⟩))).tmps.getD 7 undef = b.tmps.getD 7 undef := getD_put_other _ _ _ _ (by decide)
 refine ⟨(size_put _ _ _).trans h.size, h.bel.alloc hNu _, fun _ => ⟨_, e6, hNu, .inl ⟨by simpa using h6, row_new u [.int .i64 0] t⟩⟩, fun hc => ?_, fun _ hc => ?_⟩
 ·obtain ⟨y, hy, hY, hr⟩ := h.y (hc.resolve_left (by decide))
  refine ⟨y, e7.trans hy, hY, ?_⟩
  rcases hr with ⟨h1, h2⟩ | ⟨h1, h2⟩
  ·exact .inl ⟨by simpa using h1, h2.on' (alloc_on _ _)⟩
  ·exact .inr ⟨.inr h1, h2.on' (alloc_on _ _)⟩
 ·obtain ⟨y, hy, hY, hr⟩ := h.y (hc.resolve_left (by decide))
  rw [e6, e7, hy]
  have : y < u.heap.size := by rcases hr with ⟨_, h2⟩ | ⟨_, h2⟩ <;> exact h2.lt
  intro e; injection e with e; injection e with e; injection e with e; omega
theorem QI.alloc5 {N : Nat} {W0 : World} {g0 g9 : Int} {come : Nat → Prop} {b : Act} {u : World} (h : QI N W0 g0 g9 come b u) (h7 : ¬ come 7) (hN : N ≤ W0.heap.size) (t : TypeId) :
  QI N W0 g0 g9 (fun j => j = 5 ∨ come j) (b.put (some 7) (.pointer (some ⟨u.heap.size, 0, none⟩))) (u.alloc (.cells #[.int .i64 0] t)) := by
 have hNu := Nat.le_trans hN h.bel.size
 have e7 : (b.put (some 7) (.pointer (some ⟨u.heap.size, 0, none⟩))).tmps.getD 7 undef = .pointer (some ⟨u.heap.size, 0, none⟩) := getD_put_same _ _ _ (by rw [h.size]; decide)
 have e6 : (b.put (some 7) (.pointer (some ⟨u.heap.size, 0, none⟩))).tmps.getD 6 undef = b.tmps.getD 6 undef := getD_put_other _ _ _ _ (by decide)
 refine ⟨(size_put _ _ _).trans h.size, h.bel.alloc hNu _, fun hc => ?_, fun _ => ⟨_, e7, hNu, .inl ⟨by simpa using h7, row_new u [.int .i64 0] t⟩⟩, fun hc _ => ?_⟩
 ·obtain ⟨y, hy, hY, hr⟩ := h.x (hc.resolve_left (by decide))
  refine ⟨y, e6.trans hy, hY, ?_⟩
  rcases hr with ⟨h1, h2⟩ | ⟨h1, h2⟩
  ·exact .inl ⟨by simpa using h1, h2.on' (alloc_on _ _)⟩
  ·exact .inr ⟨.inr h1, h2.on' (alloc_on _ _)⟩
 ·obtain ⟨y, hy, hY, hr⟩ := h.x (hc.resolve_left (by decide))
  rw [e6, e7, hy]
  have : y < u.heap.size := by rcases hr with ⟨_, h2⟩ | ⟨_, h2⟩ <;> exact h2.lt
  intro e; injection e with e; injection e with e; injection e with e; omega
theorem QI.store6 {N : Nat} {W0 : World} {g0 g9 : Int} {come : Nat → Prop} {b : Act} {u : World} (h : QI N W0 g0 g9 come b u) (c4 : come 4) (c5 : come 5) :
  ∃ x, b.tmps.getD 6 undef = .pointer (some ⟨x, 0, none⟩) ∧ (∃ v, Row u x [v]) ∧ QI N W0 g0 g9 (fun j => j = 6 ∨ come j) (b.put none undef) (u.setCell ⟨x, 0, none⟩ (.int .i64 g0)) := by
 obtain ⟨x, hx, hX, hr⟩ := h.x c4
 obtain ⟨y, hy, hY, hs⟩ := h.y c5
 have hxy : y ≠ x := fun e => h.ne c4 c5 (by rw [hx, hy, e])
 have hrow : ∃ v, Row u x [v] := by rcases hr with ⟨_, h2⟩ | ⟨_, h2⟩ <;> exact ⟨_, h2⟩
 refine ⟨x, hx, hrow, h.size, h.bel.setCell (p := ⟨x, 0, none⟩) hX _, fun _ => ⟨x, hx, hX, .inr ⟨.inl rfl, ?_⟩⟩, fun _ => ⟨y, hy, hY, ?_⟩, fun _ _ => h.ne c4 c5⟩
 ·obtain ⟨v, hv⟩ := hrow
  exact hv.set 0 _
 ·rcases hs with ⟨h1, h2⟩ | ⟨h1, h2⟩
  ·exact .inl ⟨by simpa using h1, h2.other hxy _ _⟩
  ·exact .inr ⟨.inr h1, h2.other hxy _ _⟩
theorem QI.store7 {N : Nat} {W0 : World} {g0 g9 : Int} {come : Nat → Prop} {b : Act} {u : World} (h : QI N W0 g0 g9 come b u) (c4 : come 4) (c5 : come 5) :
  ∃ y, b.tmps.getD 7 undef = .pointer (some ⟨y, 0, none⟩) ∧ (∃ v, Row u y [v]) ∧ QI N W0 g0 g9 (fun j => j = 7 ∨ come j) (b.put none undef) (u.setCell ⟨y, 0, none⟩ (.int .i64 g9)) := by
 obtain ⟨x, hx, hX, hr⟩ := h.x c4
 obtain ⟨y, hy, hY, hs⟩ := h.y c5
 have hxy : x ≠ y := fun e => h.ne c4 c5 (by rw [hx, hy, e])
 have hrow : ∃ v, Row u y [v] := by rcases hs with ⟨_, h2⟩ | ⟨_, h2⟩ <;> exact ⟨_, h2⟩
 refine ⟨y, hy, hrow, h.size, h.bel.setCell (p := ⟨y, 0, none⟩) hY _, fun _ => ⟨x, hx, hX, ?_⟩, fun _ => ⟨y, hy, hY, .inr ⟨.inl rfl, ?_⟩⟩, fun _ _ => h.ne c4 c5⟩
 ·rcases hr with ⟨h1, h2⟩ | ⟨h1, h2⟩
  ·exact .inl ⟨by simpa using h1, h2.other hxy _ _⟩
  ·exact .inr ⟨.inr h1, h2.other hxy _ _⟩
 ·obtain ⟨v, hv⟩ := hrow
  exact hv.set 0 _
/-- What came up in each slot. -/
def QF (G : Value) (g0 g9 : Int) (i : Nat) (v : Value) (_ : World) : Prop := (i = 0 → v = G) ∧ (i = 2 → v = G) ∧ (i = 1 → v = .int .i64 g0) ∧ (i = 3 → v = .int .i64 g9)

theorem list8 {α : Type} {l : List α} (h : l.length = 8) : ∃ c0 c1 c2 c3 c4 c5 c6 c7, l = [c0, c1, c2, c3, c4, c5, c6, c7] := by
 match l, h with
 | [c0, c1, c2, c3, c4, c5, c6, c7], _ => exact ⟨c0, c1, c2, c3, c4, c5, c6, c7, rfl⟩

theorem qE_first (q : ByteArray) : firstL [if decide ((q.size : Int) < 20) = true then 2 else 0, if qB3 q = true then 3 else 0, if qB4 q = true then 4 else 0, if qB5 q = true then 8 else 0, if qB6 q = true then 9 else 0, if qB7 q = true then 2 else 0] = qE q := by
 unfold qE
 generalize decide ((q.size : Int) < 20) = a
 cases a <;> cases qB3 q <;> cases qB4 q <;> cases qB5 q <;> cases qB6 q <;> cases qB7 q <;> rfl
theorem qE_yes {q : ByteArray} (h : qE q = 0) : qT q = ⟨got q 9 1, got q 12 4, got q 16 4, got q (qSize q) 2, got q (qSize q + 2) 2⟩ ∧ qN q = qSize q := ⟨if_pos h, if_pos h⟩
theorem qE_no {q : ByteArray} (h : ¬ qE q = 0) : qT q = zeroTp ∧ qN q = 0 := ⟨if_neg h, if_neg h⟩
theorem ret_q {a b : Tp} {x y i j : Int} (h1 : a = b) (h2 : x = y) (h3 : i = j) : Ending.returned (.tuple #[a.val, .int .i64 x, .int .i64 i]) = .returned (.tuple #[b.val, .int .i64 y, .int .i64 j]) := by rw [h1, h2, h3]
theorem rows4 (w : World) (l0 l1 l2 l3 : List Value) (t0 t1 t2 t3 : TypeId) (W : World) (hW : (((w.alloc (.cells l0.toArray t0)).alloc (.cells l1.toArray t1)).alloc (.cells l2.toArray t2)).alloc (.cells l3.toArray t3) = W) :
  Row W w.heap.size l0 ∧ Row W (w.heap.size + 1) l1 ∧ Row W (w.heap.size + 1 + 1) l2 ∧ Row W (w.heap.size + 1 + 1 + 1) l3 ∧ Below w.heap.size w W ∧ W.heap.size = w.heap.size + 1 + 1 + 1 + 1 := by
 subst hW
 have s1 : (w.alloc (.cells l0.toArray t0)).heap.size = w.heap.size + 1 := by simp
 have s2 : ((w.alloc (.cells l0.toArray t0)).alloc (.cells l1.toArray t1)).heap.size = w.heap.size + 1 + 1 := by simp
 have s3 : (((w.alloc (.cells l0.toArray t0)).alloc (.cells l1.toArray t1)).alloc (.cells l2.toArray t2)).heap.size = w.heap.size + 1 + 1 + 1 := by simp
 refine ⟨(((row_new w l0 t0).on' (alloc_on _ _)).on' (alloc_on _ _)).on' (alloc_on _ _), ?_, ?_, ?_, Below.then (Below.then (Below.then (alloc_on _ _) (alloc_on _ _)) (alloc_on _ _)) (alloc_on _ _), by simp⟩
 ·have := ((row_new (w.alloc (.cells l0.toArray t0)) l1 t1).on' (alloc_on _ (.cells l2.toArray t2))).on' (alloc_on _ (.cells l3.toArray t3))
  rw [s1] at this; exact this
 ·have := (row_new ((w.alloc (.cells l0.toArray t0)).alloc (.cells l1.toArray t1)) l2 t2).on' (alloc_on _ (.cells l3.toArray t3))
  rw [s2] at this; exact this
 ·have := row_new (((w.alloc (.cells l0.toArray t0)).alloc (.cells l1.toArray t1)).alloc (.cells l2.toArray t2)) l3 t3
  rw [s3] at this; exact this

set_option maxRecDepth 100000 in
set_option maxHeartbeats 4000000 in
theorem quoted_any (q : ByteArray) (w : World) (hq : q.size ≤ 281474976710656) :
  Calls Tryz.prog 116 #[.string q] w fun e w' => e = .returned (.tuple #[(qT q).val, .int .i64 (qN q), .int .i64 (qE q)]) ∧ Below w.heap.size w w' := by
 have hql : q.size ≤ maxLen := by unfold maxLen; omega
 go_enter Tryz.func116, Tryz.ntmps116
 go_wp2_with fail
 generalize hW : (((w.alloc (.cells #[.string q] 9)).alloc (.cells #[.int .i64 0, .int .u32 0, .int .u32 0, .int .i64 0, .int .i64 0] 43)).alloc (.cells #[.int .i64 0] 3)).alloc (.cells #[(.func (.func 142) #[] #[.pointer (some ⟨w.heap.size, 0, none⟩)])] 183) = W0 at *
 obtain ⟨r0, r1, r2, r3, hb0, hz0⟩ := rows4 w [.string q] [.int .i64 0, .int .u32 0, .int .u32 0, .int .i64 0, .int .i64 0] [.int .i64 0] [(.func (.func 142) #[] #[.pointer (some ⟨w.heap.size, 0, none⟩)])] _ _ _ _ W0 hW
 clear hW
 refine wp_region_invx (by kernel_rfl) (QF (.func (.func 142) #[] #[.pointer (some ⟨w.heap.size, 0, none⟩)]) (got q 0 1) (got q 9 1)) (QI W0.heap.size W0.drew (got q 0 1) (got q 9 1)) (by kernel_rfl) ⟨rfl, Below.refl _ _, fun h => h.elim, fun h => h.elim, fun h => h.elim⟩ ?op ?fin
 case op =>
  intro i o b u come ho hn hC hr hI hold hnew
  have e0 : Row u w.heap.size [.string q] := (r0.of_block (W' := W0.drew) rfl).on hI.bel (by omega)
  have e3 : Row u (w.heap.size + 1 + 1 + 1) [(.func (.func 142) #[] #[.pointer (some ⟨w.heap.size, 0, none⟩)])] := (r3.of_block (W' := W0.drew) rfl).on hI.bel (by omega)
  match i, ho with
  | 0, ho =>
   obtain rfl := Option.some.inj ho
   have d5 : b.tmps.getD 5 undef = .pointer (some ⟨w.heap.size + 1 + 1 + 1, 0, none⟩) := hold 5 (base_of (by kernel_rfl))
   have hl := e3.cell 0 _ rfl
   refine .inl ⟨rfl, yieldsY_value (v := (.func (.func 142) #[] #[.pointer (some ⟨w.heap.size, 0, none⟩)])) (u' := u) ?_ ⟨hI.quiet 0 _ _ (by decide) (by decide) (by decide) (by decide) (by decide) (by decide), ⟨fun _ => rfl, fun h => absurd h (by decide), fun h => absurd h (by decide), fun h => absurd h (by decide)⟩, fun _ _ _ h => h⟩⟩
   simp [Act.eval, d5, go_sem, hl]
  | 1, ho =>
   obtain rfl := Option.some.inj ho
   have d9 : b.tmps.getD 9 undef = (.func (.func 142) #[] #[.pointer (some ⟨w.heap.size, 0, none⟩)]) := (hnew 0 9 (hr 0 (by kernel_rfl)) (by kernel_rfl)).1 rfl
   refine .inl ⟨rfl, yieldsY_call (f := 142) (args := #[.int .i64 0, .int .i64 1, .pointer (some ⟨w.heap.size, 0, none⟩)]) (K := fun v u' => v = .int .i64 (got q 0 1) ∧ u' = u) ?_ ((q1_any w.heap.size q 0 1 u hql e0).mono fun e u' ⟨he, hu⟩ => ⟨_, he, rfl, hu⟩) fun v u' ⟨hv, hu⟩ => by subst hv hu; exact ⟨hI.quiet 1 _ _ (by decide) (by decide) (by decide) (by decide) (by decide) (by decide), ⟨fun h => absurd h (by decide), fun h => absurd h (by decide), fun _ => rfl, fun h => absurd h (by decide)⟩, fun _ _ _ h => h⟩⟩
   simp [Act.eval, d9, go_sem]
  | 2, ho =>
   obtain rfl := Option.some.inj ho
   have d5 : b.tmps.getD 5 undef = .pointer (some ⟨w.heap.size + 1 + 1 + 1, 0, none⟩) := hold 5 (base_of (by kernel_rfl))
   have hl := e3.cell 0 _ rfl
   refine .inl ⟨rfl, yieldsY_value (v := (.func (.func 142) #[] #[.pointer (some ⟨w.heap.size, 0, none⟩)])) (u' := u) ?_ ⟨hI.quiet 2 _ _ (by decide) (by decide) (by decide) (by decide) (by decide) (by decide), ⟨fun h => absurd h (by decide), fun _ => rfl, fun h => absurd h (by decide), fun h => absurd h (by decide)⟩, fun _ _ _ h => h⟩⟩
   simp [Act.eval, d5, go_sem, hl]
  | 3, ho =>
   obtain rfl := Option.some.inj ho
   have d11 : b.tmps.getD 11 undef = (.func (.func 142) #[] #[.pointer (some ⟨w.heap.size, 0, none⟩)]) := (hnew 2 11 (hr 2 (by kernel_rfl)) (by kernel_rfl)).2.1 rfl
   refine .inl ⟨rfl, yieldsY_call (f := 142) (args := #[.int .i64 9, .int .i64 1, .pointer (some ⟨w.heap.size, 0, none⟩)]) (K := fun v u' => v = .int .i64 (got q 9 1) ∧ u' = u) ?_ ((q1_any w.heap.size q 9 1 u hql e0).mono fun e u' ⟨he, hu⟩ => ⟨_, he, rfl, hu⟩) fun v u' ⟨hv, hu⟩ => by subst hv hu; exact ⟨hI.quiet 3 _ _ (by decide) (by decide) (by decide) (by decide) (by decide) (by decide), ⟨fun h => absurd h (by decide), fun h => absurd h (by decide), fun h => absurd h (by decide), fun _ => rfl⟩, fun _ _ _ h => h⟩⟩
   simp [Act.eval, d11, go_sem]
  | 4, ho =>
   obtain rfl := Option.some.inj ho
   refine .inl ⟨rfl, yieldsY_value (v := .pointer (some ⟨u.heap.size, 0, none⟩)) (u' := u.alloc (.cells #[.int .i64 0] 3)) ?_ ⟨hI.alloc4 (not_yet hC (by kernel_rfl) hn) (Nat.le_refl _) _, ⟨fun h => absurd h (by decide), fun h => absurd h (by decide), fun h => absurd h (by decide), fun h => absurd h (by decide)⟩, fun _ _ _ h => h⟩⟩
   simp [go_sem]
  | 5, ho =>
   obtain rfl := Option.some.inj ho
   refine .inl ⟨rfl, yieldsY_value (v := .pointer (some ⟨u.heap.size, 0, none⟩)) (u' := u.alloc (.cells #[.int .i64 0] 3)) ?_ ⟨hI.alloc5 (not_yet hC (by kernel_rfl) hn) (Nat.le_refl _) _, ⟨fun h => absurd h (by decide), fun h => absurd h (by decide), fun h => absurd h (by decide), fun h => absurd h (by decide)⟩, fun _ _ _ h => h⟩⟩
   simp [go_sem]
  | 6, ho =>
   obtain rfl := Option.some.inj ho
   obtain ⟨x, hx, ⟨v, hv⟩, hI'⟩ := hI.store6 (hr 4 (by kernel_rfl)) (hr 5 (by kernel_rfl))
   have d10 : b.tmps.getD 10 undef = .int .i64 (got q 0 1) := (hnew 1 10 (hr 1 (by kernel_rfl)) (by kernel_rfl)).2.2.1 rfl
   have cc := hv.cell 0 _ rfl
   have cf := hv.free 0
   refine .inl ⟨rfl, yieldsY_skip (u' := u.setCell ⟨x, 0, none⟩ (.int .i64 (got q 0 1))) ?_ ⟨hI', ⟨fun h => absurd h (by decide), fun h => absurd h (by decide), fun h => absurd h (by decide), fun h => absurd h (by decide)⟩, fun _ _ _ h => h⟩⟩
   simp [Act.eval, hx, d10, go_sem, cc, cf]
  | 7, ho =>
   obtain rfl := Option.some.inj ho
   obtain ⟨x, hx, ⟨v, hv⟩, hI'⟩ := hI.store7 (hr 4 (by kernel_rfl)) (hr 5 (by kernel_rfl))
   have d12 : b.tmps.getD 12 undef = .int .i64 (got q 9 1) := (hnew 3 12 (hr 3 (by kernel_rfl)) (by kernel_rfl)).2.2.2 rfl
   have cc := hv.cell 0 _ rfl
   have cf := hv.free 0
   refine .inl ⟨rfl, yieldsY_skip (u' := u.setCell ⟨x, 0, none⟩ (.int .i64 (got q 9 1))) ?_ ⟨hI', ⟨fun h => absurd h (by decide), fun h => absurd h (by decide), fun h => absurd h (by decide), fun h => absurd h (by decide)⟩, fun _ _ _ h => h⟩⟩
   simp [Act.eval, hx, d12, go_sem, cc, cf]
  | n + 8, ho => exact absurd ho (by simp)
 case fin =>
  intro xs u hlen hI hF
  obtain ⟨x0, x1, x2, x3, x4, x5, x6, x7, rfl⟩ := list8 (l := xs) hlen
  obtain rfl : x0 = (.func (.func 142) #[] #[.pointer (some ⟨w.heap.size, 0, none⟩)]) := (hF 0 9 (by decide) (by kernel_rfl)).1 rfl
  obtain rfl : x2 = (.func (.func 142) #[] #[.pointer (some ⟨w.heap.size, 0, none⟩)]) := (hF 2 11 (by decide) (by kernel_rfl)).2.1 rfl
  obtain rfl : x1 = .int .i64 (got q 0 1) := (hF 1 10 (by decide) (by kernel_rfl)).2.2.1 rfl
  obtain rfl : x3 = .int .i64 (got q 9 1) := (hF 3 12 (by decide) (by kernel_rfl)).2.2.2 rfl
  obtain ⟨x, hx, hX, hrx⟩ := hI.x (by decide)
  obtain ⟨y, hy, hY, hry⟩ := hI.y (by decide)
  replace hrx : Row u x [.int .i64 (got q 0 1)] := by
   rcases hrx with ⟨h, _⟩ | ⟨_, h⟩
   ·exact absurd (by decide) h
   ·exact h
  replace hry : Row u y [.int .i64 (got q 9 1)] := by
   rcases hry with ⟨h, _⟩ | ⟨_, h⟩
   ·exact absurd (by decide) h
   ·exact h
  obtain rfl : x4 = .pointer (some ⟨x, 0, none⟩) := by simpa [putAll, dstAt, Act.put] using hx
  obtain rfl : x5 = .pointer (some ⟨y, 0, none⟩) := by simpa [putAll, dstAt, Act.put] using hy
  have hbu : Below w.heap.size w u := hb0.trans ((show Below W0.heap.size W0 u from ⟨hI.bel.os, hI.bel.tape, hI.bel.output, hI.bel.size, hI.bel.block⟩).mono (by omega))
  have e0 : Row u w.heap.size [.string q] := (r0.of_block (W' := W0.drew) rfl).on hI.bel (by omega)
  have e1 : Row u (w.heap.size + 1) zeroTp.cells := (r1.of_block (W' := W0.drew) rfl).on hI.bel (by omega)
  have e2 : Row u (w.heap.size + 1 + 1) [.int .i64 0] := (r2.of_block (W' := W0.drew) rfl).on hI.bel (by omega)
  have e3 : Row u (w.heap.size + 1 + 1 + 1) [(.func (.func 142) #[] #[.pointer (some ⟨w.heap.size, 0, none⟩)])] := (r3.of_block (W' := W0.drew) rfl).on hI.bel (by omega)
  have hx2 : x ≠ w.heap.size + 1 + 1 := by omega
  have hy2 : y ≠ w.heap.size + 1 + 1 := by omega
  have hx1 : x ≠ w.heap.size + 1 := by omega
  have hy1 : y ≠ w.heap.size + 1 := by omega
  clear hI hF hlen hx hy r0 r1 r2 r3 hb0 hX hY hz0
  clear W0
  obtain ⟨⟨g0, g1⟩, -⟩ := got_rng q 0
  have k15 : bits .and .i64 (got q 0 1) 15 = got q 0 1 % 16 := bits_mask .i64 40 (by decide) Oct.wraps_i64 4 (by decide) _ g0 (by omega)
  have hsz : Hid (qSize q = got q 0 1 % 16 * 4) := rfl
  have s0 : 0 ≤ qSize q := by unfold qSize; omega
  have s1 : qSize q ≤ 60 := by unfold qSize; omega
  have HU := hide hbu
  have cx := hrx.cell 0 _ rfl
  have c2 := e2.cell 0 _ rfl
  have f2 := e2.free 0
  have HR := hide (And.intro e0 (And.intro e1 (And.intro e2 (And.intro e3 (And.intro hrx hry)))))
  clear e0 e1 e2 e3 hrx hry hbu
  simp [putAll, dstAt, Act.put]
  go_wp2_with fail
  have hZ2 : qSize q = got q 0 1 % 16 * 4 := rfl
  generalize got q 0 1 % 16 * 4 = Z at *
  obtain ⟨U, hU⟩ : ∃ U, u.setCell ⟨w.heap.size + 1 + 1, 0, none⟩ (.int .i64 Z) = U := ⟨_, rfl⟩
  have HUU : Hid ((Row U w.heap.size [.string q] ∧ Row U (w.heap.size + 1) zeroTp.cells ∧ Row U (w.heap.size + 1 + 1) [.int .i64 Z] ∧ Row U (w.heap.size + 1 + 1 + 1) [(.func (.func 142) #[] #[.pointer (some ⟨w.heap.size, 0, none⟩)])] ∧ Row U x [.int .i64 (got q 0 1)] ∧ Row U y [.int .i64 (got q 9 1)]) ∧ Below w.heap.size w U) := by
   obtain ⟨e0, e1, e2, e3, ex, ey⟩ := unhide HR
   rw [← hU]
   exact ⟨⟨e0.other (by omega) _ _, e1.other (by omega) _ _, e2.set 0 _, e3.other (by omega) _ _, ex.other hx2 _ _, ey.other hy2 _ _⟩, (unhide HU).setCell (p := ⟨w.heap.size + 1 + 1, 0, none⟩) (by show w.heap.size ≤ w.heap.size + 1 + 1; omega) _⟩
  rw [hU]
  have HZ := hide hZ2
  clear HR HU cx c2 f2 hU hZ2 k15 hsz
  clear u
  obtain rfl : qSize q = Z := unhide HZ
  clear HZ
  refine (when_any 2 143 #[.pointer (some ⟨w.heap.size, 0, none⟩)] U).mono ?_
  rintro e v1 ⟨rfl, ra1, rb1, bl1, -⟩
  have HW1 := hide (And.intro ra1 (And.intro rb1 bl1))
  clear ra1 rb1 bl1
  go_wp2_with fail
  refine (when_any 3 144 #[.pointer (some ⟨x, 0, none⟩)] v1).mono ?_
  rintro e v2 ⟨rfl, ra2, rb2, bl2, -⟩
  have HW2 := hide (And.intro ra2 (And.intro rb2 bl2))
  clear ra2 rb2 bl2
  go_wp2_with fail
  refine (when_any 4 145 #[.pointer (some ⟨w.heap.size + 1 + 1, 0, none⟩), .pointer (some ⟨w.heap.size, 0, none⟩)] v2).mono ?_
  rintro e v3 ⟨rfl, ra3, rb3, bl3, -⟩
  have HW3 := hide (And.intro ra3 (And.intro rb3 bl3))
  clear ra3 rb3 bl3
  go_wp2_with fail
  refine (when_any 8 146 #[.pointer (some ⟨w.heap.size + 1 + 1 + 1, 0, none⟩)] v3).mono ?_
  rintro e v4 ⟨rfl, ra4, rb4, bl4, -⟩
  have HW4 := hide (And.intro ra4 (And.intro rb4 bl4))
  clear ra4 rb4 bl4
  go_wp2_with fail
  refine (when_any 9 147 #[.pointer (some ⟨y, 0, none⟩)] v4).mono ?_
  rintro e v5 ⟨rfl, ra5, rb5, bl5, -⟩
  have HW5 := hide (And.intro ra5 (And.intro rb5 bl5))
  clear ra5 rb5 bl5
  go_wp2_with fail
  refine (when_any 2 148 #[.pointer (some ⟨w.heap.size, 0, none⟩), .pointer (some ⟨w.heap.size + 1 + 1, 0, none⟩)] v5).mono ?_
  rintro e v6 ⟨rfl, ra6, rb6, bl6, -⟩
  have HW6 := hide (And.intro ra6 (And.intro rb6 bl6))
  clear ra6 rb6 bl6
  go_wp2_with fail
  obtain ⟨V, hV⟩ : ∃ V, v6.alloc (.cells #[.func (.func 70) #[] #[.pointer (some ⟨U.heap.size + 1, 0, none⟩), .pointer (some ⟨U.heap.size, 0, none⟩)], .func (.func 70) #[] #[.pointer (some ⟨v1.heap.size + 1, 0, none⟩), .pointer (some ⟨v1.heap.size, 0, none⟩)], .func (.func 70) #[] #[.pointer (some ⟨v2.heap.size + 1, 0, none⟩), .pointer (some ⟨v2.heap.size, 0, none⟩)], .func (.func 70) #[] #[.pointer (some ⟨v3.heap.size + 1, 0, none⟩), .pointer (some ⟨v3.heap.size, 0, none⟩)], .func (.func 70) #[] #[.pointer (some ⟨v4.heap.size + 1, 0, none⟩), .pointer (some ⟨v4.heap.size, 0, none⟩)], .func (.func 70) #[] #[.pointer (some ⟨v5.heap.size + 1, 0, none⟩), .pointer (some ⟨v5.heap.size, 0, none⟩)]] 82) = V := ⟨_, rfl⟩
  have HL : Row V v6.heap.size [.func (.func 70) #[] #[.pointer (some ⟨U.heap.size + 1, 0, none⟩), .pointer (some ⟨U.heap.size, 0, none⟩)], .func (.func 70) #[] #[.pointer (some ⟨v1.heap.size + 1, 0, none⟩), .pointer (some ⟨v1.heap.size, 0, none⟩)], .func (.func 70) #[] #[.pointer (some ⟨v2.heap.size + 1, 0, none⟩), .pointer (some ⟨v2.heap.size, 0, none⟩)], .func (.func 70) #[] #[.pointer (some ⟨v3.heap.size + 1, 0, none⟩), .pointer (some ⟨v3.heap.size, 0, none⟩)], .func (.func 70) #[] #[.pointer (some ⟨v4.heap.size + 1, 0, none⟩), .pointer (some ⟨v4.heap.size, 0, none⟩)], .func (.func 70) #[] #[.pointer (some ⟨v5.heap.size + 1, 0, none⟩), .pointer (some ⟨v5.heap.size, 0, none⟩)]] := by rw [← hV]; exact row_new v6 _ _
  have n6 : Below v6.heap.size v6 V := by rw [← hV]; exact alloc_on _ _
  obtain ⟨⟨e0, e1, e2, e3, ex, ey⟩, hbU⟩ := unhide HUU
  rw [hV]
  clear hV HUU
  obtain ⟨ra6, rb6, bl6⟩ := unhide HW6
  obtain ⟨ra5, rb5, bl5⟩ := unhide HW5
  obtain ⟨ra4, rb4, bl4⟩ := unhide HW4
  obtain ⟨ra3, rb3, bl3⟩ := unhide HW3
  obtain ⟨ra2, rb2, bl2⟩ := unhide HW2
  obtain ⟨ra1, rb1, bl1⟩ := unhide HW1
  have n5 : Below v5.heap.size v5 V := Below.then bl6 n6
  have n4 : Below v4.heap.size v4 V := Below.then bl5 n5
  have n3 : Below v3.heap.size v3 V := Below.then bl4 n4
  have n2 : Below v2.heap.size v2 V := Below.then bl3 n3
  have n1 : Below v1.heap.size v1 V := Below.then bl2 n2
  have nU : Below U.heap.size U V := Below.then bl1 n1
  replace e0 := e0.on' nU
  replace e1 := e1.on' nU
  replace e2 := e2.on' nU
  replace e3 := e3.on' nU
  replace ex := ex.on' nU
  replace ey := ey.on' nU
  have hbV : Below w.heap.size w V := hbU.trans (nU.mono hbU.size)
  replace ra1 := ra1.on' n1
  replace rb1 := rb1.on' n1
  replace ra2 := ra2.on' n2
  replace rb2 := rb2.on' n2
  replace ra3 := ra3.on' n3
  replace rb3 := rb3.on' n3
  replace ra4 := ra4.on' n4
  replace rb4 := rb4.on' n4
  replace ra5 := ra5.on' n5
  replace rb5 := rb5.on' n5
  replace ra6 := ra6.on' n6
  replace rb6 := rb6.on' n6
  clear bl1 n1 HW1 bl2 n2 HW2 bl3 n3 HW3 bl4 n4 HW4 bl5 n5 HW5 bl6 n6 HW6 nU hbU
  have HF := first_quiet v6.heap.size [if decide ((q.size : Int) < 20) = true then 2 else 0, if qB3 q = true then 3 else 0, if qB4 q = true then 4 else 0, if qB5 q = true then 8 else 0, if qB6 q = true then 9 else 0, if qB7 q = true then 2 else 0] (fun _ => 70) (fun i => ([#[.pointer (some ⟨U.heap.size + 1, 0, none⟩), .pointer (some ⟨U.heap.size, 0, none⟩)], #[.pointer (some ⟨v1.heap.size + 1, 0, none⟩), .pointer (some ⟨v1.heap.size, 0, none⟩)], #[.pointer (some ⟨v2.heap.size + 1, 0, none⟩), .pointer (some ⟨v2.heap.size, 0, none⟩)], #[.pointer (some ⟨v3.heap.size + 1, 0, none⟩), .pointer (some ⟨v3.heap.size, 0, none⟩)], #[.pointer (some ⟨v4.heap.size + 1, 0, none⟩), .pointer (some ⟨v4.heap.size, 0, none⟩)], #[.pointer (some ⟨v5.heap.size + 1, 0, none⟩), .pointer (some ⟨v5.heap.size, 0, none⟩)]] : List (Array Value)).getD i #[]) V (by show (6 : Nat) ≤ 100; decide)
   (fun i hi => by
    match i, hi with
    | 0, _ => exact HL.cell 0 _ rfl
    | 1, _ => exact HL.cell 1 _ rfl
    | 2, _ => exact HL.cell 2 _ rfl
    | 3, _ => exact HL.cell 3 _ rfl
    | 4, _ => exact HL.cell 4 _ rfl
    | 5, _ => exact HL.cell 5 _ rfl
    | n + 6, hi => exact absurd hi (by simp))
   (fun i hi => Tryz.call70)
   (fun i hi W hW => by
    have up : ∀ {b : Nat} {l : List Value}, Row V b l → Row W b l := fun h => h.on' hW
    match i, hi with
    | 0, _ => exact when1_any U.heap.size (U.heap.size + 1) 2 143 #[.pointer (some ⟨w.heap.size, 0, none⟩)] (decide ((q.size : Int) < 20)) W (up rb1) (up ra1) Tryz.call143 (q2_any w.heap.size q W (up e0))
    | 1, _ => exact when1_any v1.heap.size (v1.heap.size + 1) 3 144 #[.pointer (some ⟨x, 0, none⟩)] (qB3 q) W (up rb2) (up ra2) Tryz.call144 (q3_any x (got q 0 1) W (up ex))
    | 2, _ => exact when1_any v2.heap.size (v2.heap.size + 1) 4 145 #[.pointer (some ⟨w.heap.size + 1 + 1, 0, none⟩), .pointer (some ⟨w.heap.size, 0, none⟩)] (qB4 q) W (up rb3) (up ra3) Tryz.call145 (q4_any (w.heap.size + 1 + 1) w.heap.size (qSize q) q W (up e2) (up e0))
    | 3, _ => exact when1_any v3.heap.size (v3.heap.size + 1) 8 146 #[.pointer (some ⟨w.heap.size + 1 + 1 + 1, 0, none⟩)] (qB5 q) W (up rb4) (up ra4) Tryz.call146 (q5_any (w.heap.size + 1 + 1 + 1) w.heap.size q W hql (up e0) (up e3))
    | 4, _ => exact when1_any v4.heap.size (v4.heap.size + 1) 9 147 #[.pointer (some ⟨y, 0, none⟩)] (qB6 q) W (up rb5) (up ra5) Tryz.call147 (q6_any y (got q 9 1) W (up ey))
    | 5, _ => exact when1_any v5.heap.size (v5.heap.size + 1) 2 148 #[.pointer (some ⟨w.heap.size, 0, none⟩), .pointer (some ⟨w.heap.size + 1 + 1, 0, none⟩)] (qB7 q) W (up rb6) (up ra6) Tryz.call148 (q7_any (w.heap.size + 1 + 1) w.heap.size (qSize q) q W hq s0 s1 (up e2) (up e0))
    | n + 6, hi => exact absurd hi (by simp))
  rw [qE_first] at HF
  refine HF.mono ?_
  rintro e W1 ⟨rfl, hbW⟩
  replace e0 := e0.on' hbW
  replace e1 := e1.on' hbW
  replace e2 := e2.on' hbW
  replace e3 := e3.on' hbW
  replace ey := ey.on' hbW
  have HB : Hid (Below w.heap.size w W1) := hbV.trans (hbW.mono hbV.size)
  clear HL HF hbV hbW ex ra1 rb1 ra2 rb2 ra3 rb3 ra4 rb4 ra5 rb5 ra6 rb6
  clear V
  by_cases he : qE q = 0
  ·obtain ⟨HT, HN⟩ := qE_yes he
   have hd : (qE q != 0) = false := by rw [he]; rfl
   have HT := hide HT
   have HN := hide HN
   have HE := hide he
   obtain ⟨-, -, ⟨a0, a1⟩⟩ := got_rng q 12
   obtain ⟨-, -, ⟨b0, b1⟩⟩ := got_rng q 16
   have k12 : IntKind.u32.wrap (got q 12 4) = got q 12 4 := Ck.wraps_u32 _ a0 (by omega)
   have k16 : IntKind.u32.wrap (got q 16 4) = got q 16 4 := Ck.wraps_u32 _ b0 (by omega)
   have c0 := e1.cell 0 _ rfl
   have c1 := e1.cell 1 _ rfl
   have c2 := e1.cell 2 _ rfl
   have c3 := e1.cell 3 _ rfl
   have c4 := e1.cell 4 _ rfl
   have fr := e1.free
   have HC := hide (And.intro c0 (And.intro c1 (And.intro c2 (And.intro c3 (And.intro c4 fr)))))
   have hy9 := ey.cell 0 _ rfl
   have hg := e3.cell 0 _ rfl
   have hs := e2.cell 0 _ rfl
   have D1 : Row W1.drew (w.heap.size + 1) zeroTp.cells := e1
   have D2 : Row W1.drew (w.heap.size + 1 + 1) [.int .i64 (qSize q)] := e2
   have D0 : Row W1.drew w.heap.size [.string q] := e0
   have R1 := (row_all [.int .i64 (got q 9 1), .int .u32 (got q 12 4), .int .u32 (got q 16 4), .int .i64 (got q (qSize q) 2), .int .i64 (got q (qSize q + 2) 2)] D1 rfl).other (b := w.heap.size + 1 + 1) (by omega) 0 (.int .i64 (qSize q))
   have S1 := D2.of_block (W' := setRow W1.drew (w.heap.size + 1) 0 [.int .i64 (got q 9 1), .int .u32 (got q 12 4), .int .u32 (got q 16 4), .int .i64 (got q (qSize q) 2), .int .i64 (got q (qSize q + 2) 2)]) (setRow_heap _ _ (by omega) _ _ _)
   have R2 := S1.set 0 (.int .i64 (qSize q))
   have BB : Below w.heap.size w ((setRow W1.drew (w.heap.size + 1) 0 [.int .i64 (got q 9 1), .int .u32 (got q 12 4), .int .u32 (got q 16 4), .int .i64 (got q (qSize q) 2), .int .i64 (got q (qSize q + 2) 2)]).setCell ⟨w.heap.size + 1 + 1, 0, none⟩ (.int .i64 (qSize q))) := ((((unhide HB)).drew).trans ((setRow_below _ _ _ _).mono (by omega))).setCell (p := ⟨w.heap.size + 1 + 1, 0, none⟩) (by show w.heap.size ≤ w.heap.size + 1 + 1; omega) _
   have HX := hide (And.intro R1 (And.intro R2 (And.intro BB (And.intro S1 D0))))
   have HM := hide (And.intro hy9 (And.intro hg hs))
   clear R1 R2 BB S1 D0 D1 D2 c0 c1 c2 c3 c4 fr e0 e1 e2 e3 ey HB hy9 hg hs
   go_wp2_with fail
   refine wp_region_two (by kernel_rfl) [.int .i64 (got q 9 1), (.func (.func 142) #[] #[.pointer (some ⟨w.heap.size, 0, none⟩)]), .int .i64 (got q 12 4), .int .u32 (got q 12 4), (.func (.func 142) #[] #[.pointer (some ⟨w.heap.size, 0, none⟩)]), .int .i64 (got q 16 4), .int .u32 (got q 16 4), (.func (.func 142) #[] #[.pointer (some ⟨w.heap.size, 0, none⟩)]), .int .i64 (qSize q), .int .i64 (got q (qSize q) 2), (.func (.func 142) #[] #[.pointer (some ⟨w.heap.size, 0, none⟩)]), .int .i64 (qSize q), .int .i64 (qSize q + 2), .int .i64 (got q (qSize q + 2) 2), .agg #[.int .i64 (got q 9 1), .int .u32 (got q 12 4), .int .u32 (got q 16 4), .int .i64 (got q (qSize q) 2), .int .i64 (got q (qSize q + 2) 2)], .int .i64 (qSize q), undef, undef, .int .i64 0] 16 17 (setRow W1.drew (w.heap.size + 1) 0 [.int .i64 (got q 9 1), .int .u32 (got q 12 4), .int .u32 (got q 16 4), .int .i64 (got q (qSize q) 2), .int .i64 (got q (qSize q + 2) 2)]) ((setRow W1.drew (w.heap.size + 1) 0 [.int .i64 (got q 9 1), .int .u32 (got q 12 4), .int .u32 (got q 16 4), .int .i64 (got q (qSize q) 2), .int .i64 (got q (qSize q + 2) 2)]).setCell ⟨w.heap.size + 1 + 1, 0, none⟩ (.int .i64 (qSize q))) (by kernel_rfl) (by decide) (by decide) (by kernel_rfl) rfl rfl ?op ?s1 ?s2 ?fin
   case op =>
    intro i o b u ho h1 h2 hw1 hw2 hS
    obtain ⟨hy9, hg, hs⟩ := unhide HM
    match i, ho with
    | 0, ho =>
     obtain rfl := Option.some.inj ho
     have hu := hw1 (by kernel_rfl)
     subst hu
     have d7 : b.tmps.getD 7 undef = .pointer (some ⟨y, 0, none⟩) := hS.base 7
     have hl := hy9
     refine ⟨rfl, yieldsY_value (v := .int .i64 (got q 9 1)) (u' := W1.drew) ?_ ⟨rfl, rfl⟩⟩
     simp [Act.eval, d7, go_sem, hl]
    | 1, ho =>
     obtain rfl := Option.some.inj ho
     have hu := hw1 (by kernel_rfl)
     subst hu
     have d5 : b.tmps.getD 5 undef = .pointer (some ⟨w.heap.size + 1 + 1 + 1, 0, none⟩) := hS.base 5
     have hl := hg
     refine ⟨rfl, yieldsY_value (v := (.func (.func 142) #[] #[.pointer (some ⟨w.heap.size, 0, none⟩)])) (u' := W1.drew) ?_ ⟨rfl, rfl⟩⟩
     simp [Act.eval, d5, go_sem, hl]
    | 2, ho =>
     obtain rfl := Option.some.inj ho
     have hu := hw1 (by kernel_rfl)
     subst hu
     have d35 : b.tmps.getD 35 undef = (.func (.func 142) #[] #[.pointer (some ⟨w.heap.size, 0, none⟩)]) := hS.dep 1 35
     refine ⟨rfl, yieldsY_call (f := 142) (args := #[.int .i64 12, .int .i64 4, .pointer (some ⟨w.heap.size, 0, none⟩)]) (K := fun v u' => v = .int .i64 (got q 12 4) ∧ u' = W1.drew) ?_ ((q1_any w.heap.size q 12 4 W1.drew hql (unhide HX).2.2.2.2).mono fun e u' ⟨he, hu⟩ => ⟨_, he, rfl, hu⟩) fun v u' h => h⟩
     simp [Act.eval, d35, go_sem]
    | 3, ho =>
     obtain rfl := Option.some.inj ho
     have d36 : b.tmps.getD 36 undef = .int .i64 (got q 12 4) := hS.dep 2 36
     refine ⟨rfl, yieldsY_value (v := .int .u32 (got q 12 4)) (u' := u) ?_ ⟨rfl, rfl⟩⟩
     simp [Act.eval, d36, go_sem, k12]
    | 4, ho =>
     obtain rfl := Option.some.inj ho
     have hu := hw1 (by kernel_rfl)
     subst hu
     have d5 : b.tmps.getD 5 undef = .pointer (some ⟨w.heap.size + 1 + 1 + 1, 0, none⟩) := hS.base 5
     have hl := hg
     refine ⟨rfl, yieldsY_value (v := (.func (.func 142) #[] #[.pointer (some ⟨w.heap.size, 0, none⟩)])) (u' := W1.drew) ?_ ⟨rfl, rfl⟩⟩
     simp [Act.eval, d5, go_sem, hl]
    | 5, ho =>
     obtain rfl := Option.some.inj ho
     have hu := hw1 (by kernel_rfl)
     subst hu
     have d38 : b.tmps.getD 38 undef = (.func (.func 142) #[] #[.pointer (some ⟨w.heap.size, 0, none⟩)]) := hS.dep 4 38
     refine ⟨rfl, yieldsY_call (f := 142) (args := #[.int .i64 16, .int .i64 4, .pointer (some ⟨w.heap.size, 0, none⟩)]) (K := fun v u' => v = .int .i64 (got q 16 4) ∧ u' = W1.drew) ?_ ((q1_any w.heap.size q 16 4 W1.drew hql (unhide HX).2.2.2.2).mono fun e u' ⟨he, hu⟩ => ⟨_, he, rfl, hu⟩) fun v u' h => h⟩
     simp [Act.eval, d38, go_sem]
    | 6, ho =>
     obtain rfl := Option.some.inj ho
     have d39 : b.tmps.getD 39 undef = .int .i64 (got q 16 4) := hS.dep 5 39
     refine ⟨rfl, yieldsY_value (v := .int .u32 (got q 16 4)) (u' := u) ?_ ⟨rfl, rfl⟩⟩
     simp [Act.eval, d39, go_sem, k16]
    | 7, ho =>
     obtain rfl := Option.some.inj ho
     have hu := hw1 (by kernel_rfl)
     subst hu
     have d5 : b.tmps.getD 5 undef = .pointer (some ⟨w.heap.size + 1 + 1 + 1, 0, none⟩) := hS.base 5
     have hl := hg
     refine ⟨rfl, yieldsY_value (v := (.func (.func 142) #[] #[.pointer (some ⟨w.heap.size, 0, none⟩)])) (u' := W1.drew) ?_ ⟨rfl, rfl⟩⟩
     simp [Act.eval, d5, go_sem, hl]
    | 8, ho =>
     obtain rfl := Option.some.inj ho
     have hu := hw1 (by kernel_rfl)
     subst hu
     have d3 : b.tmps.getD 3 undef = .pointer (some ⟨w.heap.size + 1 + 1, 0, none⟩) := hS.base 3
     have hl := hs
     refine ⟨rfl, yieldsY_value (v := .int .i64 (qSize q)) (u' := W1.drew) ?_ ⟨rfl, rfl⟩⟩
     simp [Act.eval, d3, go_sem, hl]
    | 9, ho =>
     obtain rfl := Option.some.inj ho
     have hu := hw1 (by kernel_rfl)
     subst hu
     have d41 : b.tmps.getD 41 undef = (.func (.func 142) #[] #[.pointer (some ⟨w.heap.size, 0, none⟩)]) := hS.dep 7 41
     have d42 : b.tmps.getD 42 undef = .int .i64 (qSize q) := hS.dep 8 42
     refine ⟨rfl, yieldsY_call (f := 142) (args := #[.int .i64 (qSize q), .int .i64 2, .pointer (some ⟨w.heap.size, 0, none⟩)]) (K := fun v u' => v = .int .i64 (got q (qSize q) 2) ∧ u' = W1.drew) ?_ ((q1_any w.heap.size q (qSize q) 2 W1.drew hql (unhide HX).2.2.2.2).mono fun e u' ⟨he, hu⟩ => ⟨_, he, rfl, hu⟩) fun v u' h => h⟩
     simp [Act.eval, d41, d42, go_sem]
    | 10, ho =>
     obtain rfl := Option.some.inj ho
     have hu := hw1 (by kernel_rfl)
     subst hu
     have d5 : b.tmps.getD 5 undef = .pointer (some ⟨w.heap.size + 1 + 1 + 1, 0, none⟩) := hS.base 5
     have hl := hg
     refine ⟨rfl, yieldsY_value (v := (.func (.func 142) #[] #[.pointer (some ⟨w.heap.size, 0, none⟩)])) (u' := W1.drew) ?_ ⟨rfl, rfl⟩⟩
     simp [Act.eval, d5, go_sem, hl]
    | 11, ho =>
     obtain rfl := Option.some.inj ho
     have hu := hw1 (by kernel_rfl)
     subst hu
     have d3 : b.tmps.getD 3 undef = .pointer (some ⟨w.heap.size + 1 + 1, 0, none⟩) := hS.base 3
     have hl := hs
     refine ⟨rfl, yieldsY_value (v := .int .i64 (qSize q)) (u' := W1.drew) ?_ ⟨rfl, rfl⟩⟩
     simp [Act.eval, d3, go_sem, hl]
    | 12, ho =>
     obtain rfl := Option.some.inj ho
     have d45 : b.tmps.getD 45 undef = .int .i64 (qSize q) := hS.dep 11 45
     have kk : IntKind.i64.wrap (qSize q + 2) = qSize q + 2 := Oct.wraps_i64 _ (by omega) (by omega)
     refine ⟨rfl, yieldsY_value (v := .int .i64 (qSize q + 2)) (u' := u) ?_ ⟨rfl, rfl⟩⟩
     simp [Act.eval, d45, go_sem, kk]
    | 13, ho =>
     obtain rfl := Option.some.inj ho
     have hu := hw1 (by kernel_rfl)
     subst hu
     have d44 : b.tmps.getD 44 undef = (.func (.func 142) #[] #[.pointer (some ⟨w.heap.size, 0, none⟩)]) := hS.dep 10 44
     have d46 : b.tmps.getD 46 undef = .int .i64 (qSize q + 2) := hS.dep 12 46
     refine ⟨rfl, yieldsY_call (f := 142) (args := #[.int .i64 (qSize q + 2), .int .i64 2, .pointer (some ⟨w.heap.size, 0, none⟩)]) (K := fun v u' => v = .int .i64 (got q (qSize q + 2) 2) ∧ u' = W1.drew) ?_ ((q1_any w.heap.size q (qSize q + 2) 2 W1.drew hql (unhide HX).2.2.2.2).mono fun e u' ⟨he, hu⟩ => ⟨_, he, rfl, hu⟩) fun v u' h => h⟩
     simp [Act.eval, d44, d46, go_sem]
    | 14, ho =>
     obtain rfl := Option.some.inj ho
     have q34 : b.tmps[34]?.getD undef = .int .i64 (got q 9 1) := by rw [← Array.getD_eq_getD_getElem?]; exact hS.dep 0 34
     have q37 : b.tmps[37]?.getD undef = .int .u32 (got q 12 4) := by rw [← Array.getD_eq_getD_getElem?]; exact hS.dep 3 37
     have q40 : b.tmps[40]?.getD undef = .int .u32 (got q 16 4) := by rw [← Array.getD_eq_getD_getElem?]; exact hS.dep 6 40
     have q43 : b.tmps[43]?.getD undef = .int .i64 (got q (qSize q) 2) := by rw [← Array.getD_eq_getD_getElem?]; exact hS.dep 9 43
     have q47 : b.tmps[47]?.getD undef = .int .i64 (got q (qSize q + 2) 2) := by rw [← Array.getD_eq_getD_getElem?]; exact hS.dep 13 47
     refine ⟨rfl, yieldsY_value (v := .agg #[.int .i64 (got q 9 1), .int .u32 (got q 12 4), .int .u32 (got q 16 4), .int .i64 (got q (qSize q) 2), .int .i64 (got q (qSize q + 2) 2)]) (u' := u) ?_ ⟨rfl, rfl⟩⟩
     simp [Act.eval, q34, q37, q40, q43, q47, go_sem]
    | 15, ho =>
     obtain rfl := Option.some.inj ho
     have d3 : b.tmps.getD 3 undef = .pointer (some ⟨w.heap.size + 1 + 1, 0, none⟩) := hS.base 3
     have hl : u.cell? ⟨w.heap.size + 1 + 1, 0, none⟩ = some (.int .i64 (qSize q)) := by
      rcases hw2 (by kernel_rfl) with rfl | rfl
      ·exact hs
      ·exact (unhide HX).2.2.2.1.cell 0 _ rfl
     refine ⟨rfl, yieldsY_value (v := .int .i64 (qSize q)) (u' := u) ?_ ⟨rfl, rfl⟩⟩
     simp [Act.eval, d3, go_sem, hl]
    | 16, ho =>
     obtain rfl := Option.some.inj ho
     exact absurd rfl h1
    | 17, ho =>
     obtain rfl := Option.some.inj ho
     exact absurd rfl h2
    | 18, ho =>
     obtain rfl := Option.some.inj ho
     refine ⟨rfl, yieldsY_value (v := .int .i64 0) (u' := u) ?_ ⟨rfl, rfl⟩⟩
     simp [execOp, Act.eval]
    | n + 19, ho => exact absurd ho (by simp)
   case s1 =>
    intro o b ho hS
    obtain rfl := Option.some.inj ho
    have d2 : b.tmps.getD 2 undef = .pointer (some ⟨w.heap.size + 1, 0, none⟩) := hS.base 2
    have d48 : b.tmps.getD 48 undef = .agg #[.int .i64 (got q 9 1), .int .u32 (got q 12 4), .int .u32 (got q 16 4), .int .i64 (got q (qSize q) 2), .int .i64 (got q (qSize q + 2) 2)] := hS.dep 14 48
    obtain ⟨c0, c1, c2, c3, c4, fr⟩ := unhide HC
    refine ⟨rfl, ?_⟩
    simp [Act.eval, d2, d48, go_sem, c0, c1, c2, c3, c4, fr, setRow]
   case s2 =>
    intro o b ho hS
    obtain rfl := Option.some.inj ho
    have d3 : b.tmps.getD 3 undef = .pointer (some ⟨w.heap.size + 1 + 1, 0, none⟩) := hS.base 3
    have d49 : b.tmps.getD 49 undef = .int .i64 (qSize q) := hS.dep 15 49
    have cs := (unhide HX).2.2.2.1.cell 0 _ rfl
    have cf := (unhide HX).2.2.2.1.free 0
    refine ⟨rfl, ?_⟩
    generalize setRow W1.drew (w.heap.size + 1) 0 [.int .i64 (got q 9 1), .int .u32 (got q 12 4), .int .u32 (got q 16 4), .int .i64 (got q (qSize q) 2), .int .i64 (got q (qSize q + 2) 2)] = UU at *
    simp [Act.eval, d3, d49, go_sem, cs, cf]
   case fin =>
    obtain ⟨R1, R2, BB, -, -⟩ := unhide HX
    clear HX HM HC
    generalize (setRow W1.drew (w.heap.size + 1) 0 [.int .i64 (got q 9 1), .int .u32 (got q 12 4), .int .u32 (got q 16 4), .int .i64 (got q (qSize q) 2), .int .i64 (got q (qSize q + 2) 2)]).setCell ⟨w.heap.size + 1 + 1, 0, none⟩ (.int .i64 (qSize q)) = UU at *
    simp [putAll, dstAt, Act.put]
    have z0 := R1.cell 0 _ rfl
    have z1 := R1.cell 1 _ rfl
    have z2 := R1.cell 2 _ rfl
    have z3 := R1.cell 3 _ rfl
    have z4 := R1.cell 4 _ rfl
    have y0 := R2.cell 0 _ rfl
    have HBB := hide BB
    clear BB R1 R2
    go_wp2_with fail
    refine bodyPost_ret (v := .tuple #[Tp.val ⟨got q 9 1, got q 12 4, got q 16 4, got q (qSize q) 2, got q (qSize q + 2) 2⟩, .int .i64 (qSize q), .int .i64 0]) (by simp [results, Tryz.results116, go_sem, z0, z1, z2, z3, z4, y0]) rfl ⟨ret_q HT.out.symm HN.out.symm HE.out.symm, unhide HBB⟩
  ·have hd : (qE q != 0) = true := by simpa using he
   obtain ⟨HT, HN⟩ := qE_no he
   have HT := hide HT
   have HN := hide HN
   have c0 := e1.cell 0 _ rfl
   have c1 := e1.cell 1 _ rfl
   have c2 := e1.cell 2 _ rfl
   have c3 := e1.cell 3 _ rfl
   have c4 := e1.cell 4 _ rfl
   have fr := e1.free
   have d0 := e2.cell 0 _ rfl
   have fd := e2.free 0
   have R1 := (row_all zeroTp.cells e1 rfl).other (b := w.heap.size + 1 + 1) (by omega) 0 (.int .i64 0)
   have R2 := (e2.of_block (W' := setRow W1 (w.heap.size + 1) 0 zeroTp.cells) (setRow_heap _ _ (by omega) _ _ _)).set 0 (.int .i64 0)
   have BB : Below w.heap.size w ((setRow W1 (w.heap.size + 1) 0 zeroTp.cells).setCell ⟨w.heap.size + 1 + 1, 0, none⟩ (.int .i64 0)) := ((unhide HB).trans ((setRow_below _ _ _ _).mono (by omega))).setCell (p := ⟨w.heap.size + 1 + 1, 0, none⟩) (by show w.heap.size ≤ w.heap.size + 1 + 1; omega) _
   simp only [setRow, zeroTp, Nat.zero_add, Nat.reduceAdd, List.set_cons_zero] at R1 R2 BB
   have HR1 := hide R1
   have HR2 := hide R2
   have HBB := hide BB
   clear R1 R2 BB e0 e1 e2 e3 ey he HB
   go_wp2_with fail
   have z0 := (unhide HR1).cell 0 _ rfl
   have z1 := (unhide HR1).cell 1 _ rfl
   have z2 := (unhide HR1).cell 2 _ rfl
   have z3 := (unhide HR1).cell 3 _ rfl
   have z4 := (unhide HR1).cell 4 _ rfl
   have y0 := (unhide HR2).cell 0 _ rfl
   refine bodyPost_ret (v := .tuple #[zeroTp.val, .int .i64 0, .int .i64 (qE q)]) (by simp [results, Tryz.results116, go_sem, zeroTp, z0, z1, z2, z3, z4, y0]) rfl ⟨ret_q HT.out.symm HN.out.symm rfl, unhide HBB⟩
end Go.Proofs.YtpjaajeojiaeiaaGreatDoor
