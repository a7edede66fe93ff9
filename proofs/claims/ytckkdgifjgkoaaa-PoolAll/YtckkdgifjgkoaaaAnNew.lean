/- New of package anchor. -/
import Derived.Test.YtckkdgifjgkoaaaAnRise
namespace Go.Proofs.Ytckkdgifjgkoaaa
open Go.ChangeShapes Go.WideShapes Go.ChangeAt Go.RowKit An

set_option maxHeartbeats 400000 in
theorem new_bad (r n : Int) (h : r < 1 ∨ (¬ r < 1 ∧ 65536 < r) ∨ (¬ r < 1 ∧ ¬ 65536 < r ∧ n < 1) ∨ (¬ r < 1 ∧ ¬ 65536 < r ∧ ¬ n < 1 ∧ r < n)) (w : World) :
    Calls Try.prog 22 #[.int .i64 r, .int .i64 n] w fun e w' => e = .returned (.tuple #[.pointer none, .int .i64 1]) ∧ w' = w := by
  rcases h with h | ⟨h1, h⟩ | ⟨h1, h2, h⟩ | ⟨h1, h2, h3, h⟩
  all_goals
    go_enter Try.func22, Try.ntmps22
    go_wp2_with fail
    go_ret2
    exact ⟨rfl, rfl⟩

/-- What comes up where a new anchor is made. -/
def newF (r n base : Nat) (i : Nat) (v : Value) (u : World) : Prop :=
  match i with
  | 0 => v = .int .i64 (n : Int)
  | 1 | 3 | 5 | 7 => v = .int .i64 (r : Int)
  | 2 => ∃ g, v = .slice (some ⟨g, 0, none⟩) r r ∧ base ≤ g ∧ Lst u g r fun _ => 0
  | 4 | 6 | 8 => ∃ g, v = .slice (some ⟨g, 0, none⟩) r r ∧ base ≤ g ∧ Lst u g r id
  | 9 => ∃ a o l k, v = .agg #[.int .i64 (n : Int), .slice (some ⟨a, 0, none⟩) r r, .slice (some ⟨o, 0, none⟩) r r, .slice (some ⟨l, 0, none⟩) r r, .slice (some ⟨k, 0, none⟩) r r, .slice none 0 0] ∧
      (base ≤ a ∧ Lst u a r fun _ => 0) ∧ (base ≤ o ∧ Lst u o r id) ∧ (base ≤ l ∧ Lst u l r id) ∧ (base ≤ k ∧ Lst u k r id) ∧ a ≠ o ∧ a ≠ l ∧ a ≠ k ∧ o ≠ l ∧ o ≠ k ∧ l ≠ k
  | _ => ∃ bk, v = .pointer (some ⟨bk.p, 0, none⟩) ∧ AnAt hdA base u bk (.slice none 0 0) ⟨r, n, fun _ => 0, id, id, id, []⟩
theorem Lst.on {W W' : World} {g r : Nat} {f : Nat → Nat} (h : Lst W g r f) (hb : Below W.heap.size W W') : Lst W' g r f := h.of_block (hb.block g h.lt)
theorem newF_on (r n base i : Nat) (v : Value) (u u' : World) (h : newF r n base i v u) (hb : Below u.heap.size u u') : newF r n base i v u' := by
  unfold newF at h ⊢
  split at h
  · exact h
  · exact h
  · exact h
  · exact h
  · exact h
  · obtain ⟨g, h1, h2, h3⟩ := h; exact ⟨g, h1, h2, h3.on hb⟩
  · obtain ⟨g, h1, h2, h3⟩ := h; exact ⟨g, h1, h2, h3.on hb⟩
  · obtain ⟨g, h1, h2, h3⟩ := h; exact ⟨g, h1, h2, h3.on hb⟩
  · obtain ⟨g, h1, h2, h3⟩ := h; exact ⟨g, h1, h2, h3.on hb⟩
  · obtain ⟨a, o, l, k, h1, h2, h3, h4, h5, h6⟩ := h
    exact ⟨a, o, l, k, h1, ⟨h2.1, h2.2.on hb⟩, ⟨h3.1, h3.2.on hb⟩, ⟨h4.1, h4.2.on hb⟩, ⟨h5.1, h5.2.on hb⟩, h6⟩
  · obtain ⟨bk, h1, h2⟩ := h; exact ⟨bk, h1, h2.on hb⟩
theorem list12 {α : Type} {l : List α} (h : l.length = 12) : ∃ c0 c1 c2 c3 c4 c5 c6 c7 c8 c9 c10 c11, l = [c0, c1, c2, c3, c4, c5, c6, c7, c8, c9, c10, c11] := by
  match l, h with
  | [c0, c1, c2, c3, c4, c5, c6, c7, c8, c9, c10, c11], _ => exact ⟨c0, c1, c2, c3, c4, c5, c6, c7, c8, c9, c10, c11, rfl⟩
theorem lst_new (u : World) (l : List Value) (t : TypeId) {base a o lb k r : Nat} {n : Nat} (hb : base ≤ u.heap.size)
    (ha : base ≤ a ∧ Lst u a r fun _ => 0) (ho : base ≤ o ∧ Lst u o r id) (hl : base ≤ lb ∧ Lst u lb r id) (hk : base ≤ k ∧ Lst u k r id) (hne : a ≠ o ∧ a ≠ lb ∧ a ≠ k ∧ o ≠ lb ∧ o ≠ k ∧ lb ≠ k)
    (hd : Bk → Value → An → List Value) (he : l = hd ⟨u.heap.size, a, o, lb, k, r, r, r, r⟩ (.slice none 0 0) ⟨r, n, fun _ => 0, id, id, id, []⟩) :
    AnAt hd base (u.alloc (.cells l.toArray t)) ⟨u.heap.size, a, o, lb, k, r, r, r, r⟩ (.slice none 0 0) ⟨r, n, fun _ => 0, id, id, id, []⟩ := by
  have hB : Below u.heap.size u (u.alloc (.cells l.toArray t)) := (Below.refl _ _).alloc (Nat.le_refl _) _
  have l1 := ha.2.lt
  have l2 := ho.2.lt
  have l3 := hl.2.lt
  have l4 := hk.2.lt
  refine ⟨by rw [← he]; exact row_new u l t, ha.2.on hB, ho.2.on hB, hl.2.on hB, hk.2.on hB, World.ownsRow_nil _ _ _ _, ?_, ?_, fun x _ h => by cases h⟩
  · simp only [Bk.five, List.nodup_cons, List.mem_cons, List.not_mem_nil, or_false, not_or, List.nodup_nil, not_false_eq_true, and_true]
    omega
  · intro x hx
    simp only [Bk.five, List.mem_cons, List.not_mem_nil, or_false] at hx
    omega
theorem cell_set {w : World} {a : Addr} {v x : Value} {t : TypeId} : ∀ (j : Nat) (u : Value), [x][j]? = some u → ((w.setCell a v).alloc (.cells #[x] t)).cell? ((⟨w.heap.size, 0, none⟩ : Addr).add j) = some u := by
  have e : (w.setCell a v).heap.size = w.heap.size := by simp [World.setCell]
  rw [← e]
  exact cell_one
/-- While those that do not work are put on the stack, from the last one down: d are left. -/
def midAn (r n d : Nat) : An := ⟨r, n, (An.start r (n + d)).A, id, id, id, (An.start r (n + d)).S⟩
theorem mid_full (r n d : Nat) (h : n + d = r) : midAn r n d = ⟨r, n, fun _ => 0, id, id, id, []⟩ := by
  unfold midAn
  rw [h, start_all]
  rfl
theorem mid_step (r n d : Nat) (h : n + d < r) : (⟨r, n, upd (midAn r n (d + 1)).A (n + d) (n + d), id, id, id, (n + d) :: (midAn r n (d + 1)).S⟩ : An) = midAn r n d := by
  unfold midAn
  rw [start_remove r (n + d) h]
  rfl
theorem mid_zero (r n : Nat) : midAn r n 0 = An.start r n := rfl
theorem mid_length (r n d : Nat) : (midAn r n d).S.length = r - (n + d) := by unfold midAn An.start; simp
set_option maxRecDepth 100000 in
set_option maxHeartbeats 2000000 in
theorem new_made (r n : Nat) (h1 : 1 ≤ n) (hnr : n ≤ r) (hr : r ≤ 65536) (w : World) :
    Calls Try.prog 22 #[.int .i64 (r : Int), .int .i64 (n : Int)] w fun e w' => ∃ (bk : Bk) (v : Value), e = .returned (.tuple #[.pointer (some ⟨bk.p, 0, none⟩), .int .i64 0]) ∧ AnAt hdA w.heap.size w' bk v (An.start r n) ∧ Below w.heap.size w w' := by
  have q1 : ¬ (r : Int) < 1 := by omega
  have q2 : ¬ (65536 : Int) < r := by omega
  have q3 : ¬ (n : Int) < 1 := by omega
  have q4 : ¬ (r : Int) < n := by omega
  have HR : Shut (r ≤ 65536) := ⟨hr⟩
  have HN : Shut (1 ≤ n ∧ n ≤ r) := ⟨h1, hnr⟩
  clear h1 hnr hr
  go_enter Try.func22, Try.ntmps22
  go_wp2_with fail
  refine wp_region_fresh (by kernel_rfl) (newF r n w.heap.size) [2, 4, 6, 8] (by kernel_rfl) (fun i v u u' h hb => newF_on r n _ i v u u' h hb) ?op ?fin
  case op =>
    intro i o bx u ho hbel hold hdeps hdis
    have hsz : w.heap.size ≤ u.heap.size := hbel.size
    match i, ho with
    | 0, ho =>
      obtain rfl := Option.some.inj ho
      have d1 : bx.tmps.getD 1 undef = .int .i64 (n : Int) := hold 1 (base_of (by kernel_rfl))
      refine ⟨rfl, yieldsY_value (v := .int .i64 (n : Int)) (u' := u) ?_ ⟨Below.refl _ _, rfl, fun h => absurd h (by decide)⟩⟩
      simp [execOp, Act.eval, d1]
    | 1, ho =>
      obtain rfl := Option.some.inj ho
      have d0 : bx.tmps.getD 0 undef = .int .i64 (r : Int) := hold 0 (base_of (by kernel_rfl))
      refine ⟨rfl, yieldsY_value (v := .int .i64 (r : Int)) (u' := u) ?_ ⟨Below.refl _ _, rfl, fun h => absurd h (by decide)⟩⟩
      simp [execOp, Act.eval, d0]
    | 2, ho =>
      obtain rfl := Option.some.inj ho
      have d24 : bx.tmps.getD 24 undef = .int .i64 (r : Int) := hdeps 1 24 (by kernel_rfl) (by kernel_rfl)
      have hm := make_run r (by have := HR.out; omega) u
      refine ⟨rfl, yieldsY_value (v := .slice (some ⟨u.heap.size, 0, none⟩) r r) (u' := u.alloc (.cells (madeCells #[.int .i64 0] r) 3)) ?_ ⟨(Below.refl _ _).alloc (Nat.le_refl _) _, ⟨_, rfl, hsz, made_lst u r⟩, fun _ => ⟨_, rfl, Nat.le_refl _, by simp⟩⟩⟩
      simp [Act.eval, d24, execOp, hm]
    | 3, ho =>
      obtain rfl := Option.some.inj ho
      have d0 : bx.tmps.getD 0 undef = .int .i64 (r : Int) := hold 0 (base_of (by kernel_rfl))
      refine ⟨rfl, yieldsY_value (v := .int .i64 (r : Int)) (u' := u) ?_ ⟨Below.refl _ _, rfl, fun h => absurd h (by decide)⟩⟩
      simp [execOp, Act.eval, d0]
    | 4, ho =>
      obtain rfl := Option.some.inj ho
      have d : bx.tmps.getD 26 undef = .int .i64 (r : Int) := hdeps 3 26 (by kernel_rfl) (by kernel_rfl)
      refine ⟨rfl, yieldsY_call (f := 42) (args := #[.int .i64 (r : Int)]) (u := u) ?_ ((rising_any r (by have := HR.out; omega) u).mono fun e u' h => ⟨_, h.1, rfl, h.2⟩) (K := fun v u' => v = .slice (some ⟨u.heap.size, 0, none⟩) r r ∧ Lst u' u.heap.size r id ∧ Below u.heap.size u u') (fun v u' h => ?_)⟩
      · simp [Act.eval, d, go_sem]
      · obtain ⟨h1, h2, h3⟩ := h
        subst h1
        exact ⟨h3, ⟨_, rfl, hsz, h2⟩, fun _ => ⟨_, rfl, Nat.le_refl _, h2.lt⟩⟩
    | 5, ho =>
      obtain rfl := Option.some.inj ho
      have d0 : bx.tmps.getD 0 undef = .int .i64 (r : Int) := hold 0 (base_of (by kernel_rfl))
      refine ⟨rfl, yieldsY_value (v := .int .i64 (r : Int)) (u' := u) ?_ ⟨Below.refl _ _, rfl, fun h => absurd h (by decide)⟩⟩
      simp [execOp, Act.eval, d0]
    | 6, ho =>
      obtain rfl := Option.some.inj ho
      have d : bx.tmps.getD 28 undef = .int .i64 (r : Int) := hdeps 5 28 (by kernel_rfl) (by kernel_rfl)
      refine ⟨rfl, yieldsY_call (f := 42) (args := #[.int .i64 (r : Int)]) (u := u) ?_ ((rising_any r (by have := HR.out; omega) u).mono fun e u' h => ⟨_, h.1, rfl, h.2⟩) (K := fun v u' => v = .slice (some ⟨u.heap.size, 0, none⟩) r r ∧ Lst u' u.heap.size r id ∧ Below u.heap.size u u') (fun v u' h => ?_)⟩
      · simp [Act.eval, d, go_sem]
      · obtain ⟨h1, h2, h3⟩ := h
        subst h1
        exact ⟨h3, ⟨_, rfl, hsz, h2⟩, fun _ => ⟨_, rfl, Nat.le_refl _, h2.lt⟩⟩
    | 7, ho =>
      obtain rfl := Option.some.inj ho
      have d0 : bx.tmps.getD 0 undef = .int .i64 (r : Int) := hold 0 (base_of (by kernel_rfl))
      refine ⟨rfl, yieldsY_value (v := .int .i64 (r : Int)) (u' := u) ?_ ⟨Below.refl _ _, rfl, fun h => absurd h (by decide)⟩⟩
      simp [execOp, Act.eval, d0]
    | 8, ho =>
      obtain rfl := Option.some.inj ho
      have d : bx.tmps.getD 30 undef = .int .i64 (r : Int) := hdeps 7 30 (by kernel_rfl) (by kernel_rfl)
      refine ⟨rfl, yieldsY_call (f := 42) (args := #[.int .i64 (r : Int)]) (u := u) ?_ ((rising_any r (by have := HR.out; omega) u).mono fun e u' h => ⟨_, h.1, rfl, h.2⟩) (K := fun v u' => v = .slice (some ⟨u.heap.size, 0, none⟩) r r ∧ Lst u' u.heap.size r id ∧ Below u.heap.size u u') (fun v u' h => ?_)⟩
      · simp [Act.eval, d, go_sem]
      · obtain ⟨h1, h2, h3⟩ := h
        subst h1
        exact ⟨h3, ⟨_, rfl, hsz, h2⟩, fun _ => ⟨_, rfl, Nat.le_refl _, h2.lt⟩⟩
    | 9, ho =>
      obtain rfl := Option.some.inj ho
      have d23 : bx.tmps.getD 23 undef = .int .i64 (n : Int) := hdeps 0 23 (by kernel_rfl) (by kernel_rfl)
      obtain ⟨ga, da, a1, a2⟩ : ∃ g, bx.tmps.getD 25 undef = .slice (some ⟨g, 0, none⟩) r r ∧ w.heap.size ≤ g ∧ Lst u g r fun _ => 0 := hdeps 2 25 (by kernel_rfl) (by kernel_rfl)
      obtain ⟨go, d_o, o1, o2⟩ : ∃ g, bx.tmps.getD 27 undef = .slice (some ⟨g, 0, none⟩) r r ∧ w.heap.size ≤ g ∧ Lst u g r id := hdeps 4 27 (by kernel_rfl) (by kernel_rfl)
      obtain ⟨gl, dl, l1, l2⟩ : ∃ g, bx.tmps.getD 29 undef = .slice (some ⟨g, 0, none⟩) r r ∧ w.heap.size ≤ g ∧ Lst u g r id := hdeps 6 29 (by kernel_rfl) (by kernel_rfl)
      obtain ⟨gk, dk, k1, k2⟩ : ∃ g, bx.tmps.getD 31 undef = .slice (some ⟨g, 0, none⟩) r r ∧ w.heap.size ≤ g ∧ Lst u g r id := hdeps 8 31 (by kernel_rfl) (by kernel_rfl)
      have ne : ∀ (i j s t x y : Nat), i ∈ [2, 4, 6, 8] → j ∈ [2, 4, 6, 8] → i ≠ j → _ → _ → _ → _ → bx.tmps.getD s undef = .slice (some ⟨x, 0, none⟩) r r → bx.tmps.getD t undef = .slice (some ⟨y, 0, none⟩) r r → x ≠ y := fun i j s t x y hi hj hij a1 a2 a3 a4 e1 e2 e => by
        have h := hdis i j s t hi hj hij a1 a2 a3 a4
        rw [e1, e2, e] at h
        exact h rfl
      have n1 := ne 2 4 25 27 ga go (by decide) (by decide) (by decide) (by kernel_rfl) (by kernel_rfl) (by kernel_rfl) (by kernel_rfl) da d_o
      have n2 := ne 2 6 25 29 ga gl (by decide) (by decide) (by decide) (by kernel_rfl) (by kernel_rfl) (by kernel_rfl) (by kernel_rfl) da dl
      have n3 := ne 2 8 25 31 ga gk (by decide) (by decide) (by decide) (by kernel_rfl) (by kernel_rfl) (by kernel_rfl) (by kernel_rfl) da dk
      have n4 := ne 4 6 27 29 go gl (by decide) (by decide) (by decide) (by kernel_rfl) (by kernel_rfl) (by kernel_rfl) (by kernel_rfl) d_o dl
      have n5 := ne 4 8 27 31 go gk (by decide) (by decide) (by decide) (by kernel_rfl) (by kernel_rfl) (by kernel_rfl) (by kernel_rfl) d_o dk
      have n6 := ne 6 8 29 31 gl gk (by decide) (by decide) (by decide) (by kernel_rfl) (by kernel_rfl) (by kernel_rfl) (by kernel_rfl) dl dk
      rw [Array.getD_eq_getD_getElem?] at d23 da d_o dl dk
      refine ⟨rfl, yieldsY_value (v := .agg #[.int .i64 (n : Int), .slice (some ⟨ga, 0, none⟩) r r, .slice (some ⟨go, 0, none⟩) r r, .slice (some ⟨gl, 0, none⟩) r r, .slice (some ⟨gk, 0, none⟩) r r, .slice none 0 0]) (u' := u) ?_
        ⟨Below.refl _ _, ⟨ga, go, gl, gk, rfl, ⟨a1, a2⟩, ⟨o1, o2⟩, ⟨l1, l2⟩, ⟨k1, k2⟩, n1, n2, n3, n4, n5, n6⟩, fun h => absurd h (by decide)⟩⟩
      simp [Act.eval, d23, da, d_o, dl, dk, go_sem]
    | 10, ho =>
      obtain rfl := Option.some.inj ho
      obtain ⟨a, o, l, k, e9, pa, po, pl, pk, ne⟩ : newF r n w.heap.size 9 (bx.tmps.getD 32 undef) u := hdeps 9 32 (by kernel_rfl) (by kernel_rfl)
      refine ⟨rfl, yieldsY_value (v := .pointer (some ⟨u.heap.size, 0, none⟩)) (u' := u.alloc (.cells #[.int .i64 (n : Int), .slice (some ⟨a, 0, none⟩) r r, .slice (some ⟨o, 0, none⟩) r r, .slice (some ⟨l, 0, none⟩) r r, .slice (some ⟨k, 0, none⟩) r r, .slice none 0 0] 101)) ?_
        ⟨(Below.refl _ _).alloc (Nat.le_refl _) _, ⟨⟨u.heap.size, a, o, l, k, r, r, r, r⟩, rfl, lst_new u _ _ hsz pa po pl pk ne hdA rfl⟩, fun h => absurd h (by decide)⟩⟩
      simp [Act.eval, e9, go_sem]
    | 11, ho =>
      obtain rfl := Option.some.inj ho
      obtain ⟨bk, e10, hbk⟩ : newF r n w.heap.size 10 (bx.tmps.getD 33 undef) u := hdeps 10 33 (by kernel_rfl) (by kernel_rfl)
      refine ⟨rfl, yieldsY_value (v := .pointer (some ⟨bk.p, 0, none⟩)) (u' := u) ?_ ⟨Below.refl _ _, ⟨bk, rfl, hbk⟩, fun h => absurd h (by decide)⟩⟩
      simp [execOp, Act.eval, e10]
    | n + 12, ho => exact absurd ho (by simp)
  case fin =>
    intro xs u hlen hbel hF
    obtain ⟨x0, x1, x2, x3, x4, x5, x6, x7, x8, x9, x10, x11, rfl⟩ := list12 (l := xs) hlen
    obtain ⟨bk, rfl, hA⟩ : ∃ bk : Bk, x11 = .pointer (some ⟨bk.p, 0, none⟩) ∧ AnAt hdA w.heap.size u bk (.slice none 0 0) ⟨r, n, fun _ => 0, id, id, id, []⟩ := hF 11 6 (by decide) (by kernel_rfl)
    have HA : Shut _ := ⟨hA⟩
    have HB : Shut _ := ⟨hbel⟩
    clear hF hlen hA hbel
    simp [putAll, dstAt, Act.put]
    have HB0 : Shut (Below w.heap.size w u) := ⟨⟨HB.out.os, HB.out.tape, HB.out.output, HB.out.size, HB.out.block⟩⟩
    clear HB
    obtain ⟨i0, hi, hz0, hz1, hz2⟩ := info_parts info_int
    go_wp2_with fail
    go_loopw [7] (fun i W => ∃ (d : Nat) (v : Value) (x : Int), n + d ≤ r ∧ i = .int .i64 x ∧ Shut (x = (n : Int) + d - 1) ∧ Shut (AnAt hdA w.heap.size W bk v (midAn r n d)) ∧ Shut (Below w.heap.size w W)) (fun i _ => (intOf i + 1).toNat)
    case atStart => exact ⟨r - n, _, _, by have := HN.out; omega, rfl, ⟨by have := HN.out; omega⟩, ⟨by rw [mid_full r n (r - n) (by have := HN.out; omega)]; exact HA.out⟩, HB0⟩
    case round =>
      obtain ⟨d, v, x, hd, rfl, HX, HM, HB⟩ := hrel
      clear HA HB0
      match d, hd, HX, HM with
      | 0, hd, HX, HM =>
        have hx : ¬ (n : Int) ≤ x := by have := HX.out; omega
        go_wp2_with fail
        go_ret2
        exact ⟨bk, rfl, ⟨v, HM.out⟩, HB.out⟩
      | d + 1, hd, HX, HM =>
        obtain rfl : x = ((n + d : Nat) : Int) := by have := HX.out; omega
        have hS : (midAn r n (d + 1)).S.length ≤ 65536 := by rw [mid_length]; have := HR.out; omega
        have HS := mid_step r n d (by omega)
        obtain ⟨y, hy⟩ : ∃ y, n + d = y := ⟨_, rfl⟩
        have hA1 := HM.out.setA y y (by show y < r; omega) rfl
        have hown := hA1.st
        have c1 : wr.cell? ⟨bk.p, 1, none⟩ = some (.slice (some ⟨bk.a, 0, none⟩) r bk.ca) := HM.out.headA.2.1
        have c5 := HM.out.headA.2.2.2.2.2
        have ca : wr.cell? ⟨bk.a, y, none⟩ = some (.int .i64 ((midAn r n (d + 1)).A y : Int)) := HM.out.cellA y (by show y < r; omega)
        have ga := HM.out.la.free y
        have hpa : ¬ bk.p = bk.a := HM.out.ne.1
        have hap : ¬ bk.a = bk.p := fun e => hpa e.symm
        have hy1 : (y : Int) < r := by omega
        have hny : (n : Int) ≤ y := by omega
        rw [hy]
        go_wp2_with (at_builtin; refine wpList_append_own_at _ rfl _ _ 44 rfl w.heap.size 3 i0 (.int .i64 0) 1 8 Try.underlying44 hi hz0 hz1 hz2 rfl (by decide) _ _ _ rfl (hown.alloc _) ⟨wr.heap.size, 0, none⟩ 1 1 [.int .i64 (y : Int)] rfl rfl cell_set ?c2 ?c3 ?c4 ?c5 ?_)
        case c2 => rfl
        case c3 => unfold maxLen; omega
        case c4 => omega
        case c5 => have := HB.out.size; omega
        intro v' w1 hown' hgrow _ hor
        obtain ⟨g, cap, rfl⟩ := own_succ hown'
        obtain ⟨v', hv'⟩ : ∃ v', Value.slice (some ⟨g, 0, none⟩) ((midAn r n (d + 1)).S.length + 1) cap = v' := ⟨_, rfl⟩
        rw [hv'] at hown' hor
        have hB0 : Below (wr.setCell ⟨bk.a, y, none⟩ (.int .i64 (y : Int))).heap.size (wr.setCell ⟨bk.a, y, none⟩ (.int .i64 (y : Int))) ((wr.setCell ⟨bk.a, y, none⟩ (.int .i64 (y : Int))).alloc (.cells #[.int .i64 (y : Int)] 3)) := (Below.refl _ _).alloc (Nat.le_refl _) _
        have hA0 := hA1.on hB0
        have hor' : v'.ownBlock = v.ownBlock ∨ v'.ownBlock = some ((wr.setCell ⟨bk.a, y, none⟩ (.int .i64 (y : Int))).alloc (.cells #[.int .i64 (y : Int)] 3)).heap.size := by
          rw [World.size_alloc, show (wr.setCell ⟨bk.a, y, none⟩ (.int .i64 (y : Int))).heap.size = wr.heap.size by simp [World.setCell]]
          exact hor
        have hr1 := hA0.head_grown hgrow
        have d5 : w1.cell? ⟨bk.p, 5, none⟩ = some v := hr1.cell 5 _ rfl
        have g5 := hr1.free 5
        have hA2 := hA0.setS hgrow (S := y :: (midAn r n (d + 1)).S) 5 rfl (by rw [stk_cons]; exact hown') hor'
        have HA2 : Shut (AnAt hdA w.heap.size (w1.setCell ⟨bk.p, 5, none⟩ v') bk v' (midAn r n d)) := ⟨by rw [← HS, hy]; exact hA2⟩
        have hb1 : Below w.heap.size w (wr.setCell ⟨bk.a, y, none⟩ (.int .i64 (y : Int))) := HB.out.setCell (p := ⟨bk.a, y, none⟩) (HM.out.ge _ bk.ma) _
        have hb2 := (hb1.alloc hb1.size (.cells #[.int .i64 (y : Int)] 3)).grown hgrow (by have := hb1.size; simp at this ⊢; omega) (fun j e => (hown.lt j e).1)
        have HB3 : Shut (Below w.heap.size w (w1.setCell ⟨bk.p, 5, none⟩ v')) := ⟨hb2.setCell (p := ⟨bk.p, 5, none⟩) (HM.out.ge _ bk.mp) v'⟩
        have hyr : (y : Int) ≤ 1000000 := by have := HR.out; omega
        have HY : Shut ((y : Int) - 1 = (n : Int) + d - 1) := ⟨by omega⟩
        clear hB0 hA0 hor hor' hr1 hA2 hgrow hown' hown hb1 hb2 hA1 c1 c5 ca ga hpa hap HS HM HB hy
        subst hv'
        go_wp2_with fail
        go_roundw
        case rel => exact ⟨d, _, _, by omega, rfl, HY, HA2, HB3⟩
        case measure => simp [intOf]
end Go.Proofs.Ytckkdgifjgkoaaa
