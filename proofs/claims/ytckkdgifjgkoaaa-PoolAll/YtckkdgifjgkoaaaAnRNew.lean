/- New of the reference of chapter 12, where it makes one. -/
import Derived.Test.YtckkdgifjgkoaaaAnBuild
namespace Go.Proofs.Ytckkdgifjgkoaaa
open Go.ChangeShapes Go.WideShapes Go.ChangeAt Go.RowKit An

theorem build_start (w : World) (r n : Nat) (t : TypeId) (hd : Value) (he : hd = .int .i64 (n : Int)) : Build w.heap.size ((w.alloc (.cells (madeCells #[.int .i64 0] r) 3)).alloc (.cells #[.slice (some ⟨w.heap.size, 0, none⟩) r r, .slice none 0 0, .slice none 0 0, .slice none 0 0, .slice none 0 0, hd] t)) (w.heap.size + 1) w.heap.size r n 0 0 0 (.slice none 0 0) (.slice none 0 0) (.slice none 0 0) := by
  subst he
  have hr := row_new (w.alloc (.cells (madeCells #[.int .i64 0] r) 3)) [.slice (some ⟨w.heap.size, 0, none⟩) r r, .slice none 0 0, .slice none 0 0, .slice none 0 0, .slice none 0 0, .int .i64 (n : Int)] t
  rw [World.size_alloc] at hr
  refine ⟨hr, (made_lst w r).on ((Below.refl _ _).alloc (Nat.le_refl _) _), World.ownsRow_nil _ _ _ _, World.ownsRow_nil _ _ _ _, World.ownsRow_nil _ _ _ _, by omega, by omega, by omega, ?_, ?_, ?_, ?_, ?_, ?_, ?_, ?_, ?_⟩
  all_goals first
    | (intro h; cases h; done)
    | (intro x h; cases h)
set_option maxRecDepth 100000 in
set_option maxHeartbeats 4000000 in
theorem rnew_made (r n : Nat) (h1 : 1 ≤ n) (hnr : n ≤ r) (hr : r ≤ 65536) (w : World) :
    Calls Try.prog 24 #[.int .i64 (r : Int), .int .i64 (n : Int)] w fun e w' => ∃ (bk : Bk) (v : Value), e = .returned (.pointer (some ⟨bk.p, 0, none⟩)) ∧ AnAt hdR w.heap.size w' bk v (An.start r n) ∧ Below w.heap.size w w' := by
  have q1 : ¬ (r : Int) < 1 := by omega
  have q2 : ¬ (65536 : Int) < r := by omega
  have q3 : ¬ (n : Int) < 1 := by omega
  have q4 : ¬ (r : Int) < n := by omega
  have HR : Shut (r ≤ 65536) := ⟨hr⟩
  have HN : Shut (1 ≤ n ∧ n ≤ r) := ⟨h1, hnr⟩
  have hmk := make_run r (by omega) w
  obtain ⟨i0, hi, hz0, hz1, hz2⟩ := info_parts info_int
  clear h1 hnr hr
  go_enter Try.func24, Try.ntmps24
  go_wp2_with fail
  have HB0 : Shut _ := ⟨build_start w r n 103 _ rfl⟩
  have HL0 : Shut (Below w.heap.size w ((w.alloc (.cells (madeCells #[.int .i64 0] r) 3)).alloc (.cells #[.slice (some ⟨w.heap.size, 0, none⟩) r r, .slice none 0 0, .slice none 0 0, .slice none 0 0, .slice none 0 0, .int .i64 (n : Int)] 103))) := ⟨((Below.refl _ _).alloc (Nat.le_refl _) _).alloc (by simp) _⟩
  clear hmk
  generalize (w.alloc (.cells (madeCells #[.int .i64 0] r) 3)).alloc (.cells #[.slice (some ⟨w.heap.size, 0, none⟩) r r, .slice none 0 0, .slice none 0 0, .slice none 0 0, .slice none 0 0, .int .i64 (n : Int)] 103) = W0 at *
  obtain ⟨p, hp⟩ : ∃ p, w.heap.size + 1 = p := ⟨_, rfl⟩
  obtain ⟨a, ha⟩ : ∃ a, Shut (a = w.heap.size) := ⟨_, ⟨rfl⟩⟩
  have HB00 : Shut (Build w.heap.size W0 p a r n 0 0 0 (.slice none 0 0) (.slice none 0 0) (.slice none 0 0)) := ⟨by rw [ha.out, ← hp]; exact HB0.out⟩
  clear HB0
  simp only [hp]
  clear hp
  go_loopw [6] (fun i W => ∃ (k : Nat) (v1 v2 v3 : Value), k ≤ r ∧ i = .int .i64 (k : Int) ∧ Shut (Build w.heap.size W p a r n k k k v1 v2 v3) ∧ Shut (Below w.heap.size w W)) (fun i _ => r - (intOf i).toNat)
  case atStart => exact ⟨0, _, _, _, Nat.zero_le _, rfl, HB00, HL0⟩
  case round =>
    obtain ⟨k, v1, v2, v3, hk, rfl, HBk, HBL⟩ := hrel
    clear HB00 HL0
    by_cases hlt : k < r
    · have hlt1 : (k : Int) < r := by omega
      have hkb : (k : Int) ≤ 1000000 := by have := HR.out; omega
      have hk1 : k ≤ 65536 := by have := HR.out; omega
      have hB := HBk.out
      have s0 : w.heap.size ≤ wr.heap.size + 1 := by have := HBL.out.size; omega
      have e0 : wr.cell? ⟨p, 1, none⟩ = some v1 := hB.head.cell 1 _ rfl
      go_wp2_with (at_builtin; refine wpList_append_own_at _ rfl _ _ 44 rfl w.heap.size 3 i0 (.int .i64 0) 1 8 Try.underlying44 hi hz0 hz1 hz2 rfl (by decide) _ _ _ rfl (hB.o1.alloc _) ⟨wr.heap.size, 0, none⟩ 1 1 [.int .i64 (k : Int)] rfl rfl cell_one ?c2 ?c3 ?c4 ?c5 ?_)
      case c2 => first | rfl | (intro u hu; simp at hu; subst hu; rfl)
      case c3 => unfold maxLen; omega
      case c4 => omega
      case c5 => first | omega | (simp; omega) | (simp [World.setCell]; omega)
      intro x1 w1 hown1 hgrow1 _ hor1
      obtain ⟨g1, cap1, rfl⟩ := own_succ hown1
      obtain ⟨hB1, hb1, hr1⟩ := Build.step1 hB HBL.out hgrow1 hown1 hor1
      have HB1 : Shut _ := ⟨hB1⟩
      have HL1 : Shut _ := ⟨hb1⟩
      have s1 : w.heap.size ≤ w1.heap.size + 1 := by have := hb1.size; simp [World.setCell] at this; omega
      have d1 : w1.cell? ⟨p, 1, none⟩ = some v1 := hr1.cell 1 _ rfl
      have f1 := hr1.free 1
      have e1 : w1.cell? ⟨p, 2, none⟩ = some v2 := hr1.cell 2 _ rfl
      clear hB1 hb1 hr1 hgrow1 hown1 hor1
      go_wp2_with (at_builtin; refine wpList_append_own_at _ rfl _ _ 44 rfl w.heap.size 3 i0 (.int .i64 0) 1 8 Try.underlying44 hi hz0 hz1 hz2 rfl (by decide) _ _ _ rfl (HB1.out.o2.alloc _) ⟨w1.heap.size, 0, none⟩ 1 1 [.int .i64 (k : Int)] rfl rfl cell_set ?c2 ?c3 ?c4 ?c5 ?_)
      case c2 => first | rfl | (intro u hu; simp at hu; subst hu; rfl)
      case c3 => unfold maxLen; omega
      case c4 => omega
      case c5 => first | omega | (simp; omega) | (simp [World.setCell]; omega)
      intro x2 w2 hown2 hgrow2 _ hor2
      obtain ⟨g2, cap2, rfl⟩ := own_succ hown2
      have hsz2 : (w1.setCell ⟨p, 1, none⟩ (.slice (some ⟨g1, 0, none⟩) (k + 1) cap1)).heap.size = w1.heap.size := by simp [World.setCell]
      obtain ⟨hB2, hb2, hr2⟩ := Build.step2 HB1.out HL1.out hgrow2 hown2 (by rw [hsz2]; exact hor2)
      have HB2 : Shut _ := ⟨hB2⟩
      have HL2 : Shut _ := ⟨hb2⟩
      have s2 : w.heap.size ≤ w2.heap.size + 1 := by have := hb2.size; simp [World.setCell] at this; omega
      have d2 : w2.cell? ⟨p, 2, none⟩ = some v2 := hr2.cell 2 _ rfl
      have f2 := hr2.free 2
      have e2 : w2.cell? ⟨p, 3, none⟩ = some v3 := hr2.cell 3 _ rfl
      clear hB2 hb2 hr2 hgrow2 hown2 hor2
      go_wp2_with (at_builtin; refine wpList_append_own_at _ rfl _ _ 44 rfl w.heap.size 3 i0 (.int .i64 0) 1 8 Try.underlying44 hi hz0 hz1 hz2 rfl (by decide) _ _ _ rfl (HB2.out.o3.alloc _) ⟨w2.heap.size, 0, none⟩ 1 1 [.int .i64 (k : Int)] rfl rfl cell_set ?c2 ?c3 ?c4 ?c5 ?_)
      case c2 => first | rfl | (intro u hu; simp at hu; subst hu; rfl)
      case c3 => unfold maxLen; omega
      case c4 => omega
      case c5 => first | omega | (simp; omega) | (simp [World.setCell]; omega)
      intro x3 w3 hown3 hgrow3 _ hor3
      obtain ⟨g3, cap3, rfl⟩ := own_succ hown3
      have hsz3 : (w2.setCell ⟨p, 2, none⟩ (.slice (some ⟨g2, 0, none⟩) (k + 1) cap2)).heap.size = w2.heap.size := by simp [World.setCell]
      obtain ⟨hB3, hb3, hr3⟩ := Build.step3 HB2.out HL2.out hgrow3 hown3 (by rw [hsz3]; exact hor3)
      have HB3 : Shut _ := ⟨hB3⟩
      have HL3 : Shut _ := ⟨hb3⟩
      have s3 : w.heap.size ≤ w3.heap.size + 1 := by have := hb3.size; simp [World.setCell] at this; omega
      have d3 : w3.cell? ⟨p, 3, none⟩ = some v3 := hr3.cell 3 _ rfl
      have f3 := hr3.free 3
      clear hB3 hb3 hr3 hgrow3 hown3 hor3
      go_wp2_with fail
      go_roundw
      case rel => exact ⟨k + 1, _, _, _, by omega, by go_num, HB3, HL3⟩
      case measure => simp [intOf]; omega
    · obtain rfl : k = r := by omega
      have hd : decide ((k : Int) < k) = false := by simp
      obtain ⟨bk, hbp, hA⟩ := Build.done' HBk.out (by have := HN.out; omega)
      subst hbp
      have HA : Shut _ := ⟨hA⟩
      clear hA HBk
      obtain ⟨r, rfl⟩ : ∃ r, r = k := ⟨_, rfl⟩
      go_wp2_with fail
      go_loopw [7] (fun i W => ∃ (d : Nat) (v : Value) (x : Int), n + d ≤ r ∧ i = .int .i64 x ∧ Shut (x = (n : Int) + d - 1) ∧ Shut (AnAt hdR w.heap.size W bk v (midAn r n d)) ∧ Shut (Below w.heap.size w W)) (fun i _ => (intOf i + 1).toNat)
      case atStart => exact ⟨r - n, _, _, by have := HN.out; omega, rfl, ⟨by have := HN.out; omega⟩, ⟨by rw [mid_full r n (r - n) (by have := HN.out; omega)]; exact HA.out⟩, HBL⟩
      case round =>
        obtain ⟨d, v, x, hd, rfl, HX, HM, HB⟩ := hrel
        clear HA HBL
        match d, hd, HX, HM with
        | 0, hd, HX, HM =>
          have hx : ¬ (n : Int) ≤ x := by have := HX.out; omega
          go_wp2_with fail
          go_ret
          exact ⟨bk, rfl, ⟨v, HM.out⟩, HB.out⟩
        | d + 1, hd, HX, HM =>
          obtain rfl : x = ((n + d : Nat) : Int) := by have := HX.out; omega
          have hS : (midAn r n (d + 1)).S.length ≤ 65536 := by rw [mid_length]; have := HR.out; omega
          have HS := mid_step r n d (by omega)
          obtain ⟨y, hy⟩ : ∃ y, n + d = y := ⟨_, rfl⟩
          have hA1 := HM.out.setA y y (by show y < r; omega) rfl
          have hown := hA1.st
          have c1 : wr.cell? ⟨bk.p, 0, none⟩ = some (.slice (some ⟨bk.a, 0, none⟩) r bk.ca) := HM.out.headR.1
          have c5 := HM.out.headR.2.2.2.2.1
          have ca : wr.cell? ⟨bk.a, y, none⟩ = some (.int .i64 ((midAn r n (d + 1)).A y : Int)) := HM.out.cellA y (by show y < r; omega)
          have ga := HM.out.la.free y
          have hpa : ¬ bk.p = bk.a := HM.out.ne.1
          have hap : ¬ bk.a = bk.p := fun e => hpa e.symm
          have hy1 : (y : Int) < r := by omega
          have hny : (n : Int) ≤ y := by omega
          rw [hy]
          go_wp2_with (at_builtin; refine wpList_append_own_at _ rfl _ _ 44 rfl w.heap.size 3 i0 (.int .i64 0) 1 8 Try.underlying44 hi hz0 hz1 hz2 rfl (by decide) _ _ _ rfl (hown.alloc _) ⟨wr.heap.size, 0, none⟩ 1 1 [.int .i64 (y : Int)] rfl rfl cell_set ?c2 ?c3 ?c4 ?c5 ?_)
          case c2 => rfl
          case c3 => unfold maxLen; omega
          case c4 => omega
          case c5 => have := HB.out.size; omega
          intro v' w1 hown' hgrow _ hor
          obtain ⟨g, cap, rfl⟩ := own_succ hown'
          obtain ⟨v', hv'⟩ : ∃ v', Value.slice (some ⟨g, 0, none⟩) ((midAn r n (d + 1)).S.length + 1) cap = v' := ⟨_, rfl⟩
          rw [hv'] at hown' hor
          have hB0 : Below (wr.setCell ⟨bk.a, y, none⟩ (.int .i64 (y : Int))).heap.size (wr.setCell ⟨bk.a, y, none⟩ (.int .i64 (y : Int))) ((wr.setCell ⟨bk.a, y, none⟩ (.int .i64 (y : Int))).alloc (.cells #[.int .i64 (y : Int)] 3)) := (Below.refl _ _).alloc (Nat.le_refl _) _
          have hA0 := hA1.on hB0
          have hor' : v'.ownBlock = v.ownBlock ∨ v'.ownBlock = some ((wr.setCell ⟨bk.a, y, none⟩ (.int .i64 (y : Int))).alloc (.cells #[.int .i64 (y : Int)] 3)).heap.size := by
            rw [World.size_alloc, show (wr.setCell ⟨bk.a, y, none⟩ (.int .i64 (y : Int))).heap.size = wr.heap.size by simp [World.setCell]]
            exact hor
          have hr1 := hA0.head_grown hgrow
          have d5 : w1.cell? ⟨bk.p, 4, none⟩ = some v := hr1.cell 4 _ rfl
          have g5 := hr1.free 4
          have hA2 := hA0.setS hgrow (S := y :: (midAn r n (d + 1)).S) 4 rfl (by rw [stk_cons]; exact hown') hor'
          have HA2 : Shut (AnAt hdR w.heap.size (w1.setCell ⟨bk.p, 4, none⟩ v') bk v' (midAn r n d)) := ⟨by rw [← HS, hy]; exact hA2⟩
          have hb1 : Below w.heap.size w (wr.setCell ⟨bk.a, y, none⟩ (.int .i64 (y : Int))) := HB.out.setCell (p := ⟨bk.a, y, none⟩) (HM.out.ge _ bk.ma) _
          have hb2 := (hb1.alloc hb1.size (.cells #[.int .i64 (y : Int)] 3)).grown hgrow (by have := hb1.size; simp at this ⊢; omega) (fun j e => (hown.lt j e).1)
          have HB3 : Shut (Below w.heap.size w (w1.setCell ⟨bk.p, 4, none⟩ v')) := ⟨hb2.setCell (p := ⟨bk.p, 4, none⟩) (HM.out.ge _ bk.mp) v'⟩
          have hyr : (y : Int) ≤ 1000000 := by have := HR.out; omega
          have HY : Shut ((y : Int) - 1 = (n : Int) + d - 1) := ⟨by omega⟩
          clear hB0 hA0 hor hor' hr1 hA2 hgrow hown' hown hb1 hb2 hA1 c1 c5 ca ga hpa hap HS HM HB hy
          subst hv'
          go_wp2_with fail
          go_roundw
          case rel => exact ⟨d, _, _, by omega, rfl, HY, HA2, HB3⟩
          case measure => simp [intOf]
end Go.Proofs.Ytckkdgifjgkoaaa
