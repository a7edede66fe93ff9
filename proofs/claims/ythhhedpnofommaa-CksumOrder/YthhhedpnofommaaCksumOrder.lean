/- CksumOrder answers true for every list of words that may be in memory, every place and every bit, and changes nothing that was there before. -/
import Derived.Test.YthhhedpnofommaaRows
import Derived.OpenShut
import Derived.ShutString
import Derived.ChangeOld
import Derived.Below
import Derived.SizedLaws
import Derived.Test.YthhhedpnofommaaCkEx
import Derived.Test.YthhhedpnofommaaCkOrd
namespace Go.Proofs.Ythhhedpnofommaa.cksumOrder
open Go.ChangeShapes Go.WideShapes Go.ChangeAt Go.RowKit
open Go.ChangeMaps (open_string shut_string)
set_option linter.unusedVariables false
/-- A slice of integers that came in: nil, or a row of cells. -/
def IsRow (k : IntKind) (w : World) (a : Option Addr) (len cap : Nat) (zs : List Int) : Prop :=
  (a = none ∧ len = 0 ∧ cap = 0 ∧ zs = []) ∨
  ∃ x, a = some x ∧ len ≤ cap ∧ cap ≤ maxLen ∧ zs.length = cap ∧ (∀ i, i < zs.length → w.cell? (x.add i) = some (.int k (zs.getD i 0))) ∧ ∀ n ∈ zs, (Lit.int k n).wf = true
theorem row_cases {w : World} {a : Option Addr} {len cap : Nat} {zs : List Int} (h : IsRow .u16 w a len cap zs) : (a = none ∧ len = 0 ∧ cap = 0) ∨ ∃ x, a = some x ∧ len ≤ cap ∧ cap ≤ 9223372036854775807 ∧ ∀ m, m ≤ len → ∃ ys, ys.length = m ∧ Reads .u16 w x ys ∧ ∀ z ∈ ys, 0 ≤ z ∧ z ≤ 65535 := by
  rcases h with ⟨h1, h2, h3, _⟩ | ⟨x, h1, h2, h3, h4, h5, h6⟩
  · exact .inl ⟨h1, h2, h3⟩
  · refine .inr ⟨x, h1, h2, by unfold maxLen at h3; exact h3, fun m hm => ⟨zs.take m, by rw [List.length_take]; omega, fun i hi => ?_, fun z hz => u16_bounds (h6 z (List.mem_of_mem_take hz))⟩⟩
    rw [List.length_take] at hi
    rw [h5 i (by omega), List.getD_eq_getElem?_getD, List.getD_eq_getElem?_getD, List.getElem?_take_of_lt (by omega)]

set_option maxRecDepth 100000 in
set_option maxHeartbeats 4000000 in
theorem walk_none (w : World) (a1 a2 : Int) :
    Calls Try.prog 7 #[.slice none 0 0, .int .i64 a1, .int .u8 a2] w fun e w' => e = .returned (.bool true) ∧ Below w.heap.size w w' := by
  go_enter Try.func7, Try.ntmps7
  go_wp2_with fail
  refine (examples_ok _).mono ?_
  rintro e w1 ⟨rfl, hb1⟩
  have HB := hide hb1
  clear hb1
  go_wp2_with fail
  refine wp_loop_rounds 1 ?_
  rw [rounds_succ]
  go_wp2_with fail
  refine (join_nil _).mono ?_
  rintro e w1 ⟨rfl, rfl⟩
  go_wp2_with fail
  refine (join_nil _).mono ?_
  rintro e w1 ⟨rfl, rfl⟩
  go_wp2_with fail
  refine (join_nil _).mono ?_
  rintro e w1 ⟨rfl, rfl⟩
  go_wp2_with fail
  go_ret
  exact ⟨rfl, unhide HB⟩

theorem which_any (a : Int) (m : Nat) (hm : 0 < m) : ∃ q : Nat, q < m ∧ ((a < 0 ∧ -(a + 1).tmod m = q) ∨ (¬ a < 0 ∧ a % (m : Int) = q)) := by
  by_cases h : a < 0
  · have r0 : 0 ≤ (-(a + 1)) % (m : Int) := Int.emod_nonneg _ (by omega)
    have r1 : (-(a + 1)) % (m : Int) < m := Int.emod_lt_of_pos _ (by omega)
    obtain ⟨y, hy⟩ : ∃ y, -(a + 1) = y := ⟨_, rfl⟩
    have e : a + 1 = -y := by omega
    rw [hy] at r0 r1
    refine ⟨(y % (m : Int)).toNat, by omega, .inl ⟨h, ?_⟩⟩
    rw [e, Int.neg_tmod, Int.neg_neg, Int.tmod_eq_emod_of_nonneg (by omega)]
    omega
  · have r0 : 0 ≤ a % (m : Int) := Int.emod_nonneg _ (by omega)
    have r1 : a % (m : Int) < m := Int.emod_lt_of_pos _ (by omega)
    exact ⟨(a % (m : Int)).toNat, by omega, .inr ⟨h, by omega⟩⟩

set_option maxRecDepth 100000 in
set_option maxHeartbeats 8000000 in
theorem walk_len (w : World) (x : Addr) (len cap : Nat) (a1 a2 : Int) (ys : List Int) (hlen : len ≤ cap) (hcap : cap ≤ 9223372036854775807) (hm : (len : Int) ≤ 60) (hy : ys.length = len) (hr : Reads .u16 w x ys) (hz : ∀ z ∈ ys, 0 ≤ z ∧ z ≤ 65535) (b0 : 0 ≤ a2) (b1 : a2 ≤ 255) (i0 : -9223372036854775808 ≤ a1) (i1 : a1 ≤ 9223372036854775807) :
    Calls Try.prog 7 #[.slice (some x) len cap, .int .i64 a1, .int .u8 a2] w fun e w' => e = .returned (.bool true) ∧ Below w.heap.size w w' := by
  obtain ⟨ti, hi, hz0, hz1, hz2⟩ := info_parts info_u16
  have HR := hide hr
  have HZ := hide hz
  have HY := hide hy
  obtain ⟨r, hrr⟩ : ∃ r, Ck.fold (Ck.usum ys) = r := ⟨_, rfl⟩
  have HRR := hide hrr
  have hjl : ∀ u, Below w.heap.size w u → Calls Try.prog 17 #[.slice (some x) len cap] u fun e w' => e = .returned (.int .u16 r) ∧ w' = u := fun u hb => by
    have h := join_row x cap ys u (by omega) (reads_on hr hb) hz
    rw [hy, hrr] at h
    exact h
  have hjb : ∀ u base v, u.ownsRow base 25 1 v len (ys.reverse.map (Value.int .u16)) → Calls Try.prog 17 #[v] u fun e w' => e = .returned (.int .u16 r) ∧ w' = u := fun u base v h => by
    have h := join_own u base len 25 v ys.reverse h (by simp; exact hy) (by omega) (fun z hz' => hz z (List.mem_reverse.1 hz'))
    rw [usum_rev ys hz (by omega), hrr] at h
    exact h
  have HJL := hide hjl
  have HJB := hide hjb
  clear hr hz hrr hy hjl hjb
  go_enter Try.func7, Try.ntmps7
  go_wp2_with fail
  refine (examples_ok _).mono ?_
  rintro e w1 ⟨rfl, hb1⟩
  have HB := hide hb1
  clear hb1
  go_wp2_with fail
  all_goals try (exfalso; omega)
  go_loopw [8, 9] (fun v i wr => ∃ j n : Nat, j + n = len ∧ i = .int .i64 ((j : Int) - 1) ∧ wr.ownsRow w1.heap.size 25 1 v n (revs ys n) ∧ Below w1.heap.size w1 wr) (fun _ i _ => (intOf i + 1).toNat)
  case atStart =>
    exact ⟨len, 0, rfl, rfl, World.ownsRow_nil _ _ _ _, Below.refl _ _⟩
  case round =>
    obtain ⟨j, n, hj, rfl, hown, hbl⟩ := hrel
    cases j with
    | succ j =>
      have e1 : ((j + 1 : Nat) : Int) - 1 = j := by omega
      rw [e1]
      have hbw := Below.then (unhide HB) hbl
      have hc := reads_on (unhide HR) hbw j (by rw [unhide HY]; omega)
      have HX := hide (revs_succ ys j n (by rw [unhide HY]; exact hj))
      have jl : (j : Int) < (len : Int) := by omega
      have HBL := hide hbl
      have HOW := hide hown
      generalize ys.getD j 0 = z at *
      clear hbw
      go_wp2_with (at_builtin; refine wpList_append_own _ rfl _ _ 23 rfl w1.heap.size 25 ti (.int .u16 0) 1 2 Try.underlying23 hi hz0 hz1 hz2 rfl (by decide) _ _ _ rfl (hown.alloc _) ⟨wr.heap.size, 0, none⟩ 1 1 [.int .u16 z] rfl rfl ?c1 ?c2 ?c3 ?c4 ?c5 ?_)
      case c1 =>
        intro j u hj
        match j, hj with
        | 0, hj => simp at hj; subst hj; simp [Addr.add]
      case c2 => intro u hu; simp at hu; subst hu; rfl
      case c3 => unfold maxLen; omega
      case c4 => omega
      case c5 => have := hbl.size; simp; omega
      intro v' w2 hown' hgrow _
      have hrel' := order_rel ys n z _ _ w1 wr w2 (unhide HX) (unhide HOW) (unhide HBL) hown' hgrow
      have HREL := hide hrel'
      clear hrel' hown' hgrow hown hbl
      go_wp2_with fail
      go_roundw
      case rel => exact ⟨j, n + 1, by omega, by go_num, (unhide HREL).1, (unhide HREL).2⟩
      case measure => first | (simp [intOf]; done) | (simp [intOf]; omega)
    | zero =>
      have hown2 := hown
      have hn : n = len := by omega
      rw [hn, show revs ys len = ys.reverse.map (Value.int .u16) by rw [← revs_all, unhide HY]] at hown2
      have HOW := hide hown2
      have HB2 := hide (Below.then (unhide HB) hbl)
      clear hown hown2 hbl
      simp only [Int.natCast_zero, Int.zero_sub]
      go_wp2_with fail
      refine ((unhide HJL) _ (unhide HB2)).mono ?_
      rintro e w3 ⟨rfl, rfl⟩
      go_wp2_with fail
      refine ((unhide HJB) _ _ _ (unhide HOW)).mono ?_
      rintro e w3 ⟨rfl, rfl⟩
      by_cases hzero : len = 0
      · subst hzero
        go_wp2_with fail
        refine (join_nil _).mono ?_
        rintro e w1 ⟨rfl, rfl⟩
        go_wp2_with fail
        go_ret
        exact ⟨rfl, unhide HB2⟩
      have hpos : 0 < len := by omega
      have hl0 : ((len : Int) == 0) = false := by first | (simp; done) | (simp; omega)
      obtain ⟨q, hq⟩ : ∃ q : Nat, q < len ∧ ((a1 < 0 ∧ -(a1 + 1).tmod (len : Int) = q) ∨ (¬ a1 < 0 ∧ a1 % (len : Int) = q)) := which_any a1 len hpos
      obtain ⟨hq1, hq2⟩ := hq
      rcases hq2 with ⟨hneg, hqe⟩ | ⟨hneg, hqe⟩
      all_goals
        go_wp2_with (at_builtin; refine wpList_append_own _ rfl _ _ 23 rfl w3.heap.size 25 ti (.int .u16 0) 1 2 Try.underlying23 hi hz0 hz1 hz2 rfl (by decide) _ _ _ rfl (World.ownsRow_nil _ _ _ _) x len cap (ys.map (Value.int .u16)) rfl ?c0 ?c1 ?c2 ?c3 ?c4 ?c5 ?_)
        case c0 => have := unhide HY; rw [List.length_map]; omega
        case c1 =>
          intro j u hj
          have hc := reads_on (unhide HR) (unhide HB2)
          rw [List.getElem?_map] at hj
          rcases Nat.lt_or_ge j ys.length with hl | hl
          · rw [List.getElem?_eq_getElem hl] at hj
            simp at hj
            rw [hc j hl, ← hj, List.getD_eq_getElem?_getD, List.getElem?_eq_getElem hl]; rfl
          · rw [List.getElem?_eq_none hl] at hj; cases hj
        case c2 => intro u hu; simp at hu; obtain ⟨a, _, rfl⟩ := hu; rfl
        case c3 => unfold maxLen; omega
        case c4 => omega
        case c5 => exact Nat.le_refl _
        intro v' w4 hown' hgrow _
        have hown4 : w4.ownsRow w3.heap.size 25 1 v' len (ys.map (Value.int .u16)) := by simpa using hown'
        have hb4 : Below w3.heap.size w3 w4 := (Below.refl _ _).grown hgrow (Nat.le_refl _) (fun k e => by cases e)
        clear hown' hgrow
        obtain ⟨g, cap', hv, hg3⟩ : ∃ g cap', v' = .slice (some ⟨g, 0, none⟩) len cap' ∧ w3.heap.size ≤ g := by
          obtain ⟨_, ⟨_, h⟩ | ⟨g, cap', cur, h1, h2, _⟩⟩ := hown4
          · omega
          · exact ⟨g, cap', h1, h2⟩
        subst hv
        have hcq : w4.cell? ⟨g, q, none⟩ = some (.int .u16 (ys.getD q 0)) := by
          rw [hown4.cellAt q (by omega), List.getElem?_map, List.getElem?_eq_getElem (by rw [unhide HY]; exact hq1), List.getD_eq_getElem?_getD, List.getElem?_eq_getElem (by rw [unhide HY]; exact hq1)]; rfl
        have hfq := hown4.frozenAt q
        obtain ⟨y, hy1, hy2, hy3, hy4⟩ := turned_sum ys (unhide HZ) (by rw [unhide HY]; omega) q (by rw [unhide HY]; exact hq1) (a2 % 16).toNat (by omega)
        have hjo : ∀ u, (∀ i, i < len → u.cell? ((⟨g, 0, none⟩ : Addr).add i) = some (.int .u16 ((ys.set q y).getD i 0))) → Calls Try.prog 17 #[.slice (some ⟨g, 0, none⟩) len cap'] u fun e w' => e = .returned (.int .u16 (Ck.fold (Ck.usum (ys.set q y)))) ∧ w' = u := fun u hu => by
          have h := join_row ⟨g, 0, none⟩ cap' (ys.set q y) u (by rw [List.length_set, unhide HY]; omega) (fun i hi => hu i (by rw [List.length_set, unhide HY] at hi; exact hi)) (fun z hz' => by
            rcases List.mem_or_eq_of_mem_set hz' with h1 | h1
            · exact unhide HZ z h1
            · omega)
          rw [List.length_set, unhide HY] at h
          exact h
        rw [unhide HRR] at hy4
        have HJO := hide hjo
        have HO4 := hide hown4
        have HB4 := hide hb4
        have qi : (q : Int) < (len : Int) := by omega
        generalize hx0 : ys.getD q 0 = x0 at *
        clear hown4 hb4 hjo
        go_wp2_with fail
        go_region
        go_wp2_with fail
        have hB5 := ((Below.then (unhide HB2) (unhide HB4)).setCell (p := ⟨g, q, none⟩) (Nat.le_trans (unhide HB2).size hg3) (.int .u16 y)).drew
        refine ((unhide HJO) _ (own_set (unhide HO4) (unhide HY) hq1)).mono ?_
        rintro e w5 ⟨rfl, rfl⟩
        go_wp2_with fail
        refine ((unhide HJL) _ hB5).mono ?_
        rintro e w5 ⟨rfl, rfl⟩
        go_wp2_with fail
        go_ret
        exact ⟨rfl, hB5⟩
set_option maxRecDepth 100000 in
set_option maxHeartbeats 8000000 in
theorem walk_cut (w : World) (x : Addr) (len cap : Nat) (a1 a2 : Int) (ys : List Int) (hlen : len ≤ cap) (hcap : cap ≤ 9223372036854775807) (hm : 60 < (len : Int)) (hy : ys.length = 60) (hr : Reads .u16 w x ys) (hz : ∀ z ∈ ys, 0 ≤ z ∧ z ≤ 65535) (b0 : 0 ≤ a2) (b1 : a2 ≤ 255) (i0 : -9223372036854775808 ≤ a1) (i1 : a1 ≤ 9223372036854775807) :
    Calls Try.prog 7 #[.slice (some x) len cap, .int .i64 a1, .int .u8 a2] w fun e w' => e = .returned (.bool true) ∧ Below w.heap.size w w' := by
  obtain ⟨ti, hi, hz0, hz1, hz2⟩ := info_parts info_u16
  have HR := hide hr
  have HZ := hide hz
  have HY := hide hy
  obtain ⟨r, hrr⟩ : ∃ r, Ck.fold (Ck.usum ys) = r := ⟨_, rfl⟩
  have HRR := hide hrr
  have hjl : ∀ u, Below w.heap.size w u → Calls Try.prog 17 #[.slice (some x) 60 cap] u fun e w' => e = .returned (.int .u16 r) ∧ w' = u := fun u hb => by
    have h := join_row x cap ys u (by omega) (reads_on hr hb) hz
    rw [hy, hrr] at h
    exact h
  have hjb : ∀ u base v, u.ownsRow base 25 1 v 60 (ys.reverse.map (Value.int .u16)) → Calls Try.prog 17 #[v] u fun e w' => e = .returned (.int .u16 r) ∧ w' = u := fun u base v h => by
    have h := join_own u base 60 25 v ys.reverse h (by simp; exact hy) (by omega) (fun z hz' => hz z (List.mem_reverse.1 hz'))
    rw [usum_rev ys hz (by omega), hrr] at h
    exact h
  have HJL := hide hjl
  have HJB := hide hjb
  clear hr hz hrr hy hjl hjb
  go_enter Try.func7, Try.ntmps7
  go_wp2_with fail
  refine (examples_ok _).mono ?_
  rintro e w1 ⟨rfl, hb1⟩
  have HB := hide hb1
  clear hb1
  go_wp2_with fail
  all_goals try (exfalso; omega)
  go_loopw [8, 9] (fun v i wr => ∃ j n : Nat, j + n = 60 ∧ i = .int .i64 ((j : Int) - 1) ∧ wr.ownsRow w1.heap.size 25 1 v n (revs ys n) ∧ Below w1.heap.size w1 wr) (fun _ i _ => (intOf i + 1).toNat)
  case atStart =>
    exact ⟨60, 0, rfl, by simp, World.ownsRow_nil _ _ _ _, Below.refl _ _⟩
  case round =>
    obtain ⟨j, n, hj, rfl, hown, hbl⟩ := hrel
    cases j with
    | succ j =>
      have e1 : ((j + 1 : Nat) : Int) - 1 = j := by omega
      rw [e1]
      have hbw := Below.then (unhide HB) hbl
      have hc := reads_on (unhide HR) hbw j (by rw [unhide HY]; omega)
      have HX := hide (revs_succ ys j n (by rw [unhide HY]; exact hj))
      have jl : (j : Int) < 60 := by omega
      have HBL := hide hbl
      have HOW := hide hown
      generalize ys.getD j 0 = z at *
      clear hbw
      go_wp2_with (at_builtin; refine wpList_append_own _ rfl _ _ 23 rfl w1.heap.size 25 ti (.int .u16 0) 1 2 Try.underlying23 hi hz0 hz1 hz2 rfl (by decide) _ _ _ rfl (hown.alloc _) ⟨wr.heap.size, 0, none⟩ 1 1 [.int .u16 z] rfl rfl ?c1 ?c2 ?c3 ?c4 ?c5 ?_)
      case c1 =>
        intro j u hj
        match j, hj with
        | 0, hj => simp at hj; subst hj; simp [Addr.add]
      case c2 => intro u hu; simp at hu; subst hu; rfl
      case c3 => unfold maxLen; omega
      case c4 => omega
      case c5 => have := hbl.size; simp; omega
      intro v' w2 hown' hgrow _
      have hrel' := order_rel ys n z _ _ w1 wr w2 (unhide HX) (unhide HOW) (unhide HBL) hown' hgrow
      have HREL := hide hrel'
      clear hrel' hown' hgrow hown hbl
      go_wp2_with fail
      go_roundw
      case rel => exact ⟨j, n + 1, by omega, by go_num, (unhide HREL).1, (unhide HREL).2⟩
      case measure => first | (simp [intOf]; done) | (simp [intOf]; omega)
    | zero =>
      have hown2 := hown
      have hn : n = 60 := by omega
      rw [hn, show revs ys 60 = ys.reverse.map (Value.int .u16) by rw [← revs_all, unhide HY]] at hown2
      have HOW := hide hown2
      have HB2 := hide (Below.then (unhide HB) hbl)
      clear hown hown2 hbl
      simp only [Int.natCast_zero, Int.zero_sub]
      go_wp2_with fail
      refine ((unhide HJL) _ (unhide HB2)).mono ?_
      rintro e w3 ⟨rfl, rfl⟩
      go_wp2_with fail
      refine ((unhide HJB) _ _ _ (unhide HOW)).mono ?_
      rintro e w3 ⟨rfl, rfl⟩
      have hpos : 0 < 60 := by omega
      have hl0 : (60 == 0) = false := by first | (simp; done) | (simp; omega)
      obtain ⟨q, hq⟩ : ∃ q : Nat, q < 60 ∧ ((a1 < 0 ∧ -(a1 + 1).tmod 60 = q) ∨ (¬ a1 < 0 ∧ a1 % 60 = q)) := which_any a1 60 hpos
      obtain ⟨hq1, hq2⟩ := hq
      rcases hq2 with ⟨hneg, hqe⟩ | ⟨hneg, hqe⟩
      all_goals
        go_wp2_with (at_builtin; refine wpList_append_own _ rfl _ _ 23 rfl w3.heap.size 25 ti (.int .u16 0) 1 2 Try.underlying23 hi hz0 hz1 hz2 rfl (by decide) _ _ _ rfl (World.ownsRow_nil _ _ _ _) x 60 cap (ys.map (Value.int .u16)) rfl ?c0 ?c1 ?c2 ?c3 ?c4 ?c5 ?_)
        case c0 => have := unhide HY; rw [List.length_map]; omega
        case c1 =>
          intro j u hj
          have hc := reads_on (unhide HR) (unhide HB2)
          rw [List.getElem?_map] at hj
          rcases Nat.lt_or_ge j ys.length with hl | hl
          · rw [List.getElem?_eq_getElem hl] at hj
            simp at hj
            rw [hc j hl, ← hj, List.getD_eq_getElem?_getD, List.getElem?_eq_getElem hl]; rfl
          · rw [List.getElem?_eq_none hl] at hj; cases hj
        case c2 => intro u hu; simp at hu; obtain ⟨a, _, rfl⟩ := hu; rfl
        case c3 => unfold maxLen; omega
        case c4 => omega
        case c5 => exact Nat.le_refl _
        intro v' w4 hown' hgrow _
        have hown4 : w4.ownsRow w3.heap.size 25 1 v' 60 (ys.map (Value.int .u16)) := by simpa using hown'
        have hb4 : Below w3.heap.size w3 w4 := (Below.refl _ _).grown hgrow (Nat.le_refl _) (fun k e => by cases e)
        clear hown' hgrow
        obtain ⟨g, cap', hv, hg3⟩ : ∃ g cap', v' = .slice (some ⟨g, 0, none⟩) 60 cap' ∧ w3.heap.size ≤ g := by
          obtain ⟨_, ⟨_, h⟩ | ⟨g, cap', cur, h1, h2, _⟩⟩ := hown4
          · omega
          · exact ⟨g, cap', h1, h2⟩
        subst hv
        have hcq : w4.cell? ⟨g, q, none⟩ = some (.int .u16 (ys.getD q 0)) := by
          rw [hown4.cellAt q (by omega), List.getElem?_map, List.getElem?_eq_getElem (by rw [unhide HY]; exact hq1), List.getD_eq_getElem?_getD, List.getElem?_eq_getElem (by rw [unhide HY]; exact hq1)]; rfl
        have hfq := hown4.frozenAt q
        obtain ⟨y, hy1, hy2, hy3, hy4⟩ := turned_sum ys (unhide HZ) (by rw [unhide HY]; omega) q (by rw [unhide HY]; exact hq1) (a2 % 16).toNat (by omega)
        have hjo : ∀ u, (∀ i, i < 60 → u.cell? ((⟨g, 0, none⟩ : Addr).add i) = some (.int .u16 ((ys.set q y).getD i 0))) → Calls Try.prog 17 #[.slice (some ⟨g, 0, none⟩) 60 cap'] u fun e w' => e = .returned (.int .u16 (Ck.fold (Ck.usum (ys.set q y)))) ∧ w' = u := fun u hu => by
          have h := join_row ⟨g, 0, none⟩ cap' (ys.set q y) u (by rw [List.length_set, unhide HY]; omega) (fun i hi => hu i (by rw [List.length_set, unhide HY] at hi; exact hi)) (fun z hz' => by
            rcases List.mem_or_eq_of_mem_set hz' with h1 | h1
            · exact unhide HZ z h1
            · omega)
          rw [List.length_set, unhide HY] at h
          exact h
        rw [unhide HRR] at hy4
        have HJO := hide hjo
        have HO4 := hide hown4
        have HB4 := hide hb4
        have qi : (q : Int) < 60 := by omega
        generalize hx0 : ys.getD q 0 = x0 at *
        clear hown4 hb4 hjo
        go_wp2_with fail
        go_region
        go_wp2_with fail
        have hB5 := ((Below.then (unhide HB2) (unhide HB4)).setCell (p := ⟨g, q, none⟩) (Nat.le_trans (unhide HB2).size hg3) (.int .u16 y)).drew
        refine ((unhide HJO) _ (own_set (unhide HO4) (unhide HY) hq1)).mono ?_
        rintro e w5 ⟨rfl, rfl⟩
        go_wp2_with fail
        refine ((unhide HJL) _ hB5).mono ?_
        rintro e w5 ⟨rfl, rfl⟩
        go_wp2_with fail
        go_ret
        exact ⟨rfl, hB5⟩
set_option maxHeartbeats 1000000 in
set_option maxRecDepth 100000 in
theorem walk (w : World) (a0 : Option Addr) (len0 cap0 : Nat) (z0 : List Int) (a1 : Int) (a2 : Int) (w0 : IsRow .u16 w a0 len0 cap0 z0) (w1 : (Lit.int .i64 a1).wf = true) (w2 : (Lit.int .u8 a2).wf = true) :
    Calls Try.prog 7 #[.slice a0 len0 cap0, .int .i64 a1, .int .u8 a2] w fun e w' => e = .returned (.bool true) ∧ Below w.heap.size w w' := by
  obtain ⟨b0, b1⟩ := i64_bounds w1
  obtain ⟨c0, c1⟩ := u8_bounds w2
  rcases row_cases w0 with ⟨rfl, rfl, rfl⟩ | ⟨x, rfl, h1, h2, h3⟩
  · exact walk_none w a1 a2
  · by_cases hm : (len0 : Int) ≤ 60
    · obtain ⟨ys, h4, h5, h6⟩ := h3 len0 (Nat.le_refl _)
      exact walk_len w x len0 cap0 a1 a2 ys h1 h2 hm h4 h5 h6 c0 c1 b0 b1
    · obtain ⟨ys, h4, h5, h6⟩ := h3 60 (by omega)
      exact walk_cut w x len0 cap0 a1 a2 ys h1 h2 (by omega) h4 h5 h6 c0 c1 b0 b1

theorem own : ownKnob Try.prog.godebug = none := by kernel_rfl
theorem laidOut : laidOutB Try.prog = true := by kernel_rfl
set_option maxRecDepth 100000 in
theorem lifted (os : Os) (started : os.Started) (H : Type) (enc : TypeId × Value → H) :
    ReturnsInHanded {} Try.checked os 7 .any (Rows.cksumOrderSpec.pre6 enc Try.prog Try.f7 Rows.cksumOrderRow.domain false) (Rows.cksumOrderSpec.post enc Try.prog Try.f7 false true false false) := by
  refine returnsInHanded_of_change_sized (C := Try.checked) own started (by kernel_rfl) Try.func7
    (ChangeSpec.witness6 (enc := enc) (C := Try.checked) false ⟨#[], #[.slice none 0 0, .int .i64 0, .int .u8 0], []⟩ 8 (by kernel_rfl) (by kernel_rfl) (by kernel_rfl) (by kernel_rfl)) ?_
  intro W base args ds gs before hval0 hW hcnd hsz _
  have hval : ∀ (j : Nat) t v, Try.f7.params[j]? = some t → args[j]? = some v → Value.okWide Try.prog W .any base t v := hval0
  have hW' := hW
  obtain ⟨p, q, hA0, hV, rfl, hfz, hnd⟩ := hW
  have hA : DataW.TrodAll enc Try.prog W 0 (fun _ => true) true Try.f7.params.toList args.toList ds p := hA0
  rw [Try.params7] at hA hval
  obtain ⟨v0, vs0, d0, ds0, p0, q0, hargs, rfl, rfl, h0, r0⟩ := trodAll_cons hA
  obtain ⟨v1, vs1, d1, ds1, p1, q1, rfl, rfl, rfl, h1, r1⟩ := trodAll_cons r0
  obtain ⟨v2, vs2, d2, ds2, p2, q2, rfl, rfl, rfl, h2, r2⟩ := trodAll_cons r1
  obtain ⟨rfl, rfl, rfl⟩ := trodAll_nil r2
  obtain rfl : args = #[v0, v1, v2] := by cases args; simp_all
  obtain ⟨rfl, rfl⟩ := trodVars_none hV
  obtain ⟨a0, len0, cap0, rfl⟩ := okWide_slice Try.underlying23 (hval 0 23 v0 rfl rfl)
  have k0 := h0
  have lt0 : ∀ x ∈ p0, x.block < W.heap.size := by obtain ⟨m, hm⟩ := k0; exact DataW.trod_lt m _ _ _ hm
  obtain ⟨z0, w0⟩ : ∃ zs, IsRow .u16 W a0 len0 cap0 zs := by
    obtain ⟨fuel, hf⟩ := h0
    rcases open_ints Try.underlying23 Try.underlying25 (by kernel_rfl) hf with ⟨hcs, _⟩ | ⟨x, l, c, zs, hcs, _, hl, hm, hz, _, hcell, hwz⟩
    · simp [Value.cells] at hcs
      obtain ⟨rfl, rfl, rfl⟩ := hcs
      exact ⟨[], .inl ⟨rfl, rfl, rfl, rfl⟩⟩
    · simp [Value.cells] at hcs
      obtain ⟨rfl, rfl, rfl⟩ := hcs
      exact ⟨zs, .inr ⟨_, rfl, hl, hm, by simpa using hz, hcell, hwz⟩⟩
  obtain ⟨a1, rfl, rfl, rfl, w1⟩ := open_int Try.underlying3 (hval 1 3 v1 rfl rfl) h1
  obtain ⟨a2, rfl, rfl, rfl, w2⟩ := open_int Try.underlying5 (hval 2 5 v2 rfl rfl) h2
  clear hA0 hval0
  refine (walk W a0 len0 cap0 z0 a1 a2 w0 w1 w2).mono fun e W' ⟨he, bel⟩ => ?_
  subst he
  exact ⟨_, rfl, _, _, _, [], _, [], hW', trodAll_mk1 (shut_bool Try.underlying4 _), (trodAll_cons_mk (Below.trod laidOut (by kernel_rfl) (of_decide_eq_true (by kernel_rfl)) k0 bel lt0) (trodAll_cons_mk (shut_int Try.underlying3 w1) (trodAll_cons_mk (shut_int Try.underlying5 w2) trodAll_mk0))), rfl, bel.frame _, fun h => by cases h⟩

theorem over : Rows.cksumOrderRow.holds Try.pinned (OpenSpec.ofChange Rows.cksumOrderSpec) :=
  OpenClaim.holds_of_wide 7 Try.f7 rfl rfl rfl rfl rfl rfl rfl ⟨rfl, rfl, rfl, rfl, rfl⟩ rfl rfl rfl rfl rfl (by kernel_rfl) Try.func7 (by kernel_rfl)
    (of_decide_eq_true (by kernel_rfl)) (by unfold Func.isWrapper; first | (rw [if_pos (by decide +kernel)]; kernel_rfl) | (rw [if_neg (by decide +kernel)]; exact ⟨rfl, rfl⟩))
    (fun os started H enc _ => lifted os started H enc)

theorem proved : Rows.CksumOrderSaid := over
#print axioms proved
end Go.Proofs.Ythhhedpnofommaa.cksumOrder
