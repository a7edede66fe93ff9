/- addr.ParseNet at every text. -/
import Derived.Test.YtnnhkjjnolhaoaaDoorAdNett
import Derived.Test.YtnnhkjjnolhaoaaDoorAdParse
namespace Go.Proofs.YtnnhkjjnolhaoaaDoor
open Go.ChangeShapes Go.WideShapes Go.ChangeAt Go.RowKit

set_option maxHeartbeats 400000 in
theorem tells_yes (n b : Int) (s : ByteArray) (w : World) (h0 : 0 ≤ n) (h1 : n ≤ 4294967295) (h : Ad.hasB n b n = true) (ht : Ad.netx n.toNat b.toNat = s.data.toList) (hE : Env w) :
    Calls Tryd.prog 31 #[.func (.func 17) #[.agg #[.int .u32 n, .int .i64 b]] #[], .string s] w fun e w' => e = .returned (.bool true) ∧ Below w.heap.size w w' := by
  have he : (Ad.netx n.toNat b.toNat == s.toList) = true := by rw [tl_eq, ht]; simp
  clear ht
  go_enter Tryd.func31, Tryd.ntmps31
  go_wp2_with fail
  refine (ntext_yes _ _ _ h0 h1 h hE).mono ?_
  rintro e w1 ⟨rfl, hb⟩
  go_wp2_with fail
  go_ret
  exact ⟨rfl, hb⟩
set_option maxHeartbeats 400000 in
theorem tells_other (n b : Int) (s : ByteArray) (w : World) (h0 : 0 ≤ n) (h1 : n ≤ 4294967295) (h : Ad.hasB n b n = true) (ht : Ad.netx n.toNat b.toNat ≠ s.data.toList) (hE : Env w) :
    Calls Tryd.prog 31 #[.func (.func 17) #[.agg #[.int .u32 n, .int .i64 b]] #[], .string s] w fun e w' => e = .returned (.bool false) ∧ Below w.heap.size w w' := by
  have he : (Ad.netx n.toNat b.toNat == s.toList) = false := by rw [tl_eq]; exact beq_eq_false_iff_ne.2 ht
  clear ht
  go_enter Tryd.func31, Tryd.ntmps31
  go_wp2_with fail
  refine (ntext_yes _ _ _ h0 h1 h hE).mono ?_
  rintro e w1 ⟨rfl, hb⟩
  go_wp2_with fail
  go_ret
  exact ⟨rfl, hb⟩
set_option maxHeartbeats 400000 in
theorem tells_wrong (n b : Int) (s : ByteArray) (w : World) (h0 : 0 ≤ n) (h1 : n ≤ 4294967295) (h : Ad.hasB n b n = false) :
    Calls Tryd.prog 31 #[.func (.func 17) #[.agg #[.int .u32 n, .int .i64 b]] #[], .string s] w fun e w' => e = .returned (.bool false) ∧ Below w.heap.size w w' := by
  go_enter Tryd.func31, Tryd.ntmps31
  go_wp2_with fail
  refine (ntext_no _ _ _ h0 h1 h).mono ?_
  rintro e w1 ⟨rfl, hb⟩
  go_wp2_with fail
  go_ret
  exact ⟨rfl, hb⟩
theorem tells_no (n b : Int) (s : ByteArray) (w : World) (h0 : 0 ≤ n) (h1 : n ≤ 4294967295) (h : ¬ (Ad.hasB n b n = true ∧ Ad.netx n.toNat b.toNat = s.data.toList)) (hE : Env w) :
    Calls Tryd.prog 31 #[.func (.func 17) #[.agg #[.int .u32 n, .int .i64 b]] #[], .string s] w fun e w' => e = .returned (.bool false) ∧ Below w.heap.size w w' := by
  cases hh : Ad.hasB n b n with
  | true => exact tells_other n b s w h0 h1 hh (fun e => h ⟨hh, e⟩) hE
  | false => exact tells_wrong n b s w h0 h1 hh

theorem set2 (w : World) (b : Nat) (x y : Value) {u v : Value} (h0 : w.cell? ⟨b, 0, none⟩ = some u) (h1 : w.cell? ⟨b, 1, none⟩ = some v) :
    (w.setCell ⟨b, 0, none⟩ x).cell? ⟨b, 0, none⟩ = some x ∧ ((w.setCell ⟨b, 0, none⟩ x).setCell ⟨b, 1, none⟩ y).cell? ⟨b, 1, none⟩ = some y := by
  have ne : (⟨b, 0, none⟩ : Addr) ≠ ⟨b, 1, none⟩ := by simp
  refine ⟨World.cell?_setCell_same _ _ _ h0, World.cell?_setCell_same (u := v) _ _ _ ?_⟩
  rw [World.cell?_setCell_other _ _ _ _ ne]; exact h1

set_option maxHeartbeats 1000000 in
theorem pnet_yes (s : ByteArray) (a b : Nat) (w : World) (hs : s.size ≤ 140737488355328) (hE : Env w) (h : Ad.IsNet s.data.toList a b) :
    Calls Tryd.prog 19 #[.string s] w fun e w' => e = .returned (.tuple #[.agg #[.int .u32 a, .int .i64 b], .bool true]) ∧ Below w.heap.size w w' := by
  have hz1 : (ByteArray.mk (Ad.after 47 s.data.toList).toArray).size ≤ 140737488355328 := by
    have := Ad.after_len 47 s.data.toList
    rw [len_eq] at this; rw [mk_size]; omega
  have hz2 : (ByteArray.mk (Ad.before 47 s.data.toList).toArray).size ≤ 140737488355328 := by
    have := Ad.before_len 47 s.data.toList
    rw [len_eq] at this; rw [mk_size]; omega
  have hg := Ad.net_gs h
  have hv := Ad.net_av h
  obtain ⟨ha, hb, hc, ht⟩ := h
  have hh : Ad.hasB a b a = true := Ad.has_yes (by omega) (by omega) hc
  have HT := hide ht; have HH := hide hh
  clear ht hc hh
  go_enter Tryd.func19, Tryd.ntmps19
  go_wp2_with fail
  refine (cut_any s 47 _ hs).mono ?_
  rintro e w1 ⟨⟨f, rfl⟩, hb1⟩
  have B0 := (Below.refl w.heap.size w).alloc (Nat.le_refl _) (.cells #[.int .u32 0, .int .i64 0] 30)
  have hB1 := Below.then B0 hb1
  go_wp2_with fail
  refine (atoi_any _ _ hz1 (hE.on hB1)).mono ?_
  rintro e w2 ⟨he, hb2⟩
  have hC2 := Below.then hb1 hb2
  have hB2 := Below.then B0 hC2
  rcases he with rfl | ⟨t, p, rfl⟩
  all_goals
    go_wp2_with fail
    refine (guess_any _ _ hz2 (hE.on hB2)).mono ?_
    rintro e w3 ⟨rfl, hb3⟩
    have hC3 := (Below.then hC2 hb3)
    have hC4 := hC3.alloc hC3.size (.cells #[.int .u32 a, .int .i64 b] 30)
    have hB4 := Below.then B0 hC4
    go_wp2_with fail
    refine (tells_yes _ _ s _ (by omega) (by omega) (unhide HH) (unhide HT) (hE.on hB4)).mono ?_
    rintro e w5 ⟨rfl, hb5⟩
    have hC5 := Below.then hC4 hb5
    have hB5 := Below.then B0 hC5
    have c0 : w5.cell? ⟨w3.heap.size, 0, none⟩ = some (.int .u32 a) := by rw [hb5.cell (by simp)]; simp [go_sem]
    have c1 : w5.cell? ⟨w3.heap.size, 1, none⟩ = some (.int .i64 b) := by rw [hb5.cell (by simp)]; simp [go_sem]
    have d0 : w5.cell? ⟨w.heap.size, 0, none⟩ = some (.int .u32 0) := by rw [hC5.cell (by simp)]; simp [go_sem]
    have d1 : w5.cell? ⟨w.heap.size, 1, none⟩ = some (.int .i64 0) := by rw [hC5.cell (by simp)]; simp [go_sem]
    have f0 : w5.frozen? ⟨w.heap.size, 0, none⟩ = false := by rw [hC5.frozen (by simp)]; simp [go_sem]
    have f1 : w5.frozen? ⟨w.heap.size, 1, none⟩ = false := by rw [hC5.frozen (by simp)]; simp [go_sem]
    have HB := hide hB5
    clear hb1 hB1 hb2 hC2 hB2 hb3 hC3 hC4 hB4 hb5 hC5 hB5 B0
    go_wp2_with fail
    obtain ⟨e0, e1⟩ := set2 w5 w.heap.size (.int .u32 a) (.int .i64 b) d0 d1
    exact bodyPost_ret (v := .tuple #[.agg #[.int .u32 a, .int .i64 b], .bool true]) (by simp [results, Tryd.results19, go_sem, e0, e1]) rfl ⟨rfl, ((unhide HB).setCell (Nat.le_refl _) _).setCell (Nat.le_refl _) _⟩

set_option maxHeartbeats 1000000 in
theorem pnet_no (s : ByteArray) (w : World) (hs : s.size ≤ 140737488355328) (hE : Env w) (h : ∀ a b : Nat, ¬ Ad.IsNet s.data.toList a b) :
    Calls Tryd.prog 19 #[.string s] w fun e w' => e = .returned (.tuple #[.agg #[.int .u32 0, .int .i64 0], .bool false]) ∧ Below w.heap.size w w' := by
  have hz1 : (ByteArray.mk (Ad.after 47 s.data.toList).toArray).size ≤ 140737488355328 := by
    have := Ad.after_len 47 s.data.toList
    rw [len_eq] at this; rw [mk_size]; omega
  have hz2 : (ByteArray.mk (Ad.before 47 s.data.toList).toArray).size ≤ 140737488355328 := by
    have := Ad.before_len 47 s.data.toList
    rw [len_eq] at this; rw [mk_size]; omega
  have ha := Ad.gs_lt (Ad.before 47 s.data.toList)
  obtain ⟨a, hg⟩ : ∃ a, Ad.gs (Ad.before 47 s.data.toList) = a := ⟨_, rfl⟩
  obtain ⟨b, hv⟩ : ∃ b, Ad.av (Ad.after 47 s.data.toList) = b := ⟨_, rfl⟩
  rw [hg] at ha
  have hn : ¬ (Ad.hasB a b a = true ∧ Ad.netx (a : Int).toNat b.toNat = s.data.toList) := by
    rintro ⟨h1, h2⟩
    obtain ⟨h3, h4, h5⟩ := Ad.of_has h1
    refine h a b.toNat ⟨ha, by omega, ?_, h2⟩
    rw [show ((b.toNat : Nat) : Int) = b from by omega]; exact h5
  have HN := hide hn
  clear hn h
  go_enter Tryd.func19, Tryd.ntmps19
  go_wp2_with fail
  refine (cut_any s 47 _ hs).mono ?_
  rintro e w1 ⟨⟨f, rfl⟩, hb1⟩
  have B0 := (Below.refl w.heap.size w).alloc (Nat.le_refl _) (.cells #[.int .u32 0, .int .i64 0] 30)
  have hB1 := Below.then B0 hb1
  go_wp2_with fail
  refine (atoi_any _ _ hz1 (hE.on hB1)).mono ?_
  rintro e w2 ⟨he, hb2⟩
  have hC2 := Below.then hb1 hb2
  have hB2 := Below.then B0 hC2
  rcases he with rfl | ⟨t, p, rfl⟩
  all_goals
    go_wp2_with fail
    refine (guess_any _ _ hz2 (hE.on hB2)).mono ?_
    rintro e w3 ⟨rfl, hb3⟩
    have hC3 := (Below.then hC2 hb3)
    have hC4 := hC3.alloc hC3.size (.cells #[.int .u32 a, .int .i64 b] 30)
    have hB4 := Below.then B0 hC4
    go_wp2_with fail
    refine (tells_no _ _ s _ (by omega) (by omega) (unhide HN) (hE.on hB4)).mono ?_
    rintro e w5 ⟨rfl, hb5⟩
    have hC5 := Below.then hC4 hb5
    have hB5 := Below.then B0 hC5
    have d0 : w5.cell? ⟨w.heap.size, 0, none⟩ = some (.int .u32 0) := by rw [hC5.cell (by simp)]; simp [go_sem]
    have d1 : w5.cell? ⟨w.heap.size, 1, none⟩ = some (.int .i64 0) := by rw [hC5.cell (by simp)]; simp [go_sem]
    have f0 : w5.frozen? ⟨w.heap.size, 0, none⟩ = false := by rw [hC5.frozen (by simp)]; simp [go_sem]
    have f1 : w5.frozen? ⟨w.heap.size, 1, none⟩ = false := by rw [hC5.frozen (by simp)]; simp [go_sem]
    have HB := hide hB5
    clear hb1 hB1 hb2 hC2 hB2 hb3 hC3 hC4 hB4 hb5 hC5 hB5 B0
    go_wp2_with fail
    obtain ⟨e0, e1⟩ := set2 w5 w.heap.size (.int .u32 0) (.int .i64 0) d0 d1
    exact bodyPost_ret (v := .tuple #[.agg #[.int .u32 0, .int .i64 0], .bool false]) (by simp [results, Tryd.results19, go_sem, e0, e1]) rfl ⟨rfl, ((unhide HB).setCell (Nat.le_refl _) _).setCell (Nat.le_refl _) _⟩
end Go.Proofs.YtnnhkjjnolhaoaaDoor
