/- Net.Text at all nets. -/
import Derived.Test.YtnnhkjjnolhaoaaDoorAdHas
import Derived.Test.YtnnhkjjnolhaoaaDoorAdText
import Derived.Lib.QuietBelow
namespace Go.Proofs.YtnnhkjjnolhaoaaDoor
open Go.ChangeShapes Go.WideShapes Go.ChangeAt Go.RowKit Go.Sort

theorem itoa_s (n : Int) (w : World) (h0 : 0 ≤ n) (h1 : n ≤ 32) :
    Calls Tryd.prog 24 #[.int .i64 n] w fun e w' => e = .returned (.string ⟨(Ad.dig n.toNat).toArray⟩) ∧ Below w.heap.size w w' := by
  obtain ⟨k, rfl⟩ := Int.eq_ofNat_of_zero_le h0
  refine (Tryd.strconv_Itoa_small k (by omega) w).mono ?_
  rintro e w' ⟨rfl, rfl⟩
  exact ⟨ret_str (by rw [Ad.dec_dig _ (by omega)]; rfl), Below.refl _ _⟩

set_option maxHeartbeats 400000 in
theorem ntext_no (n b : Int) (w : World) (h0 : 0 ≤ n) (h1 : n ≤ 4294967295) (h : Ad.hasB n b n = false) :
    Calls Tryd.prog 17 #[.agg #[.int .u32 n, .int .i64 b]] w fun e w' => e = .returned (.tuple #[.string ⟨#[]⟩, .bool false]) ∧ Below w.heap.size w w' := by
  go_enter Tryd.func17, Tryd.ntmps17
  go_wp2_with fail
  refine (right_any _ _ _ h0 h1).mono ?_
  rintro e w1 ⟨rfl, hb⟩
  go_wp2_with fail
  go_ret2
  exact ⟨rfl, Below.then ((Below.refl _ _).alloc (Nat.le_refl _) _) hb⟩

theorem ret_sb {a b : ByteArray} (h : a = b) : Ending.returned (.tuple #[.string a, .bool true]) = .returned (.tuple #[.string b, .bool true]) := by rw [h]
theorem netx_of (a b : List UInt8) : (ByteArray.mk a.toArray ++ ByteArray.mk #[47] ++ ByteArray.mk b.toArray) = ⟨(a ++ 47 :: b).toArray⟩ := by
  apply ba_ext; simp [ByteArray.data_append]

set_option maxHeartbeats 1000000 in
theorem ntext_yes (n b : Int) (w : World) (h0 : 0 ≤ n) (h1 : n ≤ 4294967295) (h : Ad.hasB n b n = true) (hE : Env w) :
    Calls Tryd.prog 17 #[.agg #[.int .u32 n, .int .i64 b]] w fun e w' => e = .returned (.tuple #[.string ⟨(Ad.netx n.toNat b.toNat).toArray⟩, .bool true]) ∧ Below w.heap.size w w' := by
  obtain ⟨hb0, hb1, -⟩ := Ad.of_has h
  have hl := (Ad.txt_length n.toNat (by omega)).2
  have hd := Ad.dig_hi b.toNat (by omega)
  go_enter Tryd.func17, Tryd.ntmps17
  go_wp2_with fail
  refine (right_any _ _ _ h0 h1).mono ?_
  rintro e w1 ⟨rfl, hb⟩
  have hB := Below.then ((Below.refl w.heap.size w).alloc (Nat.le_refl _) (.cells #[.int .u32 n, .int .i64 b] 30)) hb
  have c0 : w1.cell? ⟨w.heap.size, 0, none⟩ = some (.int .u32 n) := by rw [hb.cell (by simp)]; simp [go_sem]
  have c1 : w1.cell? ⟨w.heap.size, 1, none⟩ = some (.int .i64 b) := by rw [hb.cell (by simp)]; simp [go_sem]
  have k0 := cell_regrown c0
  have k1 := cell_regrown c1
  have cT : ∀ d os, Calls Tryd.prog 13 #[.int .u32 n] (grow (redrawn w1 d) os) fun e w'' => e = .returned (.string ⟨(Ad.txt n.toNat).toArray⟩) ∧ ∃ p : Regrown, w'' = grow (redrawn w1 p.d) p.os := fun d os =>
    Calls.regrown_of (text_any n _ h0 h1 (hE.on (Below.then hB (below_regrown w1 d os))))
  have cI : ∀ d os, Calls Tryd.prog 24 #[.int .i64 b] (grow (redrawn w1 d) os) fun e w'' => e = .returned (.string ⟨(Ad.dig b.toNat).toArray⟩) ∧ ∃ p : Regrown, w'' = grow (redrawn w1 p.d) p.os := fun d os =>
    Calls.regrown_of (itoa_s b _ hb0 hb1)
  have n1 : ¬ 9223372036854775807 < (Ad.txt n.toNat).length + 1 := by omega
  have n2 : ¬ 9223372036854775807 < (Ad.txt n.toNat).length + 1 + (Ad.dig b.toNat).length := by omega
  have HB := hide hB
  clear hb hB hE
  go_wp2_with fail
  refine wp_region_quiet_below (by kernel_rfl) (by kernel_rfl) ?_
  repeat (quiet_step (first | exact cT _ _ | exact cI _ _))
  refine wpQuiet_nil ?_
  intro _ hw'
  obtain ⟨⟨dq, osq⟩, hw''⟩ := hw'
  subst hw''
  go_wp2
  go_ret2
  exact ⟨ret_sb (netx_of _ _), Below.then (unhide HB) (below_regrown _ _ _)⟩
end Go.Proofs.YtnnhkjjnolhaoaaDoor
