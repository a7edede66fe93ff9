/- Take and New of the reference. -/
import Derived.Test.YtbncjinkojeioaaCuRef
namespace Go.Proofs.Ytbncjinkojeioaa
open Go.ChangeShapes Go.WideShapes Go.ChangeAt Go.RowKit Sp Cu

/-- The one that is sought is so many behind the cursor, round. -/
structure Way (s : Cu) (i J : Nat) : Prop where
  lt : J < s.n
  here : (s.at_ + J) % s.n = i
  used : ∀ j, j < J → s.u ((s.at_ + j) % s.n) = true
theorem way_of {s : Cu} (wf : WF s) {i : Nat} (hi : Sought s i) : ∃ J, Way s i J := by
  have ha := wf.at_
  obtain ⟨h1, h2, h3⟩ := hi
  rcases h3 with ⟨h3, h4⟩ | ⟨h3, h4, h5⟩
  · refine ⟨i - s.at_, by omega, by rw [show s.at_ + (i - s.at_) = i by omega]; exact Nat.mod_eq_of_lt h1, fun j hj => ?_⟩
    rw [Nat.mod_eq_of_lt (by omega)]
    exact h4 _ (by omega) (by omega)
  · refine ⟨i + s.n - s.at_, by omega, ?_, fun j hj => ?_⟩
    · rw [show s.at_ + (i + s.n - s.at_) = i + s.n by omega, Nat.add_mod_right]
      exact Nat.mod_eq_of_lt h1
    · by_cases hc : s.at_ + j < s.n
      · rw [Nat.mod_eq_of_lt hc]
        exact h4 _ (by omega) hc
      · rw [show s.at_ + j = s.at_ + j - s.n + s.n by omega, Nat.add_mod_right, Nat.mod_eq_of_lt (by omega)]
        exact h5 _ (by omega)
section
variable {base : Nat} {w : World} {q g : Nat} {s : Cu}
set_option maxHeartbeats 400000 in
theorem rtake_none (h : RefP base w q g s) (wf : WF s) (hf : Full s) :
    Calls Try.prog 15 #[.pointer (some ⟨q, 0, none⟩)] w fun e w' => e = .returned (.tuple #[.int .i64 0, .bool false]) ∧ w' = w := by
  obtain ⟨c0, c1⟩ := h.cells
  have HC : Shut _ := ⟨h⟩
  have HT : Shut (s.n ≤ 65536 ∧ s.at_ < s.n) := ⟨wf.top, wf.at_⟩
  have HF : Shut _ := ⟨hf⟩
  have hn0 : ((s.n : Int) == 0) = false := beq_eq_false_iff_ne.2 (by have := wf.pos; omega)
  have hn1 : ¬ ((s.n : Int) = 0) := by have := wf.pos; omega
  have hab : (s.at_ : Int) ≤ 100000 := by have := wf.at_; have := wf.top; omega
  clear h wf hf
  go_enter Try.func15, Try.ntmps15
  go_wp2_with fail
  go_loop [5] (fun t => ∃ i : Nat, i ≤ s.n ∧ t = .int .i64 (i : Int)) (fun t => s.n - (intOf t).toNat)
  case atStart => exact ⟨0, Nat.zero_le _, rfl⟩
  case round =>
    obtain ⟨i, hi, rfl⟩ := hrel
    have hib : (i : Int) ≤ 100000 := by have := HT.out; omega
    by_cases hlt : i < s.n
    · have hlt1 : (i : Int) < s.n := by omega
      obtain ⟨k, hk, hk2⟩ : ∃ k : Nat, ((s.at_ : Int) + (i : Int)) % (s.n : Int) = (k : Int) ∧ k < s.n := ⟨(s.at_ + i) % s.n, by rw [← Int.natCast_add, ← Int.natCast_emod], Nat.mod_lt _ (by omega)⟩
      have hk3 : (k : Int) < s.n := by omega
      have cw := HC.out.at1 hk2 (HF.out k hk2)
      clear hi
      go_wp2_with fail
      go_round
      case rel => exact ⟨i + 1, hlt, by go_num⟩
      case measure => simp only [intOf]; omega
    · have hlt1 : ¬ (i : Int) < s.n := by omega
      clear hi hlt
      go_wp2_with fail
      go_ret2
      exact ⟨rfl, rfl⟩
set_option maxHeartbeats 800000 in
theorem rtake_one (h : RefP base w q g s) (wf : WF s) {i : Nat} (hi : Sought s i) :
    Calls Try.prog 15 #[.pointer (some ⟨q, 0, none⟩)] w fun e w' => e = .returned (.tuple #[.int .i64 (i : Int), .bool true]) ∧ RefP base w' q g (s.put i) ∧ But [q, g] w w' := by
  obtain ⟨J, way⟩ := way_of wf hi
  obtain ⟨c0, c1⟩ := h.cells
  have HC : Shut _ := ⟨h⟩
  have HT : Shut (s.n ≤ 65536 ∧ s.at_ < s.n) := ⟨wf.top, wf.at_⟩
  have HI : Shut _ := ⟨hi⟩
  have HY : Shut _ := ⟨way⟩
  have hn0 : ((s.n : Int) == 0) = false := beq_eq_false_iff_ne.2 (by have := wf.pos; omega)
  have hn1 : ¬ ((s.n : Int) = 0) := by have := wf.pos; omega
  have hab : (s.at_ : Int) ≤ 100000 := by have := wf.at_; have := wf.top; omega
  clear h wf hi way
  go_enter Try.func15, Try.ntmps15
  go_wp2_with fail
  go_loop [5] (fun t => ∃ j : Nat, Shut (j ≤ J) ∧ t = .int .i64 (j : Int)) (fun t => J - (intOf t).toNat)
  case atStart => exact ⟨0, ⟨Nat.zero_le _⟩, rfl⟩
  case round =>
    obtain ⟨j, HJ, rfl⟩ := hrel
    have hjb : (j : Int) ≤ 100000 := by have := HT.out; have := HJ.out; have := HY.out.lt; omega
    have hlt1 : (j : Int) < s.n := by have := HJ.out; have := HY.out.lt; omega
    obtain ⟨k, hk, hk1⟩ : ∃ k : Nat, ((s.at_ : Int) + (j : Int)) % (s.n : Int) = (k : Int) ∧ (s.at_ + j) % s.n = k := ⟨(s.at_ + j) % s.n, by rw [← Int.natCast_add, ← Int.natCast_emod], rfl⟩
    have hk2 : k < s.n := by rw [← hk1]; exact Nat.mod_lt _ (by omega)
    have hk3 : (k : Int) < s.n := by omega
    by_cases hlt : j < J
    · have cw := HC.out.at1 hk2 (by rw [← hk1]; exact HY.out.used j hlt)
      have HJ2 : Shut (j + 1 ≤ J) := ⟨hlt⟩
      have HM : Shut (j < J) := ⟨hlt⟩
      clear hk1 hlt
      go_wp2_with fail
      go_round
      case rel => exact ⟨j + 1, HJ2, by go_num⟩
      case measure => have := HM.out; simp only [intOf]; omega
    · have hki : k = i := by rw [← hk1, ← HY.out.here, show j = J by have := HJ.out; omega]
      have cw := HC.out.at0 hk2 (by rw [hki]; exact HI.out.2.1)
      have gw := HC.out.list.free k
      have HK : Shut (k = i) := ⟨hki⟩
      have hkb : (k : Int) ≤ 100000 := by have := HT.out; omega
      obtain ⟨R, hR, hR2⟩ : ∃ R : Nat, ((k : Int) + 1) % (s.n : Int) = (R : Int) ∧ (k + 1) % s.n = R := ⟨_, by rw [← Int.natCast_one, ← Int.natCast_add, ← Int.natCast_emod], rfl⟩
      have HR2 : Shut _ := ⟨hR2⟩
      have HC2 : Shut (RefAt base (w.setCell ⟨g, k, none⟩ (.int .i64 1)) q g s.n s.at_ (updB s.u k true)) := ⟨HC.out.setU k true hk2⟩
      have gq := HC2.out.head.free 1
      have d0 := HC2.out.cells.1
      have d1 := HC2.out.cells.2
      have HC3 : Shut _ := ⟨HC2.out.setA R⟩
      have HB3 : Shut (But [q, g] w ((w.setCell ⟨g, k, none⟩ (.int .i64 1)).setCell ⟨q, 1, none⟩ (.int .i64 (R : Int)))) := ⟨((But.refl [q, g] w).setCell (by simp) k (.int .i64 1)).setCell (by simp) 1 (.int .i64 (R : Int))⟩
      obtain ⟨V, hV⟩ : ∃ V, w.setCell ⟨g, k, none⟩ (.int .i64 1) = V := ⟨_, rfl⟩
      rw [hV] at gq d0 d1 HC3 HB3
      clear hk1 hki hlt hR2 HC2
      go_wp2_with fail
      go_ret2
      refine ⟨by rw [← HK.out]; rfl, ?_, HB3.out⟩
      have e : s.put i = ⟨s.n, R, updB s.u k true⟩ := by rw [← HK.out, ← HR2.out]; rfl
      rw [e]
      exact HC3.out
end
set_option maxHeartbeats 400000 in
theorem rnew_bad (n : Int) (h : n < 1 ∨ (¬ n < 1 ∧ 65536 < n)) (w : World) :
    Calls Try.prog 9 #[.int .i64 n] w fun e w' => e = .returned (.pointer none) ∧ w' = w := by
  rcases h with h | ⟨h1, h⟩
  all_goals
    go_enter Try.func9, Try.ntmps9
    go_wp2_with fail
    go_ret
    exact ⟨rfl, rfl⟩
set_option maxHeartbeats 400000 in
theorem rnew_ok (n : Nat) (h1 : 1 ≤ n) (h2 : n ≤ 65536) (w : World) :
    Calls Try.prog 9 #[.int .i64 (n : Int)] w fun e w' => ∃ q, e = .returned (.pointer (some ⟨q, 0, none⟩)) ∧ (∃ g, RefP w.heap.size w' q g (newCu n)) ∧ Below w.heap.size w w' := by
  have g1 : ¬ (n : Int) < 1 := by omega
  have g2 : ¬ (65536 : Int) < n := by omega
  have hm := make_run n (by omega) w
  have hl := made_lst w n
  clear h1 h2
  have hB : Below w.heap.size w (w.alloc (.cells (madeCells #[.int .i64 0] n) 3)) := (Below.refl _ _).alloc (Nat.le_refl _) _
  have hsz : w.heap.size < (w.alloc (.cells (madeCells #[.int .i64 0] n) 3)).heap.size := by rw [World.size_alloc]; omega
  obtain ⟨V, hV⟩ : ∃ V, w.alloc (.cells (madeCells #[.int .i64 0] n) 3) = V := ⟨_, rfl⟩
  rw [hV] at hm hl hB hsz
  have HL : Shut _ := ⟨hl⟩
  have HB : Shut _ := ⟨hB⟩
  have HS : Shut _ := ⟨hsz⟩
  clear hV hl hB hsz
  go_enter Try.func9, Try.ntmps9
  go_wp2_with fail
  go_ret
  have hB2 : Below V.heap.size V (V.alloc (.cells (#[.slice (some ⟨w.heap.size, 0, none⟩) n n, .int .i64 0] : Array Value) 48)) := (Below.refl _ _).alloc (Nat.le_refl _) _
  refine ⟨V.heap.size, rfl, ⟨w.heap.size, row_new V [.slice (some ⟨w.heap.size, 0, none⟩) n n, .int .i64 0] _, (HL.out.of_block (hB2.block _ HL.out.lt)).congr fun _ _ => rfl, by have := HS.out; omega, by have := HS.out; omega, Nat.le_refl _⟩, HB.out.alloc (by have := HS.out; omega) _⟩
end Go.Proofs.Ytbncjinkojeioaa
