/- Remove and Add of both packages, of whatever is reached: one answer each, and what is reached then. -/
import Derived.Test.YtckkdgifjgkoaaaAnRRem
import Derived.Test.YtckkdgifjgkoaaaAnAdd
import Derived.Test.YtckkdgifjgkoaaaAnRAdd
namespace Go.Proofs.Ytckkdgifjgkoaaa
open Go.ChangeShapes Go.WideShapes Go.ChangeAt Go.RowKit An

namespace An
def RemOk (s : An) (x : Int) : Prop := 0 ≤ x ∧ x < s.r ∧ s.A x.toNat = 0
instance (s : An) (x : Int) : Decidable (RemOk s x) := by unfold RemOk; infer_instance
/-- What Remove answers, and what is there then. -/
def remE (s : An) (x : Int) : Int := if RemOk s x then (if s.n = 1 then 15 else 0) else 19
def remS (s : An) (x : Int) : An := if RemOk s x ∧ s.n ≠ 1 then remove s x.toNat else s
def addB (s : An) : Int := match s.S with | [] => 0 | x :: _ => (x : Int)
def addE (s : An) : Int := match s.S with | [] => 16 | _ :: _ => 0
def addS (s : An) : An := match s.S with | [] => s | x :: _ => back s x
theorem reach_rem {r : Nat} {s : An} (h : Reach r s) (x : Int) : Reach r (remS s x) := by
  unfold remS
  split
  · rename_i hc
    obtain ⟨⟨h0, h1, h2⟩, h3⟩ := hc
    have hn := h.wf.n1
    exact .rem _ _ h ⟨by omega, h2⟩ (by omega)
  · exact h
theorem add_last {r : Nat} {s : An} (h : Reach r s) : (s.S = [] ∧ s = allAn r ∧ addB s = 0 ∧ addE s = 16 ∧ addS s = s) ∨ ∃ t b, s.S = b :: t.S ∧ s = remove t b ∧ Reach r t ∧ Works t b ∧ 2 ≤ t.n ∧ addB s = (b : Int) ∧ addE s = 0 ∧ addS s = t ∧ back s b = t := by
  rcases h.last with ⟨h1, h2⟩ | ⟨t, b, h1, h2, h3, h4, h5, h6⟩
  · exact .inl ⟨h1, h2, by unfold addB; rw [h1], by unfold addE; rw [h1], by unfold addS; rw [h1]⟩
  · exact .inr ⟨t, b, h1, h2, h3, h4, h5, by unfold addB; rw [h1], by unfold addE; rw [h1], by unfold addS; rw [h1]; exact h6, h6⟩
theorem reach_add {r : Nat} {s : An} (h : Reach r s) : Reach r (addS s) := by
  rcases add_last h with ⟨_, _, _, _, e⟩ | ⟨t, b, _, _, h3, _, _, _, _, e, _⟩
  · rw [e]; exact h
  · rw [e]; exact h3
end An

section
variable {base r : Nat} {w : World} {b : Bk} {v : Value} {s : An}

theorem remove_any (hA : AnAt hdA base w b v s) (hR : An.Reach r s) (hr : r ≤ 65536) (x : Int) :
    Calls Try.prog 58 #[.pointer (some ⟨b.p, 0, none⟩), .int .i64 x] w fun e w' => e = .returned (.int .i64 (remE s x)) ∧ ∃ v', AnAt hdA base w' b v' (remS s x) ∧ Went w w' b v v' := by
  have hroom := hR.room
  by_cases hok : RemOk s x
  · obtain ⟨h0, h1, h2⟩ := hok
    obtain ⟨y, rfl⟩ := Int.eq_ofNat_of_zero_le h0
    have hy : y < s.r := by omega
    have hw : Works s y := ⟨hy, h2⟩
    by_cases hn : s.n = 1
    · refine (remove_last hA y hw hn).mono ?_
      rintro e w' ⟨rfl, rfl⟩
      refine ⟨?_, v, ?_, Went.refl _ _ _⟩
      · unfold remE; rw [if_pos ⟨h0, h1, h2⟩, if_pos hn]
      · unfold remS; rw [if_neg fun h => h.2 hn]; exact hA
    · have hs := hR.stack
      have hn1 := hR.wf.n1
      refine (remove_ok hA hR.wf (by omega) y hw (by omega) (by omega)).mono ?_
      rintro e w' ⟨rfl, v', h3, h4⟩
      refine ⟨?_, v', ?_, h4⟩
      · unfold remE; rw [if_pos ⟨h0, h1, h2⟩, if_neg hn]
      · unfold remS; rw [if_pos ⟨⟨h0, h1, h2⟩, hn⟩]; exact h3
  · have hE : remE s x = 19 := by unfold remE; rw [if_neg hok]
    have hS : remS s x = s := by unfold remS; rw [if_neg fun h => hok h.1]
    rw [hE, hS]
    by_cases hrange : 0 ≤ x ∧ x < s.r
    · obtain ⟨y, rfl⟩ := Int.eq_ofNat_of_zero_le hrange.1
      refine (remove_gone hA y (by omega) fun h => hok ⟨hrange.1, hrange.2, h⟩).mono ?_
      rintro e w' ⟨rfl, rfl⟩
      exact ⟨rfl, v, hA, Went.refl _ _ _⟩
    · refine (remove_out hA x (by omega)).mono ?_
      rintro e w' ⟨rfl, rfl⟩
      exact ⟨rfl, v, hA, Went.refl _ _ _⟩

theorem rremove_any (hA : AnAt hdR base w b v s) (hR : An.Reach r s) (hr : r ≤ 65536) (x : Int) :
    Calls Try.prog 60 #[.pointer (some ⟨b.p, 0, none⟩), .int .i64 x] w fun e w' => e = .returned (.int .i64 (remE s x)) ∧ ∃ v', AnAt hdR base w' b v' (remS s x) ∧ Went w w' b v v' := by
  have hroom := hR.room
  by_cases hok : RemOk s x
  · obtain ⟨h0, h1, h2⟩ := hok
    obtain ⟨y, rfl⟩ := Int.eq_ofNat_of_zero_le h0
    have hy : y < s.r := by omega
    have hw : Works s y := ⟨hy, h2⟩
    by_cases hn : s.n = 1
    · refine (rremove_last hA y hw hn).mono ?_
      rintro e w' ⟨rfl, rfl⟩
      refine ⟨?_, v, ?_, Went.refl _ _ _⟩
      · unfold remE; rw [if_pos ⟨h0, h1, h2⟩, if_pos hn]
      · unfold remS; rw [if_neg fun h => h.2 hn]; exact hA
    · have hs := hR.stack
      have hn1 := hR.wf.n1
      refine (rremove_ok hA hR.wf (by omega) y hw (by omega) (by omega)).mono ?_
      rintro e w' ⟨rfl, v', h3, h4⟩
      refine ⟨?_, v', ?_, h4⟩
      · unfold remE; rw [if_pos ⟨h0, h1, h2⟩, if_neg hn]
      · unfold remS; rw [if_pos ⟨⟨h0, h1, h2⟩, hn⟩]; exact h3
  · have hE : remE s x = 19 := by unfold remE; rw [if_neg hok]
    have hS : remS s x = s := by unfold remS; rw [if_neg fun h => hok h.1]
    rw [hE, hS]
    by_cases hrange : 0 ≤ x ∧ x < s.r
    · obtain ⟨y, rfl⟩ := Int.eq_ofNat_of_zero_le hrange.1
      refine (rremove_gone hA y (by omega) fun h => hok ⟨hrange.1, hrange.2, h⟩).mono ?_
      rintro e w' ⟨rfl, rfl⟩
      exact ⟨rfl, v, hA, Went.refl _ _ _⟩
    · refine (rremove_out hA x (by omega)).mono ?_
      rintro e w' ⟨rfl, rfl⟩
      exact ⟨rfl, v, hA, Went.refl _ _ _⟩

theorem add_any (hA : AnAt hdA base w b v s) (hR : An.Reach r s) (hr : r ≤ 65536) :
    Calls Try.prog 53 #[.pointer (some ⟨b.p, 0, none⟩)] w fun e w' => e = .returned (.tuple #[.int .i64 (addB s), .int .i64 (addE s)]) ∧ ∃ v', AnAt hdA base w' b v' (addS s) ∧ Went w w' b v v' := by
  have hroom := hR.room
  rcases add_last hR with ⟨h1, h2, h3, h4, h5⟩ | ⟨t, x, h1, h2, h3, h4, h5, h6, h7, h8, h9⟩
  · rw [h3, h4, h5]
    refine (add_full hA h1).mono ?_
    rintro e w' ⟨rfl, rfl⟩
    exact ⟨rfl, v, hA, Went.refl _ _ _⟩
  · rw [h6, h7, h8]
    have wt := h3.wf
    have hs := hR.stack
    have hr' := h3.room
    have hnt : s.n = t.n - 1 := by rw [h2]; rfl
    have hnr := wt.nr
    obtain ⟨⟨q1, _⟩, q2⟩ := wt.wl (t.n - 1) (by omega)
    have hL := wt.lw x h4
    -- who stood last, stands where x stood
    have hW : s.W s.n = t.W (t.n - 1) := by
      rw [hnt, h2]
      show upd t.W (t.L x) (t.W (t.n - 1)) (t.n - 1) = _
      by_cases e : t.n - 1 = t.L x
      · rw [← e, upd_same]
      · rw [upd_other _ _ _ _ e]
    have hL2 : upd s.L (s.W s.n) s.n x = t.L x := by
      rw [hW, hnt, h2]
      show upd (upd t.L (t.W (t.n - 1)) (t.L x)) (t.W (t.n - 1)) (t.n - 1) x = _
      rw [upd_twice, upd_self _ _ _ q2]
    have hx : x < t.r := h4.1
    refine (add_ok hA (by omega) h1 (by rw [h1, List.length_cons] at hs; omega) (by omega) (by omega) (by rw [hW]; omega) (by rw [hL2]; omega)).mono ?_
    rintro e w' ⟨rfl, v', h10, h11⟩
    rw [h9] at h10
    exact ⟨rfl, v', h10, h11⟩

theorem radd_any (hA : AnAt hdR base w b v s) (hR : An.Reach r s) (hr : r ≤ 65536) :
    Calls Try.prog 45 #[.pointer (some ⟨b.p, 0, none⟩)] w fun e w' => e = .returned (.tuple #[.int .i64 (addB s), .int .i64 (addE s)]) ∧ ∃ v', AnAt hdR base w' b v' (addS s) ∧ Went w w' b v v' := by
  have hroom := hR.room
  rcases add_last hR with ⟨h1, h2, h3, h4, h5⟩ | ⟨t, x, h1, h2, h3, h4, h5, h6, h7, h8, h9⟩
  · rw [h3, h4, h5]
    refine (radd_full hA h1).mono ?_
    rintro e w' ⟨rfl, rfl⟩
    exact ⟨rfl, v, hA, Went.refl _ _ _⟩
  · rw [h6, h7, h8]
    have wt := h3.wf
    have hs := hR.stack
    have hr' := h3.room
    have hnt : s.n = t.n - 1 := by rw [h2]; rfl
    have hnr := wt.nr
    obtain ⟨⟨q1, _⟩, q2⟩ := wt.wl (t.n - 1) (by omega)
    have hL := wt.lw x h4
    -- who stood last, stands where x stood
    have hW : s.W s.n = t.W (t.n - 1) := by
      rw [hnt, h2]
      show upd t.W (t.L x) (t.W (t.n - 1)) (t.n - 1) = _
      by_cases e : t.n - 1 = t.L x
      · rw [← e, upd_same]
      · rw [upd_other _ _ _ _ e]
    have hL2 : upd s.L (s.W s.n) s.n x = t.L x := by
      rw [hW, hnt, h2]
      show upd (upd t.L (t.W (t.n - 1)) (t.L x)) (t.W (t.n - 1)) (t.n - 1) x = _
      rw [upd_twice, upd_self _ _ _ q2]
    have hx : x < t.r := h4.1
    refine (radd_ok hA (by omega) h1 (by rw [h1, List.length_cons] at hs; omega) (by omega) (by omega) (by rw [hW]; omega) (by rw [hL2]; omega)).mono ?_
    rintro e w' ⟨rfl, v', h10, h11⟩
    rw [h9] at h10
    exact ⟨rfl, v', h10, h11⟩
end
end Go.Proofs.Ytckkdgifjgkoaaa
