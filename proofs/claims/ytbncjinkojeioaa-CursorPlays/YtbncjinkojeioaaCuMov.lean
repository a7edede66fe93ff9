/- Numbers that are given out in a row: all of them, and all but 0. -/
import Derived.Test.YtbncjinkojeioaaCuEx
namespace Go.Proofs.Ytbncjinkojeioaa
open Go.RowKit Sp Cu

/-- The first i are used. -/
def fil (n i : Nat) : Cu := ⟨n, i % n, fun j => decide (j < i)⟩
theorem fil_zero (n : Nat) : newCu n = fil n 0 := by
  unfold newCu fil
  rw [Nat.zero_mod]
  simp
theorem fil_many {n i : Nat} (hi : i ≤ n) : (fil n i).many = i := by
  have main : ∀ k, cnt (fun j => decide (j < i)) k = min k i := by
    intro k
    induction k with
    | zero => rw [Nat.zero_min]; rfl
    | succ k ih =>
      unfold cnt
      rw [ih]
      by_cases h : k < i
      · rw [decide_eq_true h]; show _ + 1 = _; omega
      · rw [decide_eq_false h]; show _ + 0 = _; omega
  exact (main n).trans (by omega)
theorem fil_put {n i : Nat} (hi : i < n) : Tk (fil n i) i true (fil n (i + 1)) := by
  have e : fil n (i + 1) = (fil n i).put i := by
    unfold fil Cu.put updB
    simp only [Cu.mk.injEq, true_and]
    funext j
    by_cases h : j = i
    · rw [if_pos h]; exact decide_eq_true (by omega)
    · rw [if_neg h]
      by_cases h2 : j < i
      · rw [decide_eq_true h2, decide_eq_true (by omega)]
      · rw [decide_eq_false h2, decide_eq_false (by omega)]
  rw [e]
  exact .one ⟨hi, decide_eq_false (by omega), .inl ⟨Nat.mod_le _ _, fun k _ h => decide_eq_true h⟩⟩
theorem fil_full (n : Nat) : Tk (fil n n) 0 false (fil n n) := .none fun _ hi => decide_eq_true hi
theorem fil_has {n i j : Nat} (hj : j < i) (hi : i ≤ n) : (fil n i).has (j : Int) = true := by rw [has_in _ (show j < (fil n i).n from by show j < n; omega)]; exact decide_eq_true hj
theorem has_n (s : Cu) (n : Nat) (h : s.n = n) : s.has (n : Int) = false := has_out s (by rw [h]; exact Int.le_refl _)
theorem free_yes' {s : Cu} {x : Int} (h : s.has x = true) : s.free x = s.cut x.toNat := by unfold Cu.free; rw [if_pos h]
theorem free_no' {s : Cu} {x : Int} (h : s.has x = false) : s.free x = s := by unfold Cu.free; rw [if_neg (by rw [h]; exact Bool.false_ne_true)]
/-- One of all is free, and then none. -/
def hole (n k : Nat) : Cu := (fil n n).cut k
theorem hole_free {n k : Nat} (hk : k < n) : (fil n n).free (k : Int) = hole n k := by rw [free_yes' (fil_has hk (Nat.le_refl n))]; rfl
def shut (n k : Nat) : Cu := (hole n k).put k
theorem hole_put {n k : Nat} (hk : k < n) : Tk (hole n k) k true (shut n k) := by
  refine .one ⟨hk, updB_same _ _ _, .inl ⟨?_, fun j _ h => ?_⟩⟩
  · show n % n ≤ k
    rw [Nat.mod_self]; exact Nat.zero_le _
  · exact (updB_other _ _ _ _ (by omega)).trans (decide_eq_true (by omega))
theorem shut_full {n k : Nat} : Tk (shut n k) 0 false (shut n k) := by
  refine .none fun i hi => ?_
  show updB (updB _ k false) k true i = true
  by_cases e : i = k
  · rw [e, updB_same]
  · rw [updB_other _ _ _ _ e, updB_other _ _ _ _ e]; exact decide_eq_true hi
/-- All ahead of i are used, but 0. -/
def gap (n i : Nat) : Cu := ⟨n, i % n, fun j => decide (0 < j ∧ j < i)⟩
theorem gap_free {n k : Nat} (h0 : 0 < k) (hk : k ≤ n) : (fil n k).free 0 = gap n k := by
  rw [show (0 : Int) = ((0 : Nat) : Int) from rfl, free_yes' (fil_has h0 hk)]
  unfold fil Cu.cut gap updB
  simp only [Cu.mk.injEq, true_and]
  funext j
  show (if j = 0 then false else decide (j < k)) = decide (0 < j ∧ j < k)
  by_cases h : j = 0
  · rw [if_pos h]; exact (decide_eq_false (by omega)).symm
  · rw [if_neg h]
    by_cases h2 : j < k
    · rw [decide_eq_true h2, decide_eq_true (by omega)]
    · rw [decide_eq_false h2, decide_eq_false (by omega)]
theorem gap_put {n i : Nat} (h0 : 0 < i) (hi : i < n) : Tk (gap n i) i true (gap n (i + 1)) := by
  have e : gap n (i + 1) = (gap n i).put i := by
    unfold gap Cu.put updB
    simp only [Cu.mk.injEq, true_and]
    funext j
    by_cases h : j = i
    · rw [if_pos h]; exact decide_eq_true (by omega)
    · rw [if_neg h]
      by_cases h2 : 0 < j ∧ j < i
      · rw [decide_eq_true h2, decide_eq_true (by omega)]
      · rw [decide_eq_false h2, decide_eq_false (by omega)]
  rw [e]
  refine tk_here i (Nat.mod_eq_of_lt hi) hi (decide_eq_false (by omega))
def gone (n : Nat) : Cu := (gap n n).put 0
theorem gap_last {n : Nat} (h : 0 < n) : Tk (gap n n) 0 true (gone n) := tk_here 0 (Nat.mod_self n) h (show decide (0 < 0 ∧ 0 < n) = false from decide_eq_false (by omega))
theorem gone_many {n : Nat} : (gone n).many = n := by
  refine Full.many (s := gone n) fun i hi => ?_
  show updB _ 0 true i = true
  by_cases e : i = 0
  · rw [e, updB_same]
  · rw [updB_other _ _ _ _ e]; exact decide_eq_true ⟨by omega, hi⟩
end Go.Proofs.Ytbncjinkojeioaa
