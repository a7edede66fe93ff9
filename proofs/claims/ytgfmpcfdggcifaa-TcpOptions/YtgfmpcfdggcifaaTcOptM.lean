/- Options one behind the other: the plain facts. -/
import Derived.Test.YtgfmpcfdggcifaaTcMake
namespace Go.Proofs.Ytgfmpcfdggcifaa
open Go.RowKit

theorem opts_one' (r : List UInt8) : optsOk (1 :: r) = optsOk r := by
  have := opts_one (1 :: r) 0 (by simp) rfl
  simpa using this
theorem opts_zero' (r : List UInt8) : optsOk (0 :: r) = true := by
  have := opts_zero (0 :: r) 0 (by simp) rfl
  simpa using this
theorem opts_last' (k : UInt8) (h0 : k ≠ 0) (h1 : k ≠ 1) : optsOk [k] = false := by
  have := opts_last [k] 0 rfl (by simpa using h0) (by simpa using h1)
  simpa using this
theorem opts_long' (k n : UInt8) (r : List UInt8) (h0 : k ≠ 0) (h1 : k ≠ 1) : optsOk (k :: n :: r) = (decide (2 ≤ n.toNat) && decide (n.toNat ≤ r.length + 2) && optsOk ((k :: n :: r).drop n.toNat)) := by
  have := opts_long (k :: n :: r) 0 n.toNat (by simp) (by simpa using h0) (by simpa using h1) (by simp)
  simpa using this

/-- One option: its kind, its length, zeros. -/
def oneS (k l : Int) : ByteArray := strOfNums [k, l] ++ zeroS (l - 2).toNat
def manyS (k l : Int) : Nat → ByteArray
  | 0 => ⟨#[]⟩
  | n + 1 => manyS k l n ++ oneS k l ++ ⟨#[1]⟩
theorem two_l (a b : Int) : (strOfNums [a, b]).data.toList = [UInt8.ofNat a.toNat, UInt8.ofNat b.toNat] := by simp [strOfNums]
theorem one_list (k l : Int) : (oneS k l).data.toList = UInt8.ofNat k.toNat :: UInt8.ofNat l.toNat :: List.replicate (l - 2).toNat 0 := by
  unfold oneS; rw [ByteArray.data_append, Array.toList_append, two_l, zeroS_list]; rfl
theorem one_size (k l : Int) (h : 2 ≤ l) : (oneS k l).size = l.toNat := by rw [← Oct.len_eq, one_list]; simp; omega
theorem kind_ne {k : Int} (h0 : 2 ≤ k) (h1 : k ≤ 255) : UInt8.ofNat k.toNat ≠ 0 ∧ UInt8.ofNat k.toNat ≠ 1 := by
  have e : (UInt8.ofNat k.toNat).toNat = k.toNat := by rw [UInt8.toNat_ofNat']; omega
  constructor
  · intro h; rw [h] at e; have : (0 : UInt8).toNat = 0 := rfl; omega
  · intro h; rw [h] at e; have : (1 : UInt8).toNat = 1 := rfl; omega
structure Opt (k l : Int) : Prop where
  k0 : 2 ≤ k
  k1 : k ≤ 255
  l0 : 2 ≤ l
  l1 : l ≤ 40
theorem len_of {k l : Int} (o : Opt k l) : (UInt8.ofNat l.toNat).toNat = l.toNat := by rw [UInt8.toNat_ofNat']; have := o.l0; have := o.l1; omega
theorem opts_step {k l : Int} (o : Opt k l) (r : List UInt8) : optsOk ((oneS k l).data.toList ++ r) = optsOk r := by
  obtain ⟨n0, n1⟩ := kind_ne o.k0 o.k1
  have hl := len_of o
  have a := o.l0
  rw [one_list]
  show optsOk (UInt8.ofNat k.toNat :: UInt8.ofNat l.toNat :: (List.replicate (l - 2).toNat 0 ++ r)) = _
  rw [opts_long' _ _ _ n0 n1, hl, decide_eq_true (by omega), decide_eq_true (by simp; omega), Bool.true_and, Bool.true_and]
  have e : l.toNat = 2 + (l - 2).toNat := by omega
  rw [e, ← List.drop_drop]
  show optsOk ((List.replicate (l - 2).toNat 0 ++ r).drop (l - 2).toNat) = _
  rw [List.drop_left' (by simp)]
theorem opts_many {k l : Int} (o : Opt k l) : ∀ (n : Nat) (r : List UInt8), optsOk ((manyS k l n).data.toList ++ r) = optsOk r
  | 0, r => rfl
  | n + 1, r => by
    show optsOk ((manyS k l n ++ oneS k l ++ ⟨#[1]⟩).data.toList ++ r) = _
    rw [app_list, app_list, List.append_assoc, List.append_assoc, opts_many o n, opts_step o]
    exact opts_one' r
theorem many_size {k l : Int} (o : Opt k l) : ∀ n, (manyS k l n).size ≤ 41 * n
  | 0 => by show (0 : Nat) ≤ _; omega
  | n + 1 => by
    show (manyS k l n ++ oneS k l ++ ⟨#[1]⟩).size ≤ _
    rw [ByteArray.size_append, ByteArray.size_append, one_size k l o.l0]
    have : (⟨#[1]⟩ : ByteArray).size = 1 := rfl
    have := many_size o n
    have := o.l1
    omega
/-- The four answers. -/
theorem ans1 {k l : Int} (o : Opt k l) (n : Nat) : optsOk (manyS k l n ++ oneS k l).data.toList = true := by
  rw [app_list, opts_many o]
  have := opts_step o []
  rw [List.append_nil] at this
  rw [this]; exact opts_nil
theorem ans2 {k l : Int} (o : Opt k l) (n : Nat) (s : ByteArray) : optsOk (manyS k l n ++ ⟨#[0]⟩ ++ s).data.toList = true := by
  rw [app_list, app_list, List.append_assoc, opts_many o]
  exact opts_zero' _
theorem ans3 {k l : Int} (o : Opt k l) (n : Nat) : optsOk (manyS k l n ++ (oneS k l).extract 0 (l.toNat - 1)).data.toList = false := by
  rw [app_list, opts_many o, Oct.ext_list, List.drop_zero, one_list]
  obtain ⟨n0, n1⟩ := kind_ne o.k0 o.k1
  have hl := len_of o
  have a := o.l0
  by_cases h2 : l = 2
  · subst h2
    exact opts_last' _ n0 n1
  · have e : l.toNat - 1 = (l.toNat - 3) + 1 + 1 := by omega
    rw [e, List.take_succ_cons, List.take_succ_cons, opts_long' _ _ _ n0 n1, hl]
    rw [decide_eq_false (p := l.toNat ≤ _) (by simp; omega), Bool.and_false, Bool.false_and]
theorem ans4 {k l : Int} (o : Opt k l) (n : Nat) : optsOk (manyS k l n ++ strOfNums [k, 0]).data.toList = false := by
  rw [app_list, opts_many o, two_l]
  obtain ⟨n0, n1⟩ := kind_ne o.k0 o.k1
  rw [opts_long' _ _ _ n0 n1]
  rfl
end Go.Proofs.Ytgfmpcfdggcifaa
