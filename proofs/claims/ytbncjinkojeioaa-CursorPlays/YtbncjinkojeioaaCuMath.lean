/- Numbers that are given out in a round: which are used, where the cursor stands; the same as bits in words. Nothing of the program is in here. -/
import Derived.Test.YtbncjinkojeioaaSpMath
namespace Go.Proofs.Ytbncjinkojeioaa.Cu
open Go.RowKit Sp

structure Cu where
  n : Nat
  at_ : Nat
  u : Nat → Bool
structure WF (s : Cu) : Prop where
  pos : 1 ≤ s.n
  top : s.n ≤ 65536
  at_ : s.at_ < s.n
  out : ∀ i, s.n ≤ i → s.u i = false
def updB (f : Nat → Bool) (i : Nat) (b : Bool) : Nat → Bool := fun j => if j = i then b else f j
theorem updB_same (f : Nat → Bool) (i : Nat) (b : Bool) : updB f i b i = b := if_pos rfl
theorem updB_other (f : Nat → Bool) (i j : Nat) (b : Bool) (h : j ≠ i) : updB f i b j = f j := if_neg h
/-- How many below k are used. -/
def cnt (u : Nat → Bool) : Nat → Nat
  | 0 => 0
  | k + 1 => cnt u k + (u k).toNat
def Cu.many (s : Cu) : Nat := cnt s.u s.n
def Full (s : Cu) : Prop := ∀ i, i < s.n → s.u i = true
/-- The first that is not used, from the cursor on, and behind the last one from 0 on. -/
def Sought (s : Cu) (i : Nat) : Prop :=
  i < s.n ∧ s.u i = false ∧ ((s.at_ ≤ i ∧ ∀ k, s.at_ ≤ k → k < i → s.u k = true) ∨ (i < s.at_ ∧ (∀ k, s.at_ ≤ k → k < s.n → s.u k = true) ∧ ∀ k, k < i → s.u k = true))
def Cu.put (s : Cu) (i : Nat) : Cu := ⟨s.n, (i + 1) % s.n, updB s.u i true⟩
def Cu.cut (s : Cu) (i : Nat) : Cu := ⟨s.n, s.at_, updB s.u i false⟩
def Cu.has (s : Cu) (x : Int) : Bool := decide (0 ≤ x ∧ x < s.n) && s.u x.toNat
def Cu.free (s : Cu) (x : Int) : Cu := if s.has x = true then s.cut x.toNat else s
/-- What Take answers, and what it leaves. -/
inductive Tk : Cu → Nat → Bool → Cu → Prop
  | none {s : Cu} : Full s → Tk s 0 false s
  | one {s : Cu} {i : Nat} : Sought s i → Tk s i true (s.put i)
def newCu (n : Nat) : Cu := ⟨n, 0, fun _ => false⟩

theorem cnt_le (u : Nat → Bool) : ∀ k, cnt u k ≤ k
  | 0 => Nat.le_refl 0
  | k + 1 => by have := cnt_le u k; have : (u k).toNat ≤ 1 := Bool.toNat_le _; unfold cnt; omega
theorem cnt_congr {u v : Nat → Bool} : ∀ k, (∀ i, i < k → u i = v i) → cnt u k = cnt v k
  | 0, _ => rfl
  | k + 1, h => by unfold cnt; rw [cnt_congr k fun i hi => h i (by omega), h k (by omega)]
theorem cnt_full {u : Nat → Bool} : ∀ k, (∀ i, i < k → u i = true) → cnt u k = k
  | 0, _ => rfl
  | k + 1, h => by unfold cnt; rw [cnt_full k fun i hi => h i (by omega), h k (by omega)]; rfl
theorem cnt_none {u : Nat → Bool} : ∀ k, (∀ i, i < k → u i = false) → cnt u k = 0
  | 0, _ => rfl
  | k + 1, h => by unfold cnt; rw [cnt_none k fun i hi => h i (by omega), h k (by omega)]; rfl
theorem cnt_lt {u : Nat → Bool} {i : Nat} (hu : u i = false) : ∀ k, i < k → cnt u k < k
  | 0, h => by omega
  | k + 1, h => by
    unfold cnt
    by_cases e : i = k
    · subst e; rw [hu]; have := cnt_le u i; show _ + 0 < _; omega
    · have := cnt_lt hu k (by omega); have : (u k).toNat ≤ 1 := Bool.toNat_le _; omega
theorem cnt_on {u : Nat → Bool} {i : Nat} (hu : u i = false) : ∀ k, i < k → cnt (updB u i true) k = cnt u k + 1
  | 0, h => by omega
  | k + 1, h => by
    unfold cnt
    by_cases e : i = k
    · subst e; rw [hu, updB_same, cnt_congr (v := u) i fun j hj => updB_other _ _ _ _ (by omega)]; rfl
    · rw [cnt_on hu k (by omega), updB_other _ _ _ _ (by omega)]; omega
theorem cnt_off {u : Nat → Bool} {i : Nat} (hu : u i = true) : ∀ k, i < k → cnt (updB u i false) k + 1 = cnt u k
  | 0, h => by omega
  | k + 1, h => by
    unfold cnt
    by_cases e : i = k
    · subst e; rw [hu, updB_same, cnt_congr (v := u) i fun j hj => updB_other _ _ _ _ (by omega)]; rfl
    · have := cnt_off hu k (by omega); rw [updB_other _ _ _ _ (by omega)]; omega
theorem many_le (s : Cu) : s.many ≤ s.n := cnt_le _ _
theorem Full.many {s : Cu} (h : Full s) : s.many = s.n := cnt_full _ h
theorem Sought.many {s : Cu} {i : Nat} (h : Sought s i) : s.many < s.n := cnt_lt h.2.1 _ h.1
theorem many_put {s : Cu} {i : Nat} (h : Sought s i) : (s.put i).many = s.many + 1 := cnt_on h.2.1 _ h.1
theorem many_cut {s : Cu} {i : Nat} (hi : i < s.n) (h : s.u i = true) : (s.cut i).many + 1 = s.many := cnt_off h _ hi
theorem WF.put {s : Cu} (h : WF s) {i : Nat} (hi : i < s.n) : WF (s.put i) :=
  ⟨h.pos, h.top, Nat.mod_lt _ (by have := h.pos; omega), fun j hj => (updB_other _ _ _ _ (by have : s.n ≤ j := hj; omega)).trans (h.out j hj)⟩
theorem WF.cut {s : Cu} (h : WF s) (i : Nat) : WF (s.cut i) :=
  ⟨h.pos, h.top, h.at_, fun j hj => by
    show updB _ _ _ _ = _
    unfold updB; split
    · rfl
    · exact h.out j hj⟩
theorem WF.free {s : Cu} (h : WF s) (x : Int) : WF (s.free x) := by
  unfold Cu.free; split
  · exact h.cut _
  · exact h
theorem wf_new {n : Nat} (h1 : 1 ≤ n) (h2 : n ≤ 65536) : WF (newCu n) := ⟨h1, h2, h1, fun _ _ => rfl⟩
theorem many_new (n : Nat) : (newCu n).many = 0 := cnt_none _ fun _ _ => rfl
theorem WF.has {s : Cu} (h : WF s) (i : Nat) : s.has (i : Int) = s.u i := by
  unfold Cu.has
  by_cases e : i < s.n
  · rw [decide_eq_true (by omega)]; simp
  · rw [h.out i (by omega), decide_eq_false (by omega)]; rfl
theorem has_lt {s : Cu} {x : Int} (h : s.has x = true) : ∃ i : Nat, x = (i : Int) ∧ i < s.n ∧ s.u i = true := by
  unfold Cu.has at h
  simp only [Bool.and_eq_true, decide_eq_true_eq] at h
  exact ⟨x.toNat, by omega, by omega, h.2⟩
theorem has_neg (s : Cu) {x : Int} (h : x < 0) : s.has x = false := by unfold Cu.has; rw [decide_eq_false (by omega)]; rfl
theorem has_out (s : Cu) {x : Int} (h : (s.n : Int) ≤ x) : s.has x = false := by unfold Cu.has; rw [decide_eq_false (by omega)]; rfl
theorem has_in (s : Cu) {i : Nat} (h : i < s.n) : s.has (i : Int) = s.u i := by unfold Cu.has; rw [decide_eq_true (by omega)]; simp
theorem free_n (s : Cu) (x : Int) : (s.free x).n = s.n := by unfold Cu.free; split <;> rfl

/-- The first for which p is false, from a on to below b: or there is none. -/
theorem first_from (u : Nat → Bool) (a b : Nat) : (∀ k, a ≤ k → k < b → u k = true) ∨ ∃ i, a ≤ i ∧ i < b ∧ u i = false ∧ ∀ k, a ≤ k → k < i → u k = true := by
  induction b with
  | zero => exact .inl fun k _ h => by omega
  | succ b ih =>
    rcases ih with h | ⟨i, h1, h2, h3, h4⟩
    · by_cases hb : a ≤ b
      · cases e : u b with
        | true =>
          refine .inl fun k h1 h2 => ?_
          by_cases hk : k = b
          · rw [hk]; exact e
          · exact h k h1 (by omega)
        | false => exact .inr ⟨b, hb, by omega, e, h⟩
      · exact .inl fun k h1 h2 => by omega
    · exact .inr ⟨i, h1, by omega, h3, h4⟩
theorem tk_any {s : Cu} (h : WF s) : ∃ i b s', Tk s i b s' := by
  rcases first_from s.u s.at_ s.n with h1 | ⟨i, h1, h2, h3, h4⟩
  · rcases first_from s.u 0 s.at_ with h2 | ⟨i, _, h2, h3, h4⟩
    · refine ⟨0, false, s, .none fun i hi => ?_⟩
      by_cases e : i < s.at_
      · exact h2 i (by omega) e
      · exact h1 i (by omega) hi
    · exact ⟨i, true, s.put i, .one ⟨by have := h.at_; omega, h3, .inr ⟨h2, h1, fun k hk => h4 k (by omega) hk⟩⟩⟩
  · exact ⟨i, true, s.put i, .one ⟨h2, h3, .inl ⟨h1, h4⟩⟩⟩
theorem Tk.wf {s s' : Cu} {i : Nat} {b : Bool} (h : Tk s i b s') (hw : WF s) : WF s' := by
  cases h with
  | none _ => exact hw
  | one h => exact hw.put h.1
theorem Tk.n {s s' : Cu} {i : Nat} {b : Bool} (h : Tk s i b s') : s'.n = s.n := by cases h <;> rfl
theorem Tk.lt {s s' : Cu} {i : Nat} {b : Bool} (h : Tk s i b s') (hw : WF s) : i < s.n := by
  cases h with
  | none _ => exact hw.pos
  | one h => exact h.1

/-! The same as bits in words. -/
def wd (ws : List B) (q : Nat) : B := (ws[q]?).getD 0#64
def bit (ws : List B) (i : Nat) : Bool := (wd ws (i / 64)).getLsbD (i % 64)
theorem wd_out {ws : List B} {q : Nat} (h : ws.length ≤ q) : wd ws q = 0#64 := by unfold wd; rw [List.getElem?_eq_none h]; rfl
theorem wd_in {ws : List B} {q : Nat} (h : q < ws.length) : ws[q]? = some (wd ws q) := by unfold wd; rw [List.getElem?_eq_getElem h]; rfl
theorem bit_out {ws : List B} {i : Nat} (h : ws.length ≤ i / 64) : bit ws i = false := by
  unfold bit; rw [wd_out h]; simp
theorem wd_push (ws : List B) (q : Nat) : wd (ws ++ [0#64]) q = wd ws q := by
  by_cases h : q < ws.length
  · unfold wd; rw [List.getElem?_append_left h]
  · rw [wd_out (by omega : ws.length ≤ q)]
    unfold wd
    rw [List.getElem?_append_right (by omega)]
    cases q - ws.length with
    | zero => rfl
    | succ k => rfl
theorem bit_push (ws : List B) (i : Nat) : bit (ws ++ [0#64]) i = bit ws i := by unfold bit; rw [wd_push]
theorem one_bit (r j : Nat) (hj : j < 64) : (1#64 <<< r).getLsbD j = decide (j = r) := by
  rw [BitVec.getLsbD_shiftLeft]
  by_cases h : j < r
  · simp [h, hj]; omega
  · simp only [hj, decide_true, Bool.true_and, h, decide_false, Bool.not_false]
    rw [BitVec.getLsbD_one]
    simp
    omega
theorem bit_set {ws : List B} {i : Nat} (h : i / 64 < ws.length) (x : B) (b : Bool) (hx : ∀ r, r < 64 → x.getLsbD r = if r = i % 64 then b else (wd ws (i / 64)).getLsbD r) (j : Nat) : bit (ws.set (i / 64) x) j = updB (bit ws) i b j := by
  by_cases e : j / 64 = i / 64
  · have e1 : wd (ws.set (i / 64) x) (j / 64) = x := by unfold wd; rw [e, List.getElem?_set_self h]; rfl
    unfold bit
    rw [e1, hx _ (Nat.mod_lt _ (by decide))]
    by_cases e2 : j = i
    · subst e2; rw [updB_same, if_pos rfl]
    · rw [updB_other _ _ _ _ e2, if_neg (by omega), e]
  · have e1 : wd (ws.set (i / 64) x) (j / 64) = wd ws (j / 64) := by unfold wd; rw [List.getElem?_set_ne (fun h => e h.symm)]
    unfold bit
    rw [e1, updB_other _ _ _ _ (fun h => e (by rw [h]))]
theorem bit_on {ws : List B} {i : Nat} (h : i / 64 < ws.length) (j : Nat) : bit (ws.set (i / 64) (wd ws (i / 64) ||| 1#64 <<< (i % 64))) j = updB (bit ws) i true j := by
  refine bit_set h _ _ (fun r hr => ?_) j
  rw [BitVec.getLsbD_or, one_bit _ _ hr]
  by_cases e : r = i % 64 <;> simp [e]
theorem bit_off {ws : List B} {i : Nat} (h : i / 64 < ws.length) (j : Nat) : bit (ws.set (i / 64) (wd ws (i / 64) &&& ~~~(1#64 <<< (i % 64)))) j = updB (bit ws) i false j := by
  refine bit_set h _ _ (fun r hr => ?_) j
  rw [BitVec.getLsbD_and, BitVec.getLsbD_not, one_bit _ _ hr]
  by_cases e : r = i % 64 <;> simp [e, hr]
theorem bit_full {ws : List B} {i : Nat} (h : wd ws (i / 64) = 18446744073709551615#64) (k : Nat) (hk : k / 64 = i / 64) : bit ws k = true := by
  unfold bit
  rw [hk, h, show (18446744073709551615#64) = BitVec.allOnes 64 by decide, BitVec.getLsbD_allOnes]
  exact decide_eq_true (Nat.mod_lt _ (by decide))
theorem or63 (i : Nat) : i ||| 63 = i / 64 * 64 + 63 := by
  refine Nat.eq_of_testBit_eq fun j => ?_
  rw [show i / 64 * 64 + 63 = 2 ^ 6 * (i / 64) + 63 by omega, Nat.testBit_or, Nat.testBit_two_pow_mul_add _ (by decide)]
  rw [show (63 : Nat) = 2 ^ 6 - 1 by rfl, Nat.testBit_two_pow_sub_one]
  by_cases h : j < 6
  · simp [h]
  · rw [if_neg h, show i / 64 = i / 2 ^ 6 by rfl, Nat.testBit_div_two_pow]
    simp [h]
    congr 1
    omega
/-! As the walk has them. -/
theorem andNot_nn (x y : B) : bits .andNot .u64 (nn x) (nn y) = nn (x &&& ~~~y) := by
  unfold nn
  rw [u64_andNot_nat _ _ (by have := x.isLt; omega) (by have := y.isLt; omega), BitVec.toNat_and, BitVec.toNat_not]
theorem and_nn (x y : B) : bits .and .u64 (nn x) (nn y) = nn (x &&& y) := by
  unfold nn
  rw [u64_and_nat _ _ (by have := x.isLt; omega) (by have := y.isLt; omega), BitVec.toNat_and]
theorem bit_test (x : B) (r : Nat) : (nn (x >>> r &&& 1#64) == 1) = x.getLsbD r := by
  have e : (1 : Int) = nn 1#64 := rfl
  rw [e, nn_beq]
  by_cases h : x.getLsbD r = true
  · rw [h, beq_iff_eq]
    refine BitVec.eq_of_getLsbD_eq fun j hj => ?_
    rw [BitVec.getLsbD_and, BitVec.getLsbD_ushiftRight, BitVec.getLsbD_one]
    by_cases e : j = 0
    · subst e; simp [h]
    · simp [e]
  · rw [Bool.not_eq_true] at h
    rw [h, beq_eq_false_iff_ne]
    intro e2
    have := congrArg (fun z => BitVec.getLsbD z 0) e2
    simp [h] at this
end Go.Proofs.Ytbncjinkojeioaa.Cu
