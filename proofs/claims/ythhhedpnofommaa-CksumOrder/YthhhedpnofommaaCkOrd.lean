/- Sums of words in another order, and with a bit turned. -/
import Derived.Test.YthhhedpnofommaaCkEx
import Derived.Laws.AppendOwn
namespace Go.Proofs.Ythhhedpnofommaa
open Go.ChangeShapes Go.WideShapes Go.ChangeAt Go.RowKit

/-- The sum of numbers. -/
def isum (l : List Int) : Int := l.foldr (· + ·) 0
theorem isum_cons (z : Int) (l : List Int) : isum (z :: l) = z + isum l := rfl
theorem isum_app (l m : List Int) : isum (l ++ m) = isum l + isum m := by
  induction l with
  | nil => simp [isum]
  | cons z l ih => rw [List.cons_append, isum_cons, isum_cons, ih]; omega
theorem isum_rev (l : List Int) : isum l.reverse = isum l := by
  induction l with
  | nil => rfl
  | cons z l ih => rw [List.reverse_cons, isum_app, ih, isum_cons, isum_cons]; simp [isum]; omega
theorem isum_bound (l : List Int) (h : ∀ z ∈ l, 0 ≤ z ∧ z ≤ 65535) : 0 ≤ isum l ∧ isum l ≤ 65535 * l.length := by
  induction l with
  | nil => simp [isum]
  | cons z l ih =>
    have h1 := ih fun y hy => h y (List.mem_cons_of_mem _ hy)
    have h2 := h z (List.mem_cons_self)
    rw [isum_cons]; simp; omega
theorem usum_isum (l : List Int) (h : ∀ z ∈ l, 0 ≤ z ∧ z ≤ 65535) (hl : l.length ≤ 60) : Ck.usum l = isum l := by
  have gen : ∀ (l : List Int) (a : Int), (∀ z ∈ l, 0 ≤ z ∧ z ≤ 65535) → 0 ≤ a → a + 65535 * l.length ≤ 18446744073709551615 → l.foldl (fun a z => (a + z) % 18446744073709551616) a = a + isum l := by
    intro l
    induction l with
    | nil => intro a _ _ _; simp [isum]
    | cons z l ih =>
      intro a h h0 h1
      have h2 := h z (List.mem_cons_self)
      simp only [List.length_cons, Int.natCast_add, Int.natCast_one] at h1
      rw [List.foldl_cons, Int.emod_eq_of_lt (by omega) (by omega), ih (a + z) (fun y hy => h y (List.mem_cons_of_mem _ hy)) (by omega) (by omega), isum_cons]
      omega
  have := gen l 0 h (Int.le_refl _) (by omega)
  unfold Ck.usum
  rw [this]; omega
theorem usum_rev (l : List Int) (h : ∀ z ∈ l, 0 ≤ z ∧ z ≤ 65535) (hl : l.length ≤ 60) : Ck.usum l.reverse = Ck.usum l := by
  rw [usum_isum _ (fun z hz => h z (List.mem_reverse.1 hz)) (by simp; omega), usum_isum l h hl, isum_rev]
theorem isum_set (l : List Int) (k : Nat) (x : Int) (h : k < l.length) : isum (l.set k x) = isum l - l.getD k 0 + x := by
  induction l generalizing k with
  | nil => simp at h
  | cons z l ih =>
    cases k with
    | zero => rw [List.set_cons_zero, isum_cons, isum_cons]; simp; omega
    | succ k =>
      rw [List.set_cons_succ, isum_cons, isum_cons, ih k (by simpa using h)]
      simp [List.getD_eq_getElem?_getD]; omega
/-- A bit that is turned. -/
theorem xor_u16 (a b : Nat) (ha : a < 65536) (hb : b < 65536) : bits .xor .u16 (a : Int) (b : Int) = ((a ^^^ b : Nat) : Int) := by
  have hx : a ^^^ b < 2 ^ 16 := Nat.xor_lt_two_pow (by omega) (by omega)
  have h1 : (BitVec.ofInt 16 (a : Int)).toNat = a := by
    rw [BitVec.ofInt_natCast, BitVec.toNat_ofNat]; exact Nat.mod_eq_of_lt (by omega)
  have h2 : (BitVec.ofInt 16 (b : Int)).toNat = b := by
    rw [BitVec.ofInt_natCast, BitVec.toNat_ofNat]; exact Nat.mod_eq_of_lt (by omega)
  show IntKind.u16.wrap ((BitVec.ofInt 16 (a : Int) ^^^ BitVec.ofInt 16 (b : Int)).toNat : Int) = _
  rw [BitVec.toNat_xor, h1, h2, Ck.wrap_u16]
  omega
theorem turned (x b : Nat) (hx : x < 65536) (hb : b < 16) : x ^^^ 2 ^ b < 65536 ∧ x ^^^ 2 ^ b ≠ x ∧ (x = 0 → x ^^^ 2 ^ b ≠ 65535) ∧ (x = 65535 → x ^^^ 2 ^ b ≠ 0) := by
  refine ⟨Nat.xor_lt_two_pow (n := 16) hx (Nat.pow_lt_pow_right (by decide) hb), fun e => ?_, ?_, ?_⟩
  · have h := congrArg (fun n => n.testBit b) e
    simp only [Nat.testBit_xor, Nat.testBit_two_pow_self, Bool.xor_true] at h
    cases hx : x.testBit b <;> simp [hx] at h
  · rintro rfl
    have all : ∀ b : Fin 16, 0 ^^^ 2 ^ b.val ≠ 65535 := by decide
    exact all ⟨b, hb⟩
  · rintro rfl
    have all : ∀ b : Fin 16, 65535 ^^^ 2 ^ b.val ≠ 0 := by decide
    exact all ⟨b, hb⟩
theorem turned_sum (l : List Int) (h : ∀ z ∈ l, 0 ≤ z ∧ z ≤ 65535) (hl : l.length ≤ 60) (q : Nat) (hq : q < l.length) (b : Nat) (hb : b < 16) :
    ∃ y : Int, bits .xor .u16 (l.getD q 0) (IntKind.u16.wrap ((2 : Int) ^ b)) = y ∧ 0 ≤ y ∧ y ≤ 65535 ∧ (Ck.fold (Ck.usum (l.set q y)) != Ck.fold (Ck.usum l)) = true := by
  have hz : 0 ≤ l.getD q 0 ∧ l.getD q 0 ≤ 65535 := by
    rw [List.getD_eq_getElem?_getD, List.getElem?_eq_getElem hq]; exact h _ (List.getElem_mem hq)
  obtain ⟨x, hx⟩ := Int.eq_ofNat_of_zero_le hz.1
  have hx2 : x < 65536 := by omega
  obtain ⟨t1, t2, t3, t4⟩ := turned x b hx2 hb
  have hp : (2 : Nat) ^ b < 65536 := Nat.pow_lt_pow_right (m := b) (n := 16) (by decide) hb
  have e : bits .xor .u16 (l.getD q 0) (IntKind.u16.wrap ((2 : Int) ^ b)) = ((x ^^^ 2 ^ b : Nat) : Int) := by
    have hw : IntKind.u16.wrap ((2 : Int) ^ b) = ((2 ^ b : Nat) : Int) := by
      have e2 : ((2 : Int) ^ b) = ((2 ^ b : Nat) : Int) := by simp
      rw [e2, Ck.wrap_u16]
      generalize 2 ^ b = p at hp ⊢
      omega
    rw [hx, hw]
    exact xor_u16 x (2 ^ b) hx2 hp
  refine ⟨_, e, by omega, by omega, ?_⟩
  have hset : ∀ z ∈ l.set q ((x ^^^ 2 ^ b : Nat) : Int), 0 ≤ z ∧ z ≤ 65535 := by
    intro z hz'
    rcases List.mem_or_eq_of_mem_set hz' with h1 | h1
    · exact h z h1
    · omega
  rw [usum_isum _ hset (by simp; omega), usum_isum l h hl, isum_set l q _ hq, hx]
  have hne : ¬ Ck.fold (isum l - (x : Int) + ((x ^^^ 2 ^ b : Nat) : Int)) = Ck.fold (isum l) := by
    intro hf
    have hm := Ck.fold_inj _ _ hf
    omega
  simpa using hne

theorem rev_take (l : List Int) (k : Nat) (h : k < l.length) : l.reverse.take (k + 1) = l.reverse.take k ++ [l.getD (l.length - 1 - k) 0] := by
  rw [List.take_succ_eq_append_getElem (by simpa using h), List.getElem_reverse, List.getD_eq_getElem?_getD, List.getElem?_eq_getElem (by omega)]
  rfl
theorem info_u16 : (Try.prog.info? 25).map (fun i => (i.zero, i.size, i.bytes)) = some (some (.int .u16 0), 1, 2) := by kernel_rfl

/-- A row that the call owns, as Join reads it. -/
theorem own_reads {w : World} {base n cap g : Nat} {e : TypeId} {zs : List Int} (h : w.ownsRow base e 1 (.slice (some ⟨g, 0, none⟩) n cap) n (zs.map (Value.int .u16))) : Reads .u16 w ⟨g, 0, none⟩ zs := by
  intro i hi
  refine h.cells rfl i _ ?_
  rw [List.getElem?_map, List.getElem?_eq_getElem hi, List.getD_eq_getElem?_getD, List.getElem?_eq_getElem hi]
  rfl
theorem reads_on {k : IntKind} {w w' : World} {x : Addr} {zs : List Int} (h : Reads k w x zs) (hb : Below w.heap.size w w') : Reads k w' x zs := by
  intro i hi
  have hc := h i hi
  rw [hb.cell (block_lt_of_cell hc)]; exact hc
theorem join_own (u : World) (base n : Nat) (e : TypeId) (v : Value) (zs : List Int) (h : u.ownsRow base e 1 v n (zs.map (Value.int .u16))) (hn : zs.length = n) (hl : n ≤ 60) (hz : ∀ z ∈ zs, 0 ≤ z ∧ z ≤ 65535) :
    Calls Try.prog 17 #[v] u fun e w' => e = .returned (.int .u16 (Ck.fold (Ck.usum zs))) ∧ w' = u := by
  have h' := h
  obtain ⟨_, ⟨rfl, rfl⟩ | ⟨g, cap, cur, rfl, _⟩⟩ := h'
  · have : zs = [] := List.eq_nil_of_length_eq_zero hn
    subst this
    exact join_nil u
  · subst hn
    exact join_row _ cap zs u (by omega) (own_reads h) hz
theorem own_set {w : World} {base n cap g q : Nat} {e : TypeId} {zs : List Int} {y : Int} (h : w.ownsRow base e 1 (.slice (some ⟨g, 0, none⟩) n cap) n (zs.map (Value.int .u16))) (hn : zs.length = n) (hq : q < n) :
    ∀ i, i < n → (w.setCell ⟨g, q, none⟩ (.int .u16 y)).drew.cell? ((⟨g, 0, none⟩ : Addr).add i) = some (.int .u16 ((zs.set q y).getD i 0)) := by
  intro i hi
  have hc := own_reads h i (by omega)
  have hcq := own_reads h q (by omega)
  have ea : ∀ k : Nat, ((⟨g, 0, none⟩ : Addr).add k) = ⟨g, k, none⟩ := fun k => by simp [Addr.add]; omega
  rw [ea] at hc hcq ⊢
  show (w.setCell ⟨g, q, none⟩ (.int .u16 y)).cell? ⟨g, i, none⟩ = _
  by_cases e : q = i
  · subst e
    rw [World.cell?_setCell_same' _ _ _ (by rw [hcq]; rfl), List.getD_eq_getElem?_getD, List.getElem?_set_self (by omega)]; rfl
  · rw [World.cell?_setCell_other _ _ _ _ (fun hh => e (by injection hh)), hc, List.getD_eq_getElem?_getD, List.getD_eq_getElem?_getD, List.getElem?_set_ne e]

/-- The last k words, the last one first. -/
def revs (ys : List Int) (k : Nat) : List Value := (ys.reverse.take k).map (Value.int .u16)
theorem revs_all (ys : List Int) : revs ys ys.length = ys.reverse.map (Value.int .u16) := by unfold revs; rw [List.take_of_length_le (by simp)]
theorem revs_succ (ys : List Int) (j n : Nat) (h : j + 1 + n = ys.length) : revs ys (n + 1) = revs ys n ++ [.int .u16 (ys.getD j 0)] := by
  unfold revs
  rw [rev_take ys n (by omega), show ys.length - 1 - n = j by omega, List.map_append]; rfl
theorem order_rel (ys : List Int) (n : Nat) (x : Int) (v v' : Value) (w wr w1 : World) (hx : revs ys (n + 1) = revs ys n ++ [.int .u16 x])
    (hown : wr.ownsRow w.heap.size 25 1 v n (revs ys n)) (hbl : Below w.heap.size w wr)
    (hown' : w1.ownsRow w.heap.size 25 1 v' (n + 1) (revs ys n ++ [.int .u16 x])) (hgrow : (wr.alloc (.cells #[.int .u16 x] 25)).grownBy w1 v.ownBlock) :
    w1.ownsRow w.heap.size 25 1 v' (n + 1) (revs ys (n + 1)) ∧ Below w.heap.size w w1 := by
  refine ⟨by rw [hx]; exact hown', ?_⟩
  exact (hbl.alloc hbl.size _).grown hgrow (by simp; have := hbl.size; omega) (fun j e => (hown.lt j e).1)
end Go.Proofs.Ythhhedpnofommaa
