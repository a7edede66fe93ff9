/- Plain facts about masks, and nets of addresses: nothing of the program is in here. -/
import Derived.Laws.BitsLemmas
import Derived.WalkKit
import Derived.Test.YtnnhkjjnolhaoaaDoorAdMath
namespace Go.Proofs.YtnnhkjjnolhaoaaDoor.Ad

theorem wraps_u32 (n : Int) (h₀ : 0 ≤ n) (h₁ : n < 2 ^ 32) : IntKind.u32.wrap n = n := by rw [IntKind.wrap_u32]; omega
theorem and_u32 (a b : Nat) (ha : a < 4294967296) (hb : b < 4294967296) : bits .and .u32 a b = ((a &&& b : Nat) : Int) := (bits_nat .u32 32 (by decide) wraps_u32 a b ha hb).1
theorem or_u32 (a b : Nat) (ha : a < 4294967296) (hb : b < 4294967296) : bits .or .u32 a b = ((a ||| b : Nat) : Int) := (bits_nat .u32 32 (by decide) wraps_u32 a b ha hb).2

/-- The mask of b bits, and what of an address it leaves. -/
def msk (b : Int) : Int := 4294967295 * 2 ^ (32 - b).toNat % 4294967296
def cut (b a : Int) : Int := a / 2 ^ (32 - b).toNat * 2 ^ (32 - b).toNat

theorem mbits : ∀ (j : Fin 33) (i : Fin 32), (4294967295 * 2 ^ j.val % 4294967296).testBit i = decide (j.val ≤ i.val) := by decide +kernel
theorem cut_bit (j a i : Nat) : (a / 2 ^ j * 2 ^ j).testBit i = (decide (j ≤ i) && a.testBit i) := by
  rw [← Nat.shiftRight_eq_div_pow, ← Nat.shiftLeft_eq, Nat.testBit_shiftLeft]
  by_cases h : j ≤ i
  · simp only [ge_iff_le, h, decide_true, Bool.true_and, Nat.testBit_shiftRight]
    congr 1; omega
  · simp [h]
theorem and_nat (j a : Nat) (hj : j ≤ 32) (ha : a < 4294967296) : a &&& (4294967295 * 2 ^ j % 4294967296) = a / 2 ^ j * 2 ^ j := by
  apply Nat.eq_of_testBit_eq
  intro i
  rw [Nat.testBit_and, cut_bit]
  by_cases hi : i < 32
  · rw [mbits ⟨j, by omega⟩ ⟨i, hi⟩, Bool.and_comm]
  · have : a.testBit i = false := Nat.testBit_lt_two_pow (Nat.lt_of_lt_of_le ha (by
      have : 2 ^ 32 ≤ 2 ^ i := Nat.pow_le_pow_right (by decide) (by omega)
      simpa using this))
    simp [this]

theorem toJ (b : Int) (h0 : 0 ≤ b) (h1 : b ≤ 32) : ∃ j : Nat, j ≤ 32 ∧ (32 - b).toNat = j ∧ b = 32 - (j : Int) := ⟨(32 - b).toNat, by omega, rfl, by omega⟩
theorem msk_nat (b : Int) : msk b = ((4294967295 * 2 ^ (32 - b).toNat % 4294967296 : Nat) : Int) := by unfold msk; simp
theorem cut_nat (b : Int) (a : Nat) : cut b a = ((a / 2 ^ (32 - b).toNat * 2 ^ (32 - b).toNat : Nat) : Int) := by unfold cut; simp
theorem and_msk (b a : Int) (h0 : 0 ≤ b) (h1 : b ≤ 32) (ha : 0 ≤ a) (ha1 : a ≤ 4294967295) : bits .and .u32 a (msk b) = cut b a := by
  obtain ⟨n, rfl⟩ := Int.eq_ofNat_of_zero_le ha
  rw [msk_nat, and_u32 n _ (by omega) (Nat.mod_lt _ (by decide)), and_nat _ n (by omega) (by omega), cut_nat]
theorem msk_lo (b : Int) : 0 ≤ msk b := by unfold msk; omega
theorem msk_hi (b : Int) : msk b ≤ 4294967295 := by unfold msk; omega
theorem cut_lo (b a : Int) (ha : 0 ≤ a) : 0 ≤ cut b a := by
  obtain ⟨n, rfl⟩ := Int.eq_ofNat_of_zero_le ha
  rw [cut_nat]; omega
theorem cut_hi (b a : Int) (ha : 0 ≤ a) : cut b a ≤ a := by
  obtain ⟨n, rfl⟩ := Int.eq_ofNat_of_zero_le ha
  rw [cut_nat]
  have := Nat.div_mul_le_self n (2 ^ (32 - b).toNat)
  omega
theorem cut_cut (k l a : Int) (hkl : k ≤ l) (ha : 0 ≤ a) : cut k (cut l a) = cut k a := by
  obtain ⟨n, rfl⟩ := Int.eq_ofNat_of_zero_le ha
  rw [cut_nat l, cut_nat k, cut_nat k]
  congr 1
  apply Nat.eq_of_testBit_eq
  intro i
  rw [cut_bit, cut_bit, cut_bit]
  by_cases h : (32 - k).toNat ≤ i
  · have : (32 - l).toNat ≤ i := by omega
    simp [h, this]
  · simp [h]
theorem cut_idem (k a : Int) (ha : 0 ≤ a) : cut k (cut k a) = cut k a := cut_cut k k a (Int.le_refl _) ha
theorem cut_32 (a : Int) : cut 32 a = a := by unfold cut; simp

/-- Has a net of b bits from n on the address a? -/
def hasB (n b a : Int) : Bool := decide (0 ≤ b ∧ b ≤ 32 ∧ cut b a = n)
theorem has_yes {n b a : Int} (h0 : 0 ≤ b) (h1 : b ≤ 32) (h : cut b a = n) : hasB n b a = true := decide_eq_true ⟨h0, h1, h⟩
theorem has_no {n b a : Int} (h : cut b a ≠ n) : hasB n b a = false := decide_eq_false fun x => h x.2.2
theorem has_out {n b a : Int} (h : b < 0 ∨ 32 < b) : hasB n b a = false := decide_eq_false fun x => by omega
theorem of_has {n b a : Int} (h : hasB n b a = true) : 0 ≤ b ∧ b ≤ 32 ∧ cut b a = n := of_decide_eq_true h

/-- The text of a net. -/
def netx (a b : Nat) : List UInt8 := txt a ++ 47 :: dig b
theorem txt_47 (a : Nat) (h : a < 4294967296) : (47 : UInt8) ∉ txt a := by
  have h3 := p47 _ (b3 a h); have h2 := p47 (a / 65536 % 256) (by omega); have h1 := p47 (a / 256 % 256) (by omega); have h0 := p47 (a % 256) (by omega)
  simp [txt, h3, h2, h1, h0]
theorem before_net (a b : Nat) (h : a < 4294967296) : before 47 (netx a b) = txt a := before_app 47 _ _ (txt_47 a h)
theorem after_net (a b : Nat) (h : a < 4294967296) : after 47 (netx a b) = dig b := after_app 47 _ _ (txt_47 a h)
theorem netx_length (a b : Nat) (h : a < 4294967296) (hb : b ≤ 32) : (netx a b).length ≤ 19 := by
  have h1 := (txt_length a h).2; have h2 := dig_hi b (by omega)
  simp [netx]; omega

/-- The number that a text is taken for. -/
def av (l : List UInt8) : Int := match Lib.atoiAll l with
  | .ok v => v
  | .«syntax» => 0
  | .range => Lib.atoiSat l
theorem av_facts : ∀ b : Fin 33, av (dig b) = (b.val : Int) := by decide +kernel
theorem av_dig (b : Nat) (h : b ≤ 32) : av (dig b) = b := av_facts ⟨b, by omega⟩

/-- A right net of b bits from a on is written so. -/
def IsNet (l : List UInt8) (a b : Nat) : Prop := a < 4294967296 ∧ b ≤ 32 ∧ cut b a = a ∧ netx a b = l
theorem net_gs {l : List UInt8} {a b : Nat} (h : IsNet l a b) : gs (before 47 l) = a := by
  obtain ⟨ha, hb, _, rfl⟩ := h; rw [before_net a b ha, gs_txt a ha]
theorem net_av {l : List UInt8} {a b : Nat} (h : IsNet l a b) : av (after 47 l) = b := by
  obtain ⟨ha, hb, _, rfl⟩ := h; rw [after_net a b ha, av_dig b hb]
theorem net_one {l : List UInt8} {a b c d : Nat} (h : IsNet l a b) (k : IsNet l c d) : a = c ∧ b = d := by
  have h1 := net_gs h; have h2 := net_gs k; have h3 := net_av h; have h4 := net_av k
  omega
end Go.Proofs.YtnnhkjjnolhaoaaDoor.Ad
