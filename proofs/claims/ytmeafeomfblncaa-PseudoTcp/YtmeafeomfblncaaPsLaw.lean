/- A datagram that was built and filled, and a segment of TCP that was filled: their bytes, their checks, and what is verified of them. Nothing of the program is in here. -/
import Derived.Test.YtmeafeomfblncaaPsSum
import Derived.Test.YtmeafeomfblncaaUdMake
namespace Go.Proofs.Ytmeafeomfblncaa
open Go.ChangeShapes Go.WideShapes Go.ChangeAt Go.RowKit
set_option linter.unusedVariables false

theorem at_list (s : ByteArray) (i : Nat) (h : i < s.size) : s.data.toList.getD i 0 = s[i] := by
  rw [List.getD_eq_getElem?_getD, Array.getElem?_toList, Array.getElem?_eq_getElem h]; rfl
theorem hi_byte (n : Int) (h0 : 0 ≤ n) (h1 : n ≤ 65535) : ((UInt8.ofNat (n.toNat / 256)).toNat : Int) = n / 256 := by simp only [UInt8.toNat_ofNat']; omega
theorem lo_byte (n : Int) (h0 : 0 ≤ n) : ((UInt8.ofNat n.toNat).toNat : Int) = n % 256 := by simp only [UInt8.toNat_ofNat']; omega
theorem be_two (n : Nat) : Oct.be 2 n = [UInt8.ofNat (n / 256), UInt8.ofNat n] := rfl
theorem join_bytes (n : Int) (h0 : 0 ≤ n) (h1 : n ≤ 65535) : bits .or .i64 (n / 256 * 256) (n % 256) = n := by
  rw [Oct.or_byte (n / 256) (n % 256) (by omega) (by omega) (by omega) (by omega)]; omega
theorem two_hi {t : ByteArray} {A T : List UInt8} {c : Int} (hl : t.data.toList = A ++ (Oct.be 2 c.toNat ++ T)) (h0 : 0 ≤ c) (h1 : c ≤ 65535) (i : Nat) (hi : i = A.length) (h : i < t.size) : ((t[i]'h).toNat : Int) = c / 256 := by
  rw [← at_list, hl, be_two, List.getD_eq_getElem?_getD, List.getElem?_append_right (by omega), hi, Nat.sub_self]
  exact hi_byte c h0 h1
theorem two_lo {t : ByteArray} {A T : List UInt8} {c : Int} (hl : t.data.toList = A ++ (Oct.be 2 c.toNat ++ T)) (h0 : 0 ≤ c) (i : Nat) (hi : i = A.length + 1) (h : i < t.size) : ((t[i]'h).toNat : Int) = c % 256 := by
  rw [← at_list, hl, be_two, List.getD_eq_getElem?_getD, List.getElem?_append_right (by omega), hi, Nat.add_sub_cancel_left]
  exact lo_byte c h0
theorem cut_front {t : ByteArray} {A X : List UInt8} (hl : t.data.toList = A ++ X) {n : Nat} (hA : A.length = n) : (t.extract 0 n).data.toList = A := by
  rw [Oct.ext_list, List.drop_zero, hl, ← hA, List.take_left]
theorem cut_back {t : ByteArray} {A X T : List UInt8} (hl : t.data.toList = A ++ (X ++ T)) {n : Nat} (hA : A.length + X.length = n) : (t.extract n t.size).data.toList = T := by
  rw [Oct.ext_list, ← Oct.len_eq, List.take_length, hl, ← List.append_assoc, ← hA, ← List.length_append, List.drop_left]
theorem cut_mid {t : ByteArray} {A X T : List UInt8} (hl : t.data.toList = A ++ (X ++ T)) {a b : Nat} (hA : A.length = a) (hX : A.length + X.length = b) : (t.extract a b).data.toList = X := by
  rw [Oct.ext_list, hl, ← List.append_assoc, ← hX, ← List.length_append, List.take_left, ← hA, List.drop_left]

/-- A datagram's check. -/
def dgC (src dst a b : Int) (body : ByteArray) : Int := ckN 17 (base 17 src dst (dgA a b body.size) body.data.toList)
structure Dg (src dst a b : Int) (body : ByteArray) : Prop where
  pa : inP a = true
  pb : inP b = true
  size : body.size ≤ 1492
  hS : U32 src
  hD : U32 dst
theorem Dg.seg {src dst a b : Int} {body : ByteArray} (g : Dg src dst a b body) (M : ByteArray) : Seg 17 (built a b body ++ M) (dgA a b body.size) [0, 0] body.data.toList M.data.toList :=
  seg_built g.pa g.pb g.size _ _ _ _ rfl (Oct.len_eq _) (by rw [app_list, built_dg g.pa g.pb g.size]; simp only [List.append_assoc])
theorem Dg.seg0 {src dst a b : Int} {body : ByteArray} (g : Dg src dst a b body) : Seg 17 (built a b body) (dgA a b body.size) [0, 0] body.data.toList [] :=
  seg_built g.pa g.pb g.size _ _ _ _ rfl (Oct.len_eq _) (by rw [built_dg g.pa g.pb g.size, List.append_nil])
theorem Dg.fillM {src dst a b : Int} {body : ByteArray} (g : Dg src dst a b body) (M : ByteArray) : fillB 17 src dst (built a b body ++ M) = true ∧
    (fillS 17 src dst (built a b body ++ M)).data.toList = dgA a b body.size ++ (Oct.be 2 (dgC src dst a b body).toNat ++ (body.data.toList ++ M.data.toList)) := (g.seg M).fill g.hS g.hD
theorem Dg.fill {src dst a b : Int} {body : ByteArray} (g : Dg src dst a b body) : fillB 17 src dst (built a b body) = true ∧
    (fillS 17 src dst (built a b body)).data.toList = dgA a b body.size ++ (Oct.be 2 (dgC src dst a b body).toNat ++ body.data.toList) := by
  have h := g.seg0.fill g.hS g.hD
  rw [List.append_nil] at h
  exact h
theorem Dg.more {src dst a b : Int} {body : ByteArray} (g : Dg src dst a b body) (M : ByteArray) : fillS 17 src dst (built a b body ++ M) = fillS 17 src dst (built a b body) ++ M := by
  apply Oct.ba_ext
  rw [(g.fillM M).2, app_list, g.fill.2]
  simp only [List.append_assoc]
theorem Dg.tsize {src dst a b : Int} {body : ByteArray} (g : Dg src dst a b body) : (fillS 17 src dst (built a b body)).size = 8 + body.size := by
  rw [← Oct.len_eq, g.fill.2, List.length_append, List.length_append, dgA_len, Oct.be_length, Oct.len_eq]; omega
theorem Dg.tseg {src dst a b : Int} {body : ByteArray} (g : Dg src dst a b body) (M : ByteArray) : Seg 17 (fillS 17 src dst (built a b body) ++ M) (dgA a b body.size) (Oct.be 2 (dgC src dst a b body).toNat) body.data.toList M.data.toList :=
  seg_built g.pa g.pb g.size _ _ _ _ (Oct.be_length _ _) (Oct.len_eq _) (by rw [app_list, g.fill.2]; simp only [List.append_assoc])
theorem Dg.tseg0 {src dst a b : Int} {body : ByteArray} (g : Dg src dst a b body) : Seg 17 (fillS 17 src dst (built a b body)) (dgA a b body.size) (Oct.be 2 (dgC src dst a b body).toNat) body.data.toList [] :=
  seg_built g.pa g.pb g.size _ _ _ _ (Oct.be_length _ _) (Oct.len_eq _) (by rw [g.fill.2, List.append_nil])
theorem Dg.verM {src dst a b : Int} {body : ByteArray} (g : Dg src dst a b body) (M : ByteArray) : verE 17 src dst (fillS 17 src dst (built a b body) ++ M) = 0 := (g.tseg M).right g.hS g.hD
theorem Dg.ver {src dst a b : Int} {body : ByteArray} (g : Dg src dst a b body) : verE 17 src dst (fillS 17 src dst (built a b body)) = 0 := g.tseg0.right g.hS g.hD
theorem Dg.verTurned {src dst a b : Int} {body : ByteArray} (g : Dg src dst a b body) : verE 17 dst src (fillS 17 src dst (built a b body)) = 0 := by
  have h := g.tseg0
  unfold dgC at h
  rw [← base_turned] at h
  exact h.right g.hD g.hS
theorem Dg.ver0 {src dst a b : Int} {body : ByteArray} (g : Dg src dst a b body) : verE 17 src dst (built a b body) = 0 := g.seg0.ver0 rfl
theorem Dg.chkS {src dst a b : Int} {body : ByteArray} (g : Dg src dst a b body) : chkB 17 (built a b body) = true ∧ chkN 17 src dst (built a b body) = dgC src dst a b body := ⟨g.seg0.chkB, g.seg0.chkN g.hS g.hD⟩
theorem Dg.chkT {src dst a b : Int} {body : ByteArray} (g : Dg src dst a b body) : chkB 17 (fillS 17 src dst (built a b body)) = true ∧ chkN 17 src dst (fillS 17 src dst (built a b body)) = dgC src dst a b body := ⟨g.tseg0.chkB, g.tseg0.chkN g.hS g.hD⟩
theorem dgC_lo (src dst a b : Int) (body : ByteArray) : 0 ≤ dgC src dst a b body := ckN_lo _ _
theorem dgC_hi (src dst a b : Int) (body : ByteArray) : dgC src dst a b body ≤ 65535 := ckN_hi _ _
theorem dgC_ne (src dst a b : Int) (body : ByteArray) : (dgC src dst a b body != 0) = true := by unfold dgC; simpa using ckN_pos _
/-- The check taken out. -/
theorem Dg.none {src dst a b : Int} {body : ByteArray} (g : Dg src dst a b body) {t : ByteArray} (ht : fillS 17 src dst (built a b body) = t) : verE 17 src dst (t.extract 0 6 ++ ⟨#[0, 0]⟩ ++ t.extract 8 t.size) = 0 := by
  have hl := g.fill.2
  rw [ht] at hl
  have h := seg_built g.pa g.pb g.size (t.extract 0 6 ++ ⟨#[0, 0]⟩ ++ t.extract 8 t.size) [0, 0] body.data.toList [] rfl (Oct.len_eq _)
    (by rw [app_list, app_list, cut_front hl (dgA_len _ _ _), cut_back hl (by rw [dgA_len, Oct.be_length]), List.append_nil, List.append_assoc])
  exact h.ver0 rfl
theorem Dg.hi {src dst a b : Int} {body : ByteArray} (g : Dg src dst a b body) {t : ByteArray} (ht : fillS 17 src dst (built a b body) = t) (h : 6 < t.size) : ((t[6]'h).toNat : Int) = dgC src dst a b body / 256 := by
  have hl := g.fill.2
  rw [ht] at hl
  exact two_hi hl (dgC_lo _ _ _ _ _) (dgC_hi _ _ _ _ _) 6 (dgA_len _ _ _).symm h
theorem Dg.lo {src dst a b : Int} {body : ByteArray} (g : Dg src dst a b body) {t : ByteArray} (ht : fillS 17 src dst (built a b body) = t) (h : 7 < t.size) : ((t[7]'h).toNat : Int) = dgC src dst a b body % 256 := by
  have hl := g.fill.2
  rw [ht] at hl
  exact two_lo hl (dgC_lo _ _ _ _ _) 7 (by rw [dgA_len]) h
/-- What is filled differs in its check alone, which is not 0. -/
theorem Dg.front {src dst a b : Int} {body : ByteArray} (g : Dg src dst a b body) : (fillS 17 src dst (built a b body)).extract 0 6 = (built a b body).extract 0 6 := by
  apply Oct.ba_ext
  rw [cut_front g.fill.2 (dgA_len _ _ _), cut_front (built_dg g.pa g.pb g.size) (dgA_len _ _ _)]
theorem Dg.back {src dst a b : Int} {body : ByteArray} (g : Dg src dst a b body) : (fillS 17 src dst (built a b body)).extract 8 (fillS 17 src dst (built a b body)).size = (built a b body).extract 8 (built a b body).size := by
  apply Oct.ba_ext
  rw [cut_back g.fill.2 (by rw [dgA_len, Oct.be_length]), cut_back (built_dg g.pa g.pb g.size) (by rw [dgA_len]; rfl)]
theorem Dg.notZero {src dst a b : Int} {body : ByteArray} (g : Dg src dst a b body) : (fillS 17 src dst (built a b body)).extract 6 8 ≠ ⟨#[0, 0]⟩ := by
  intro h
  have h2 := cut_mid (a := 6) (b := 8) g.fill.2 (dgA_len _ _ _) (by rw [dgA_len, Oct.be_length])
  rw [h] at h2
  have h3 := num_ck 17 (base 17 src dst (dgA a b body.size) body.data.toList)
  have h4 := ckN_pos (base 17 src dst (dgA a b body.size) body.data.toList)
  unfold dgC at h2
  rw [← h2] at h3
  exact h4 (h3.symm.trans rfl)

/-- A segment of TCP: zeros, and something. -/
def tcA : List UInt8 := List.replicate 16 0
def tcS (B : ByteArray) : ByteArray := zeroS 20 ++ B
def tcT (B : ByteArray) : List UInt8 := [0, 0] ++ B.data.toList
theorem tcS_list (B : ByteArray) : (tcS B).data.toList = tcA ++ ([0, 0] ++ tcT B) := by
  unfold tcS tcT
  rw [app_list]
  rfl
def tcC (src dst : Int) (B : ByteArray) : Int := ckN 6 (base 6 src dst tcA (tcT B))
theorem tcC_lo (src dst : Int) (B : ByteArray) : 0 ≤ tcC src dst B := ckN_lo _ _
theorem tcC_hi (src dst : Int) (B : ByteArray) : tcC src dst B ≤ 65535 := ckN_hi _ _
theorem tc_seg (B : ByteArray) : Seg 6 (tcS B) tcA [0, 0] (tcT B) [] := seg_tcp (tcS_list B) rfl rfl
theorem tc_fill {src dst : Int} (B : ByteArray) (hS : U32 src) (hD : U32 dst) : fillB 6 src dst (tcS B) = true ∧ (fillS 6 src dst (tcS B)).data.toList = tcA ++ (Oct.be 2 (tcC src dst B).toNat ++ tcT B) := by
  have h := (tc_seg B).fill hS hD
  rw [List.append_nil] at h
  exact h
theorem tc_tseg {src dst : Int} (B : ByteArray) (hS : U32 src) (hD : U32 dst) : Seg 6 (fillS 6 src dst (tcS B)) tcA (Oct.be 2 (tcC src dst B).toNat) (tcT B) [] := seg_tcp (tc_fill B hS hD).2 rfl (Oct.be_length _ _)
theorem tc_ver {src dst : Int} (B : ByteArray) (hS : U32 src) (hD : U32 dst) : verE 6 src dst (fillS 6 src dst (tcS B)) = 0 := (tc_tseg B hS hD).right hS hD
theorem tc_size {src dst : Int} (B : ByteArray) (hS : U32 src) (hD : U32 dst) : (fillS 6 src dst (tcS B)).size = 20 + B.size := by
  rw [← Oct.len_eq, (tc_fill B hS hD).2, List.length_append, List.length_append, Oct.be_length]
  unfold tcT tcA
  rw [List.length_append, List.length_replicate, Oct.len_eq]
  show 16 + (2 + (2 + _)) = _
  omega
theorem tcS_size (B : ByteArray) : (tcS B).size = 20 + B.size := by unfold tcS; rw [ByteArray.size_append, zeroS_size]
theorem tc_front {src dst : Int} (B : ByteArray) (hS : U32 src) (hD : U32 dst) : (fillS 6 src dst (tcS B)).extract 0 16 = (tcS B).extract 0 16 := by
  apply Oct.ba_ext
  rw [cut_front (tc_fill B hS hD).2 (by rfl), cut_front (tcS_list B) (by rfl)]
theorem tc_back {src dst : Int} (B : ByteArray) (hS : U32 src) (hD : U32 dst) : (fillS 6 src dst (tcS B)).extract 18 (fillS 6 src dst (tcS B)).size = (tcS B).extract 18 (tcS B).size := by
  apply Oct.ba_ext
  rw [cut_back (tc_fill B hS hD).2 (by rw [Oct.be_length]; rfl), cut_back (tcS_list B) (by rfl)]
theorem tc_hi {src dst : Int} (B : ByteArray) (hS : U32 src) (hD : U32 dst) {t : ByteArray} (ht : fillS 6 src dst (tcS B) = t) (h : 16 < t.size) : ((t[16]'h).toNat : Int) = tcC src dst B / 256 := by
  have hl := (tc_fill B hS hD).2
  rw [ht] at hl
  exact two_hi hl (tcC_lo _ _ _) (tcC_hi _ _ _) 16 rfl h
theorem tc_lo {src dst : Int} (B : ByteArray) (hS : U32 src) (hD : U32 dst) {t : ByteArray} (ht : fillS 6 src dst (tcS B) = t) (h : 17 < t.size) : ((t[17]'h).toNat : Int) = tcC src dst B % 256 := by
  have hl := (tc_fill B hS hD).2
  rw [ht] at hl
  exact two_lo hl (tcC_lo _ _ _) 17 rfl h
theorem pow_mod : ∀ m : Fin 32, (2 ^ m.val : Int) % 65535 ≠ 0 := by decide +kernel
theorem tc_wrong {src dst x : Int} (B : ByteArray) (hS : U32 src) (hD : U32 dst) (hX : U32 x) (m : Nat) (hm : m < 32) (h : x = src + 2 ^ m ∨ x = src - 2 ^ m) : verE 6 x dst (fillS 6 src dst (tcS B)) = 7 := by
  have hq := pow_mod ⟨m, hm⟩
  simp only at hq
  refine (tc_tseg B hS hD).wrong hX hD rfl (B := base 6 src dst tcA (tcT B)) ?_ ?_
  · have := num_ck 6 (base 6 src dst tcA (tcT B))
    unfold tcC
    rw [this]
    exact ck_mod (base_pos (by decide))
  · have e1 := a4_mod hS
    have e2 := a4_mod hX
    have e3 : base 6 x dst tcA (tcT B) - base 6 src dst tcA (tcT B) = a4 x - a4 src := by unfold base; omega
    rw [e3]
    generalize (2 ^ m : Int) = P at *
    omega
theorem nat_xor (a b : Nat) : (a ^^^ b) + 2 * (a &&& b) = a + b := by
  induction a using Nat.strongRecOn generalizing b with
  | _ a ih =>
    by_cases h : a = 0
    · subst h; simp
    · have q := ih (a / 2) (by omega) (b / 2)
      have x2 : (a ^^^ b) / 2 = a / 2 ^^^ b / 2 := Nat.xor_div_two
      have y2 : (a &&& b) / 2 = a / 2 &&& b / 2 := Nat.and_div_two
      have xm : (a ^^^ b) % 2 = (a + b) % 2 := by
        have e : (a ^^^ b) % 2 = (a % 2) ^^^ (b % 2) := Nat.xor_mod_two_pow (n := 1)
        rw [e, Nat.add_mod]
        rcases Nat.mod_two_eq_zero_or_one a with ha | ha <;> rcases Nat.mod_two_eq_zero_or_one b with hb | hb <;> rw [ha, hb] <;> rfl
      have ym : (a &&& b) % 2 = a % 2 * (b % 2) := by
        have e : (a &&& b) % 2 = (a % 2) &&& (b % 2) := Nat.and_mod_two_pow (n := 1)
        rw [e]
        rcases Nat.mod_two_eq_zero_or_one a with ha | ha <;> rcases Nat.mod_two_eq_zero_or_one b with hb | hb <;> rw [ha, hb] <;> rfl
      rw [← x2, ← y2] at q
      generalize a ^^^ b = X at *
      generalize a &&& b = Y at *
      rcases Nat.mod_two_eq_zero_or_one a with ha | ha <;> rcases Nat.mod_two_eq_zero_or_one b with hb | hb <;> rw [ha, hb] at ym <;> simp at ym <;> omega
theorem and_pow (a m : Nat) : a &&& 2 ^ m = 0 ∨ a &&& 2 ^ m = 2 ^ m := by
  cases h : a.testBit m with
  | false =>
    left
    apply Nat.eq_of_testBit_eq
    intro i
    rw [Nat.testBit_and, Nat.testBit_two_pow, Nat.zero_testBit]
    by_cases e : m = i
    · subst e; rw [h]; rfl
    · simp [e]
  | true =>
    right
    apply Nat.eq_of_testBit_eq
    intro i
    rw [Nat.testBit_and, Nat.testBit_two_pow]
    by_cases e : m = i
    · subst e; rw [h]; simp
    · simp [e]
theorem nat_xor_pow (a m : Nat) : (a ^^^ 2 ^ m) = a + 2 ^ m ∨ (a ^^^ 2 ^ m) + 2 ^ m = a := by
  have h := nat_xor a (2 ^ m)
  rcases and_pow a m with e | e <;> rw [e] at h
  · left; omega
  · right; omega
theorem bits_xor_u32 (a b : Nat) (ha : a < 4294967296) (hb : b < 4294967296) : bits .xor .u32 (a : Int) (b : Int) = ((a ^^^ b : Nat) : Int) := by
  have hx : a ^^^ b < 2 ^ 32 := Nat.xor_lt_two_pow (by omega) (by omega)
  have h1 : (BitVec.ofInt 32 (a : Int)).toNat = a := by
    rw [BitVec.ofInt_natCast, BitVec.toNat_ofNat]; exact Nat.mod_eq_of_lt (by omega)
  have h2 : (BitVec.ofInt 32 (b : Int)).toNat = b := by
    rw [BitVec.ofInt_natCast, BitVec.toNat_ofNat]; exact Nat.mod_eq_of_lt (by omega)
  show IntKind.u32.wrap ((BitVec.ofInt 32 (a : Int) ^^^ BitVec.ofInt 32 (b : Int)).toNat : Int) = _
  rw [BitVec.toNat_xor, h1, h2, IntKind.wrap_u32]
  omega
theorem xor_pow (x P : Int) (m : Nat) (h0 : 0 ≤ x) (h1 : x ≤ 4294967295) (hm : m < 32) (hP : P = 2 ^ m) : (bits .xor .u32 x P = x + 2 ^ m ∨ bits .xor .u32 x P = x - 2 ^ m) ∧ U32 (bits .xor .u32 x P) := by
  subst hP
  obtain ⟨n, rfl⟩ := Int.eq_ofNat_of_zero_le h0
  have hn : n < 4294967296 := by omega
  have hp : 2 ^ m < 4294967296 := by
    have : (2 : Nat) ^ m ≤ 2 ^ 31 := Nat.pow_le_pow_right (by decide) (by omega)
    have e : (2 : Nat) ^ 31 = 2147483648 := by decide
    omega
  have hx : n ^^^ 2 ^ m < 2 ^ 32 := Nat.xor_lt_two_pow (by omega) (by omega)
  have e := bits_xor_u32 n (2 ^ m) hn hp
  have c : ((2 ^ m : Nat) : Int) = (2 : Int) ^ m := by simp
  rw [c] at e
  rw [e]
  have h := nat_xor_pow n m
  rw [← c]
  generalize n ^^^ 2 ^ m = X at *
  generalize (2 ^ m : Nat) = Q at *
  have e32 : (2 : Nat) ^ 32 = 4294967296 := by decide
  refine ⟨?_, ⟨by omega, by omega⟩⟩
  rcases h with h | h
  · left; omega
  · right; omega
end Go.Proofs.Ytmeafeomfblncaa
