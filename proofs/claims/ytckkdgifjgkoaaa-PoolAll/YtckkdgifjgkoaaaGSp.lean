/- Mix, and turning left, in both packages. -/
import Derived.Test.YtckkdgifjgkoaaaAnMix
import Derived.Test.YtckkdgifjgkoaaaChecked
import Derived.Test.YtckkdgifjgkoaaaSpMath
import Derived.WalkKit
import Derived.ProofKit
import Derived.OpenShut
import Derived.WalkSpells
import Derived.WalkLawsBesides
import Derived.Handy
import Derived.Test.YtckkdgifjgkoaaaSpRow
import Derived.Test.YtckkdgifjgkoaaaAnMem
namespace Go.Proofs.Ytckkdgifjgkoaaa
open Go.ChangeShapes Go.WideShapes Go.ChangeAt Go.RowKit Sp

set_option maxHeartbeats 400000 in
set_option maxHeartbeats 400000 in
set_option maxHeartbeats 400000 in
theorem rot_any (x : Sp.B) (c : Int) (k : Nat) (h : Turn c k) (w : World) :
    Calls Try.prog 74 #[.int .u64 (nn x), .int .i64 c] w fun e w' => e = .returned (.int .u64 (nn (rotl x k))) ∧ w' = w := by
  have a13 : bits .and .u64 13 63 = 13 := by decide
  have a16 : bits .and .u64 16 63 = 16 := by decide
  have a17 : bits .and .u64 17 63 = 17 := by decide
  have a21 : bits .and .u64 21 63 = 21 := by decide
  have a32 : bits .and .u64 32 63 = 32 := by decide
  rcases h with ⟨rfl, rfl⟩ | ⟨rfl, rfl⟩ | ⟨rfl, rfl⟩ | ⟨rfl, rfl⟩ | ⟨rfl, rfl⟩
  · go_enter Try.func74, Try.ntmps74
    go_wp2_with fail
    go_ret
    exact ⟨ret_u64 (rotl_nn x 13), rfl⟩
  · go_enter Try.func74, Try.ntmps74
    go_wp2_with fail
    go_ret
    exact ⟨ret_u64 (rotl_nn x 16), rfl⟩
  · go_enter Try.func74, Try.ntmps74
    go_wp2_with fail
    go_ret
    exact ⟨ret_u64 (rotl_nn x 17), rfl⟩
  · go_enter Try.func74, Try.ntmps74
    go_wp2_with fail
    go_ret
    exact ⟨ret_u64 (rotl_nn x 21), rfl⟩
  · go_enter Try.func74, Try.ntmps74
    go_wp2_with fail
    go_ret
    exact ⟨ret_u64 (rotl_nn x 32), rfl⟩
set_option maxHeartbeats 400000 in
theorem left_any (x : Sp.B) (c : Int) (k : Nat) (h : Turn c k) (w : World) :
    Calls Try.prog 75 #[.int .u64 (nn x), .int .u64 c] w fun e w' => e = .returned (.int .u64 (nn (rotl x k))) ∧ w' = w := by
  rcases h with ⟨rfl, rfl⟩ | ⟨rfl, rfl⟩ | ⟨rfl, rfl⟩ | ⟨rfl, rfl⟩ | ⟨rfl, rfl⟩
  · go_enter Try.func75, Try.ntmps75
    go_wp2_with fail
    go_ret
    exact ⟨ret_u64 (rotl_nn x 13), rfl⟩
  · go_enter Try.func75, Try.ntmps75
    go_wp2_with fail
    go_ret
    exact ⟨ret_u64 (rotl_nn x 16), rfl⟩
  · go_enter Try.func75, Try.ntmps75
    go_wp2_with fail
    go_ret
    exact ⟨ret_u64 (rotl_nn x 17), rfl⟩
  · go_enter Try.func75, Try.ntmps75
    go_wp2_with fail
    go_ret
    exact ⟨ret_u64 (rotl_nn x 21), rfl⟩
  · go_enter Try.func75, Try.ntmps75
    go_wp2_with fail
    go_ret
    exact ⟨ret_u64 (rotl_nn x 32), rfl⟩
end Go.Proofs.Ytckkdgifjgkoaaa

/- Bytes as a number, the lowest first. -/
namespace Go.Proofs.Ytckkdgifjgkoaaa.Sp
open Go.RowKit

/-- The number that bytes are, the lowest first. -/
def le : List UInt8 → Nat
  | [] => 0
  | b :: l => b.toNat + 256 * le l
theorem le_lt : ∀ l : List UInt8, le l < 256 ^ l.length
  | [] => by decide
  | b :: l => by
    have h := le_lt l
    have hb := b.toNat_lt
    rw [le, List.length_cons, Nat.pow_succ]; omega
theorem le_snoc : ∀ (l : List UInt8) (b : UInt8), le (l ++ [b]) = le l + b.toNat * 256 ^ l.length
  | [], b => by simp [le]
  | c :: l, b => by
    rw [List.cons_append, le, le_snoc l b, le, List.length_cons, Nat.pow_succ, Nat.mul_add, Nat.add_assoc, Nat.mul_left_comm, Nat.mul_comm 256 (256 ^ l.length)]
theorem pow_256 (k : Nat) : 256 ^ k = 2 ^ (8 * k) := by rw [Nat.pow_mul]
theorem le_lt8 (l : List UInt8) (h : l.length ≤ 8) : le l < 18446744073709551616 := by
  have h1 := le_lt l
  have h2 : 256 ^ l.length ≤ 256 ^ 8 := Nat.pow_le_pow_right (by decide) h
  omega
/-- As a number of 64 bits. -/
def leB (l : List UInt8) : B := BitVec.ofNat 64 (le l)
theorem leB_nn (l : List UInt8) (h : l.length ≤ 8) : nn (leB l) = le l := nn_ofNat _ (le_lt8 l h)
theorem le_zeros : ∀ n : Nat, le (List.replicate n 0) = 0
  | 0 => rfl
  | n + 1 => by rw [List.replicate_succ, le, le_zeros n]; rfl
theorem le_app : ∀ a b : List UInt8, le (a ++ b) = le a + 256 ^ a.length * le b
  | [], b => by simp [le]
  | c :: a, b => by
    rw [List.cons_append, le, le_app a b, le, List.length_cons, Nat.pow_succ, Nat.mul_add, Nat.add_assoc, Nat.mul_comm (256 ^ a.length) 256, Nat.mul_assoc]
/-- A byte more, that is laid over. -/
theorem or_step (l : List UInt8) (b : UInt8) (h : l.length ≤ 7) : bits .or .u64 (nn (leB l)) (IntKind.u64.wrap ((b.toNat : Int) * ((2 ^ (8 * l.length) : Nat) : Int))) = nn (leB (l ++ [b])) := by
  have hb := b.toNat_lt
  have h1 := le_lt l
  rw [leB_nn _ (by omega), leB_nn _ (by simp; omega), le_snoc, pow_256]
  rw [pow_256] at h1
  have h3 : 2 ^ (8 * l.length) ≤ 2 ^ (8 * 7) := Nat.pow_le_pow_right (by decide) (by omega)
  have h4 : b.toNat * 2 ^ (8 * l.length) ≤ 255 * 2 ^ (8 * l.length) := Nat.mul_le_mul_right _ (by omega)
  have h5 : le l < 72057594037927936 := by omega
  have h6 : b.toNat * 2 ^ (8 * l.length) < 18446744073709551616 := by omega
  have e : IntKind.u64.wrap ((b.toNat : Int) * ((2 ^ (8 * l.length) : Nat) : Int)) = ((b.toNat * 2 ^ (8 * l.length) : Nat) : Int) := by
    rw [IntKind.wrap_u64, ← Int.natCast_mul]; omega
  rw [e, u64_or_nat _ _ (by omega) h6]
  congr 1
  rw [Nat.or_comm, nat_join (8 * l.length) _ _ (Nat.mul_mod_left _ _) h1, Nat.add_comm]
theorem take_snoc (s : ByteArray) (k : Nat) (h : k < s.size) : s.data.toList.take (k + 1) = s.data.toList.take k ++ [s[k]] := by
  rw [List.take_succ_eq_append_getElem (by simpa using h)]; rfl
theorem len_eq (s : ByteArray) : s.data.toList.length = s.size := by rw [Array.length_toList]; rfl
theorem num_step (s : ByteArray) (k : Nat) (h : k < s.size) (h7 : k ≤ 7) : bits .or .u64 (nn (leB (s.data.toList.take k))) (IntKind.u64.wrap ((s[k].toNat : Int) * ((2 ^ (8 * k) : Nat) : Int))) = nn (leB (s.data.toList.take (k + 1))) := by
  have hl : (s.data.toList.take k).length = k := by rw [List.length_take, len_eq]; omega
  have := or_step (s.data.toList.take k) s[k] (by omega)
  rw [hl] at this
  rw [this, take_snoc s k h]
theorem byte_nn (b : UInt8) : IntKind.u64.wrap (b.toNat : Int) = b.toNat := by have := b.toNat_lt; rw [IntKind.wrap_u64]; omega
theorem num_step' (s : ByteArray) (k : Nat) (h : k < s.size) (h7 : k ≤ 7) : bits .or .u64 (nn (leB (s.data.toList.take k))) (IntKind.u64.wrap (IntKind.u64.wrap (s[k].toNat : Int) * 2 ^ (8 * k))) = nn (leB (s.data.toList.take (k + 1))) := by
  rw [byte_nn, ← num_step s k h h7, Int.natCast_pow]; rfl
/-- The eight bytes from at on, without the first m, as a number. -/
def wd (s : ByteArray) (at_ m : Nat) : B := leB (((s.data.toList.drop at_).take 8).drop m)
theorem wd_end (s : ByteArray) (at_ : Nat) : wd s at_ 0 = leB ((s.data.toList.drop at_).take 8) := rfl
theorem wd_start (s : ByteArray) (at_ : Nat) : nn (wd s at_ 8) = 0 := by
  unfold wd
  rw [List.drop_of_length_le (by rw [List.length_take]; omega)]; rfl
theorem wd_step (s : ByteArray) (at_ m : Nat) (h : at_ + 8 ≤ s.size) (hm : m < 8) (h' : at_ + m < s.size) : IntKind.u64.wrap (IntKind.u64.wrap (nn (wd s at_ (m + 1)) * 256) + IntKind.u64.wrap ((s[at_ + m]'h').toNat : Int)) = nn (wd s at_ m) := by
  have hl : ((s.data.toList.drop at_).take 8).length = 8 := by rw [List.length_take, List.length_drop, len_eq]; omega
  have hd : ((s.data.toList.drop at_).take 8).drop m = s[at_ + m]'h' :: ((s.data.toList.drop at_).take 8).drop (m + 1) := by
    rw [List.drop_eq_getElem_cons (by omega)]
    congr 1
    rw [List.getElem_take, List.getElem_drop]; rfl
  have hx : (((s.data.toList.drop at_).take 8).drop (m + 1)).length ≤ 7 := by rw [List.length_drop]; omega
  have h1 := le_lt (((s.data.toList.drop at_).take 8).drop (m + 1))
  have h2 : 256 ^ (((s.data.toList.drop at_).take 8).drop (m + 1)).length ≤ 256 ^ 7 := Nat.pow_le_pow_right (by decide) hx
  have hb := (s[at_ + m]'h').toNat_lt
  unfold wd
  rw [leB_nn _ (by rw [List.length_drop]; omega), leB_nn _ (by rw [List.length_drop]; omega), hd, le, byte_nn, IntKind.wrap_u64, IntKind.wrap_u64]
  omega
theorem wd_lt (s : ByteArray) (at_ m : Nat) (h : 1 ≤ m) : nn (wd s at_ m) < 72057594037927936 := by
  have hl : (((s.data.toList.drop at_).take 8).drop m).length ≤ 7 := by rw [List.length_drop, List.length_take]; omega
  have h1 := le_lt (((s.data.toList.drop at_).take 8).drop m)
  have h2 : 256 ^ (((s.data.toList.drop at_).take 8).drop m).length ≤ 256 ^ 7 := Nat.pow_le_pow_right (by decide) hl
  unfold wd
  rw [leB_nn _ (by omega)]
  omega
end Go.Proofs.Ytckkdgifjgkoaaa.Sp

/- number and word: bytes as numbers. -/
namespace Go.Proofs.Ytckkdgifjgkoaaa
open Go.ChangeShapes Go.WideShapes Go.ChangeAt Go.RowKit Sp

theorem int_u64 {a b : Int} (h : a = b) : Value.int .u64 a = .int .u64 b := by rw [h]
set_option maxHeartbeats 400000 in
theorem number_any (s : ByteArray) (w : World) (hs : s.size ≤ 8) :
    Calls Try.prog 39 #[.string s] w fun e w' => e = .returned (.int .u64 (nn (leB s.data.toList))) ∧ w' = w := by
  go_enter Try.func39, Try.ntmps39
  go_wp2
  go_loop [3, 7] (fun n i => ∃ k : Nat, k ≤ s.size ∧ i = .int .i64 k ∧ n = .int .u64 (nn (leB (s.data.toList.take k)))) (fun _ i => s.size - (intOf i).toNat)
  case atStart => exact ⟨0, Nat.zero_le _, rfl, rfl⟩
  case round =>
    obtain ⟨k, hk, rfl, rfl⟩ := hrel
    by_cases hlt : k < s.size
    · have HS := hide (num_step' s k hlt (by omega))
      generalize hX : leB (s.data.toList.take k) = X at *
      clear hX
      go_wp2_with fail
      go_round
      case rel => exact ⟨k + 1, by omega, by go_num, int_u64 (unhide HS)⟩
      case measure => simp [intOf]; omega
    · have HE : Hid (leB (s.data.toList.take k) = leB s.data.toList) := by show _ = _; rw [List.take_of_length_le (by rw [len_eq]; omega)]
      have hd : decide ((k : Int) < s.size) = false := by simp; omega
      go_wp2_with fail
      go_ret
      exact ⟨ret_u64 (by rw [HE.out]), rfl⟩

set_option maxHeartbeats 400000 in
theorem word_any (s : ByteArray) (a : Nat) (w : World) (hs : s.size ≤ maxLen) (ha : a + 8 ≤ s.size) :
    Calls Try.prog 63 #[.string s, .int .i64 a] w fun e w' => e = .returned (.int .u64 (nn (wd s a 0))) ∧ w' = w := by
  unfold maxLen at hs
  go_enter Try.func63, Try.ntmps63
  go_wp2
  go_loop [5, 6] (fun n i => ∃ m : Nat, m ≤ 8 ∧ i = .int .i64 ((m : Int) - 1) ∧ n = .int .u64 (nn (wd s a m))) (fun _ i => (intOf i + 1).toNat)
  case atStart => exact ⟨8, by omega, rfl, int_u64 (wd_start s a).symm⟩
  case round =>
    obtain ⟨m, hm, rfl, rfl⟩ := hrel
    rcases m with _ | m
    · go_wp2_with fail
      go_ret
      exact ⟨rfl, rfl⟩
    · have hlt : a + m < s.size := by omega
      have HS := hide (wd_step s a m ha (by omega) hlt)
      generalize hX : wd s a (m + 1) = X at *
      clear hX
      go_wp2_with fail
      go_round
      case rel => exact ⟨m, by omega, rfl, int_u64 (unhide HS)⟩
      case measure => simp [intOf]
end Go.Proofs.Ytckkdgifjgkoaaa

/- The four numbers: stir. -/
namespace Go.Proofs.Ytckkdgifjgkoaaa
open Go.ChangeShapes Go.WideShapes Go.ChangeAt Go.RowKit Sp

/-- Numbers as cells. -/
def cel (xs : List Sp.B) : List Value := xs.map fun x => .int .u64 (nn x)
theorem cel_get {xs : List Sp.B} {i : Nat} {x : Sp.B} (h : xs[i]? = some x) : (cel xs)[i]? = some (.int .u64 (nn x)) := by unfold cel; rw [List.getElem?_map, h]; rfl
theorem cel_set (xs : List Sp.B) (i : Nat) (x : Sp.B) : (cel xs).set i (.int .u64 (nn x)) = cel (xs.set i x) := by unfold cel; rw [List.map_set]
theorem lt_of_get {xs : List Sp.B} {i : Nat} {x : Sp.B} (h : xs[i]? = some x) : i < xs.length := (List.getElem?_eq_some_iff.1 h).1

set_option maxHeartbeats 1000000 in
theorem stir_any (p a b : Nat) (c : Int) (k : Nat) (xs : List Sp.B) (x y : Sp.B) (w : World) (hr : Row w p (cel xs)) (hx : xs[a]? = some x) (hy : xs[b]? = some y) (hab : a ≠ b) (ha : a < 4) (hb : b < 4) (hT : Turn c k) :
    Calls Try.prog 73 #[.pointer (some ⟨p, 0, none⟩), .int .i64 a, .int .i64 b, .int .i64 c] w fun e w' =>
      e = .returned (.tuple #[]) ∧ Row w' p (cel ((xs.set a (x + y)).set b (rotl y k ^^^ (x + y)))) ∧ But [p] w w' := by
  have hs := wrap_add x y
  generalize hz : x + y = z at *
  clear hz
  have hq := xor_nn (rotl y k) z
  generalize rotl y k ^^^ z = q at *
  have na : ¬ (4 : Int) ≤ (a : Int) := by omega
  have nb : ¬ (4 : Int) ≤ (b : Int) := by omega
  have hlt := hr.lt
  have h0 : Row w.drew p (cel xs) := hr
  have hB0 : But [p] w w.drew := (But.of (Below.refl _ w)).drew
  clear hr
  go_enter Try.func73, Try.ntmps73
  go_wp2_with fail
  refine wp_region_grow_store (by kernel_rfl) [.pointer (some ⟨p, 0, none⟩), .int .i64 a, .pointer (some ⟨p, 0, none⟩), .pointer (some ⟨p, a, none⟩), .int .u64 (nn x), .pointer (some ⟨p, 0, none⟩), .int .i64 b, .pointer (some ⟨p, 0, none⟩), .pointer (some ⟨p, b, none⟩), .int .u64 (nn y), .int .u64 (nn z), .pointer (some ⟨p, 0, none⟩), .pointer (some ⟨p, a, none⟩), undef] 13 (fun v => v.setCell ⟨p, a, none⟩ (.int .u64 (nn z))) (by kernel_rfl) (by decide) rfl ?op ?store ?fin
  case op =>
    intro i o bx u ho hne hbel hS
    match i, ho with
    | 0, ho =>
      obtain rfl := Option.some.inj ho
      have d0 : bx.tmps.getD 0 undef = .pointer (some ⟨p, 0, none⟩) := hS.base 0 (by kernel_rfl)
      refine .inl ⟨rfl, ends_value (c := .pointer (some ⟨p, 0, none⟩)) ?_⟩
      simp [execOp, Act.eval, d0]
    | 1, ho =>
      obtain rfl := Option.some.inj ho
      have d1 : bx.tmps.getD 1 undef = .int .i64 a := hS.base 1 (by kernel_rfl)
      refine .inl ⟨rfl, ends_value (c := .int .i64 a) ?_⟩
      simp [execOp, Act.eval, d1]
    | 2, ho =>
      obtain rfl := Option.some.inj ho
      have d8 : bx.tmps.getD 8 undef = .pointer (some ⟨p, 0, none⟩) := hS.dep 0 8 (by kernel_rfl) (by kernel_rfl)
      refine .inl ⟨rfl, ends_value (c := .pointer (some ⟨p, 0, none⟩)) ?_⟩
      simp [execOp, Act.eval, d8]
    | 3, ho =>
      obtain rfl := Option.some.inj ho
      have d10 : bx.tmps.getD 10 undef = .pointer (some ⟨p, 0, none⟩) := hS.dep 2 10 (by kernel_rfl) (by kernel_rfl)
      have d9 : bx.tmps.getD 9 undef = .int .i64 a := hS.dep 1 9 (by kernel_rfl) (by kernel_rfl)
      refine .inl ⟨rfl, ends_value (c := .pointer (some ⟨p, a, none⟩)) ?_⟩
      simp [Act.eval, d10, d9, go_sem, na]
    | 4, ho =>
      obtain rfl := Option.some.inj ho
      have d11 : bx.tmps.getD 11 undef = .pointer (some ⟨p, a, none⟩) := hS.dep 3 11 (by kernel_rfl) (by kernel_rfl)
      have hl := (h0.on (hbel (by kernel_rfl)) hlt).cell a _ (cel_get hx)
      refine .inl ⟨rfl, ends_value (c := .int .u64 (nn x)) ?_⟩
      simp [Act.eval, d11, go_sem, hl]
    | 5, ho =>
      obtain rfl := Option.some.inj ho
      have d0 : bx.tmps.getD 0 undef = .pointer (some ⟨p, 0, none⟩) := hS.base 0 (by kernel_rfl)
      refine .inl ⟨rfl, ends_value (c := .pointer (some ⟨p, 0, none⟩)) ?_⟩
      simp [execOp, Act.eval, d0]
    | 6, ho =>
      obtain rfl := Option.some.inj ho
      have d2 : bx.tmps.getD 2 undef = .int .i64 b := hS.base 2 (by kernel_rfl)
      refine .inl ⟨rfl, ends_value (c := .int .i64 b) ?_⟩
      simp [execOp, Act.eval, d2]
    | 7, ho =>
      obtain rfl := Option.some.inj ho
      have d13 : bx.tmps.getD 13 undef = .pointer (some ⟨p, 0, none⟩) := hS.dep 5 13 (by kernel_rfl) (by kernel_rfl)
      refine .inl ⟨rfl, ends_value (c := .pointer (some ⟨p, 0, none⟩)) ?_⟩
      simp [execOp, Act.eval, d13]
    | 8, ho =>
      obtain rfl := Option.some.inj ho
      have d15 : bx.tmps.getD 15 undef = .pointer (some ⟨p, 0, none⟩) := hS.dep 7 15 (by kernel_rfl) (by kernel_rfl)
      have d14 : bx.tmps.getD 14 undef = .int .i64 b := hS.dep 6 14 (by kernel_rfl) (by kernel_rfl)
      refine .inl ⟨rfl, ends_value (c := .pointer (some ⟨p, b, none⟩)) ?_⟩
      simp [Act.eval, d15, d14, go_sem, nb]
    | 9, ho =>
      obtain rfl := Option.some.inj ho
      have d16 : bx.tmps.getD 16 undef = .pointer (some ⟨p, b, none⟩) := hS.dep 8 16 (by kernel_rfl) (by kernel_rfl)
      have hl := (h0.on (hbel (by kernel_rfl)) hlt).cell b _ (cel_get hy)
      refine .inl ⟨rfl, ends_value (c := .int .u64 (nn y)) ?_⟩
      simp [Act.eval, d16, go_sem, hl]
    | 10, ho =>
      obtain rfl := Option.some.inj ho
      have d12 : bx.tmps.getD 12 undef = .int .u64 (nn x) := hS.dep 4 12 (by kernel_rfl) (by kernel_rfl)
      have d17 : bx.tmps.getD 17 undef = .int .u64 (nn y) := hS.dep 9 17 (by kernel_rfl) (by kernel_rfl)
      refine .inl ⟨rfl, ends_value (c := .int .u64 (nn z)) ?_⟩
      simp [Act.eval, d12, d17, go_sem, hs]
    | 11, ho =>
      obtain rfl := Option.some.inj ho
      have d8 : bx.tmps.getD 8 undef = .pointer (some ⟨p, 0, none⟩) := hS.dep 0 8 (by kernel_rfl) (by kernel_rfl)
      refine .inl ⟨rfl, ends_value (c := .pointer (some ⟨p, 0, none⟩)) ?_⟩
      simp [execOp, Act.eval, d8]
    | 12, ho =>
      obtain rfl := Option.some.inj ho
      have d19 : bx.tmps.getD 19 undef = .pointer (some ⟨p, 0, none⟩) := hS.dep 11 19 (by kernel_rfl) (by kernel_rfl)
      have d9 : bx.tmps.getD 9 undef = .int .i64 a := hS.dep 1 9 (by kernel_rfl) (by kernel_rfl)
      refine .inl ⟨rfl, ends_value (c := .pointer (some ⟨p, a, none⟩)) ?_⟩
      simp [Act.eval, d19, d9, go_sem, na]
    | 13, _ => exact absurd rfl hne
    | n + 14, ho => exact absurd ho (by simp)
  case store =>
    intro o bx u ho hbel hS
    obtain rfl := Option.some.inj ho
    have d20 : bx.tmps.getD 20 undef = .pointer (some ⟨p, a, none⟩) := hS.dep 12 20 (by kernel_rfl) (by kernel_rfl)
    have d18 : bx.tmps.getD 18 undef = .int .u64 (nn z) := hS.dep 10 18 (by kernel_rfl) (by kernel_rfl)
    have c1 := (h0.on hbel hlt).cell a _ (cel_get hx)
    have c2 := (h0.on hbel hlt).free a
    refine ⟨rfl, ?_⟩
    simp [Act.eval, d20, d18, go_sem, c1, c2]
  case fin =>
    intro u hbel
    simp [putAll, dstAt, Act.put]
    have h1 : Row (u.setCell ⟨p, a, none⟩ (.int .u64 (nn z))) p (cel (xs.set a z)) := by rw [← cel_set]; exact (h0.on hbel hlt).set a _
    have hB1 : But [p] w (u.setCell ⟨p, a, none⟩ (.int .u64 (nn z))) := (hB0.on hbel).setCell (List.mem_singleton.2 rfl) a _
    generalize u.setCell ⟨p, a, none⟩ (.int .u64 (nn z)) = V at *
    have xa : (xs.set a z)[a]? = some z := by rw [List.getElem?_set_self (lt_of_get hx)]
    have xb : (xs.set a z)[b]? = some y := by rw [List.getElem?_set_ne hab]; exact hy
    have hlt1 := h1.lt
    have h1 : Row V.drew p (cel (xs.set a z)) := h1
    have hB1 := hB1.drew
    clear h0 hB0 hbel hs hlt hx hy
    go_wp2_with fail
    refine wp_region_grow_store (by kernel_rfl) [.pointer (some ⟨p, 0, none⟩), .int .i64 b, .pointer (some ⟨p, 0, none⟩), .int .i64 b, .pointer (some ⟨p, 0, none⟩), .pointer (some ⟨p, b, none⟩), .int .u64 (nn y), .int .i64 c, .int .u64 (nn (rotl y k)), .pointer (some ⟨p, 0, none⟩), .int .i64 a, .pointer (some ⟨p, 0, none⟩), .pointer (some ⟨p, a, none⟩), .int .u64 (nn z), .int .u64 (nn q), .pointer (some ⟨p, 0, none⟩), .pointer (some ⟨p, b, none⟩), undef] 17 (fun v => v.setCell ⟨p, b, none⟩ (.int .u64 (nn q))) (by kernel_rfl) (by decide) rfl ?op ?store ?fin
    case op =>
      intro i o bx u ho hne hbel hS
      match i, ho with
      | 0, ho =>
        obtain rfl := Option.some.inj ho
        have d0 : bx.tmps.getD 0 undef = .pointer (some ⟨p, 0, none⟩) := hS.base 0 (by kernel_rfl)
        refine .inl ⟨rfl, ends_value (c := .pointer (some ⟨p, 0, none⟩)) ?_⟩
        simp [execOp, Act.eval, d0]
      | 1, ho =>
        obtain rfl := Option.some.inj ho
        have d2 : bx.tmps.getD 2 undef = .int .i64 b := hS.base 2 (by kernel_rfl)
        refine .inl ⟨rfl, ends_value (c := .int .i64 b) ?_⟩
        simp [execOp, Act.eval, d2]
      | 2, ho =>
        obtain rfl := Option.some.inj ho
        have d0 : bx.tmps.getD 0 undef = .pointer (some ⟨p, 0, none⟩) := hS.base 0 (by kernel_rfl)
        refine .inl ⟨rfl, ends_value (c := .pointer (some ⟨p, 0, none⟩)) ?_⟩
        simp [execOp, Act.eval, d0]
      | 3, ho =>
        obtain rfl := Option.some.inj ho
        have d2 : bx.tmps.getD 2 undef = .int .i64 b := hS.base 2 (by kernel_rfl)
        refine .inl ⟨rfl, ends_value (c := .int .i64 b) ?_⟩
        simp [execOp, Act.eval, d2]
      | 4, ho =>
        obtain rfl := Option.some.inj ho
        have d23 : bx.tmps.getD 23 undef = .pointer (some ⟨p, 0, none⟩) := hS.dep 2 23 (by kernel_rfl) (by kernel_rfl)
        refine .inl ⟨rfl, ends_value (c := .pointer (some ⟨p, 0, none⟩)) ?_⟩
        simp [execOp, Act.eval, d23]
      | 5, ho =>
        obtain rfl := Option.some.inj ho
        have d25 : bx.tmps.getD 25 undef = .pointer (some ⟨p, 0, none⟩) := hS.dep 4 25 (by kernel_rfl) (by kernel_rfl)
        have d24 : bx.tmps.getD 24 undef = .int .i64 b := hS.dep 3 24 (by kernel_rfl) (by kernel_rfl)
        refine .inl ⟨rfl, ends_value (c := .pointer (some ⟨p, b, none⟩)) ?_⟩
        simp [Act.eval, d25, d24, go_sem, nb]
      | 6, ho =>
        obtain rfl := Option.some.inj ho
        have d26 : bx.tmps.getD 26 undef = .pointer (some ⟨p, b, none⟩) := hS.dep 5 26 (by kernel_rfl) (by kernel_rfl)
        have hl := (h1.on (hbel (by kernel_rfl)) hlt1).cell b _ (cel_get xb)
        refine .inl ⟨rfl, ends_value (c := .int .u64 (nn y)) ?_⟩
        simp [Act.eval, d26, go_sem, hl]
      | 7, ho =>
        obtain rfl := Option.some.inj ho
        have d3 : bx.tmps.getD 3 undef = .int .i64 c := hS.base 3 (by kernel_rfl)
        refine .inl ⟨rfl, ends_value (c := .int .i64 c) ?_⟩
        simp [execOp, Act.eval, d3]
      | 8, ho =>
        obtain rfl := Option.some.inj ho
        have d27 : bx.tmps.getD 27 undef = .int .u64 (nn y) := hS.dep 6 27 (by kernel_rfl) (by kernel_rfl)
        have d28 : bx.tmps.getD 28 undef = .int .i64 c := hS.dep 7 28 (by kernel_rfl) (by kernel_rfl)
        refine .inl ⟨rfl, ends_call (c := .int .u64 (nn (rotl y k))) (by kernel_rfl) (f := 74) (args := #[.int .u64 (nn y), .int .i64 c]) ?_ ((rot_any y c k hT u).mono fun e u' ⟨he, hw⟩ => ⟨he, by rw [hw]; exact Below.refl _ _⟩)⟩
        simp [Act.eval, d27, d28, go_sem]
      | 9, ho =>
        obtain rfl := Option.some.inj ho
        have d0 : bx.tmps.getD 0 undef = .pointer (some ⟨p, 0, none⟩) := hS.base 0 (by kernel_rfl)
        refine .inl ⟨rfl, ends_value (c := .pointer (some ⟨p, 0, none⟩)) ?_⟩
        simp [execOp, Act.eval, d0]
      | 10, ho =>
        obtain rfl := Option.some.inj ho
        have d1 : bx.tmps.getD 1 undef = .int .i64 a := hS.base 1 (by kernel_rfl)
        refine .inl ⟨rfl, ends_value (c := .int .i64 a) ?_⟩
        simp [execOp, Act.eval, d1]
      | 11, ho =>
        obtain rfl := Option.some.inj ho
        have d30 : bx.tmps.getD 30 undef = .pointer (some ⟨p, 0, none⟩) := hS.dep 9 30 (by kernel_rfl) (by kernel_rfl)
        refine .inl ⟨rfl, ends_value (c := .pointer (some ⟨p, 0, none⟩)) ?_⟩
        simp [execOp, Act.eval, d30]
      | 12, ho =>
        obtain rfl := Option.some.inj ho
        have d32 : bx.tmps.getD 32 undef = .pointer (some ⟨p, 0, none⟩) := hS.dep 11 32 (by kernel_rfl) (by kernel_rfl)
        have d31 : bx.tmps.getD 31 undef = .int .i64 a := hS.dep 10 31 (by kernel_rfl) (by kernel_rfl)
        refine .inl ⟨rfl, ends_value (c := .pointer (some ⟨p, a, none⟩)) ?_⟩
        simp [Act.eval, d32, d31, go_sem, na]
      | 13, ho =>
        obtain rfl := Option.some.inj ho
        have d33 : bx.tmps.getD 33 undef = .pointer (some ⟨p, a, none⟩) := hS.dep 12 33 (by kernel_rfl) (by kernel_rfl)
        have hl := (h1.on (hbel (by kernel_rfl)) hlt1).cell a _ (cel_get xa)
        refine .inl ⟨rfl, ends_value (c := .int .u64 (nn z)) ?_⟩
        simp [Act.eval, d33, go_sem, hl]
      | 14, ho =>
        obtain rfl := Option.some.inj ho
        have d29 : bx.tmps.getD 29 undef = .int .u64 (nn (rotl y k)) := hS.dep 8 29 (by kernel_rfl) (by kernel_rfl)
        have d34 : bx.tmps.getD 34 undef = .int .u64 (nn z) := hS.dep 13 34 (by kernel_rfl) (by kernel_rfl)
        refine .inl ⟨rfl, ends_value (c := .int .u64 (nn q)) ?_⟩
        simp [Act.eval, d29, d34, go_sem, hq]
      | 15, ho =>
        obtain rfl := Option.some.inj ho
        have d21 : bx.tmps.getD 21 undef = .pointer (some ⟨p, 0, none⟩) := hS.dep 0 21 (by kernel_rfl) (by kernel_rfl)
        refine .inl ⟨rfl, ends_value (c := .pointer (some ⟨p, 0, none⟩)) ?_⟩
        simp [execOp, Act.eval, d21]
      | 16, ho =>
        obtain rfl := Option.some.inj ho
        have d36 : bx.tmps.getD 36 undef = .pointer (some ⟨p, 0, none⟩) := hS.dep 15 36 (by kernel_rfl) (by kernel_rfl)
        have d22 : bx.tmps.getD 22 undef = .int .i64 b := hS.dep 1 22 (by kernel_rfl) (by kernel_rfl)
        refine .inl ⟨rfl, ends_value (c := .pointer (some ⟨p, b, none⟩)) ?_⟩
        simp [Act.eval, d36, d22, go_sem, nb]
      | 17, _ => exact absurd rfl hne
      | n + 18, ho => exact absurd ho (by simp)
    case store =>
      intro o bx u ho hbel hS
      obtain rfl := Option.some.inj ho
      have d37 : bx.tmps.getD 37 undef = .pointer (some ⟨p, b, none⟩) := hS.dep 16 37 (by kernel_rfl) (by kernel_rfl)
      have d35 : bx.tmps.getD 35 undef = .int .u64 (nn q) := hS.dep 14 35 (by kernel_rfl) (by kernel_rfl)
      have c1 := (h1.on hbel hlt1).cell b _ (cel_get xb)
      have c2 := (h1.on hbel hlt1).free b
      refine ⟨rfl, ?_⟩
      simp [Act.eval, d37, d35, go_sem, c1, c2]
    case fin =>
      intro u hbel
      simp [putAll, dstAt, Act.put]
      go_end0
      exact ⟨rfl, by rw [← cel_set]; exact (h1.on hbel hlt1).set b _, (hB1.on hbel).setCell (List.mem_singleton.2 rfl) b _⟩
end Go.Proofs.Ytckkdgifjgkoaaa

/- The four numbers, a round, a text's sum: nothing of the program is in here. -/
namespace Go.Proofs.Ytckkdgifjgkoaaa.Sp
open Go.RowKit

structure St where
  a : B
  b : B
  c : B
  d : B
deriving DecidableEq
def St.l (s : St) : List B := [s.a, s.b, s.c, s.d]
/-- A round. -/
def rnd (s : St) : St :=
  ⟨rotl (s.a + s.b) 32 + (rotl s.d 16 ^^^ (s.c + s.d)),
   rotl (rotl s.b 13 ^^^ (s.a + s.b)) 17 ^^^ (s.c + s.d + (rotl s.b 13 ^^^ (s.a + s.b))),
   rotl (s.c + s.d + (rotl s.b 13 ^^^ (s.a + s.b))) 32,
   rotl (rotl s.d 16 ^^^ (s.c + s.d)) 21 ^^^ (rotl (s.a + s.b) 32 + (rotl s.d 16 ^^^ (s.c + s.d)))⟩
def rndN : Nat → St → St
  | 0, s => s
  | n + 1, s => rnd (rndN n s)
/-- A word is stirred in. -/
def inB (s : St) (m : B) : St := { s with d := s.d ^^^ m }
def inA (s : St) (m : B) : St := { s with a := s.a ^^^ m }
def inW (s : St) (m : B) : St := inA (rndN 2 (inB s m)) m
def runW (f : Nat → B) : Nat → St → St
  | 0, s => s
  | n + 1, s => inW (runW f n s) (f n)
def beg (k l : B) : St := ⟨0x736f6d6570736575#64 ^^^ k, 0x646f72616e646f6d#64 ^^^ l, 0x6c7967656e657261#64 ^^^ k, 0x7465646279746573#64 ^^^ l⟩
def fin (s : St) : B :=
  let t := rndN 4 { s with c := s.c ^^^ 255#64 }
  t.a ^^^ t.b ^^^ t.c ^^^ t.d
/-- The word of what is left, and of how many bytes there are. -/
def lastW (s : ByteArray) : B := leB (s.data.toList.drop (s.size - s.size % 8)) ||| BitVec.ofNat 64 (s.size % 256) <<< 56
def hash (key s : ByteArray) : B := fin (inW (runW (fun k => wd s (8 * k) 0) (s.size / 8) (beg (wd key 0 0) (wd key 8 0))) (lastW s))
def hashV (key s : ByteArray) : B := if key.size = 16 then hash key s else 0#64
end Go.Proofs.Ytckkdgifjgkoaaa.Sp

/- rounds. -/
namespace Go.Proofs.Ytckkdgifjgkoaaa
open Go.ChangeShapes Go.WideShapes Go.ChangeAt Go.RowKit Sp

theorem row_drew {W : World} {b : Nat} {l : List Value} (h : Row W b l) : Row W.drew b l := h
set_option maxRecDepth 100000 in
set_option maxHeartbeats 2000000 in
theorem rounds_any (p n : Nat) (s0 : St) (w : World) (hn : n ≤ 100) (hr : Row w p (cel s0.l)) :
    Calls Try.prog 59 #[.pointer (some ⟨p, 0, none⟩), .int .i64 n] w fun e w' => e = .returned (.tuple #[]) ∧ Row w' p (cel (rndN n s0).l) ∧ But [p] w w' := by
  have HR0 := hide hr
  clear hr
  go_enter Try.func59, Try.ntmps59
  go_wp2_with fail
  go_loopw [5] (fun t w' => ∃ i : Nat, i ≤ n ∧ t = .int .i64 i ∧ Row w' p (cel (rndN i s0).l) ∧ But [p] w w') (fun t _ => n - (intOf t).toNat)
  case atStart => exact ⟨0, Nat.zero_le _, rfl, unhide HR0, But.of (Below.refl _ _)⟩
  case round =>
    obtain ⟨i, hi, rfl, hr, hb⟩ := hrel
    have HR := hide hr
    have HB := hide hb
    clear hr hb HR0
    by_cases hlt : i < n
    · have hd : (i : Int) < n := by omega
      obtain ⟨s, hs⟩ : ∃ s, s = rndN i s0 := ⟨_, rfl⟩
      rw [← hs] at HR
      obtain ⟨a1, Ea1⟩ : ∃ x, Hid (x = s.a + s.b) := ⟨_, rfl⟩
      obtain ⟨b1, Eb1⟩ : ∃ x, Hid (x = rotl s.b 13 ^^^ a1) := ⟨_, rfl⟩
      obtain ⟨a2, Ea2⟩ : ∃ x, Hid (x = rotl a1 32) := ⟨_, rfl⟩
      obtain ⟨c1, Ec1⟩ : ∃ x, Hid (x = s.c + s.d) := ⟨_, rfl⟩
      obtain ⟨d1, Ed1⟩ : ∃ x, Hid (x = rotl s.d 16 ^^^ c1) := ⟨_, rfl⟩
      obtain ⟨a3, Ea3⟩ : ∃ x, Hid (x = a2 + d1) := ⟨_, rfl⟩
      obtain ⟨d2, Ed2⟩ : ∃ x, Hid (x = rotl d1 21 ^^^ a3) := ⟨_, rfl⟩
      obtain ⟨c2, Ec2⟩ : ∃ x, Hid (x = c1 + b1) := ⟨_, rfl⟩
      obtain ⟨b2, Eb2⟩ : ∃ x, Hid (x = rotl b1 17 ^^^ c2) := ⟨_, rfl⟩
      obtain ⟨c3, Ec3⟩ : ∃ x, Hid (x = rotl c2 32) := ⟨_, rfl⟩
      have HN : Hid (rnd s = ⟨a3, b2, c3, d2⟩) := by show _ = _; rw [unhide Ec3, unhide Eb2, unhide Ec2, unhide Ed2, unhide Ea3, unhide Ed1, unhide Ec1, unhide Ea2, unhide Eb1, unhide Ea1]; rfl
      go_wp2_with fail
      refine (stir_any p 0 1 13 13 [s.a, s.b, s.c, s.d] s.a s.b _ (unhide HR) rfl rfl (by decide) (by decide) (by decide) (by simp [Turn])).mono ?_
      rintro e1 w2 ⟨rfl, hr1, hb1⟩
      have hr2 : Row w2 p (cel [a1, b1, s.c, s.d]) := by rw [unhide Eb1, unhide Ea1]; exact hr1
      have HR := hide hr2
      have HB := hide ((unhide HB).trans hb1)
      clear hr1 hr2 hb1
      go_wp2_with fail
      have hlt := (unhide HR).lt
      have h0 : Row _ p (cel [a1, b1, s.c, s.d]) := (unhide HR)
      have hB0 := (unhide HB).drew
      have hq := unhide Ea2
      have h0 := row_drew h0
      clear HR HB
      refine wp_region_grow_store (by kernel_rfl) [.pointer (some ⟨p, 0, none⟩), .pointer (some ⟨p, 0, none⟩), .pointer (some ⟨p, 0, none⟩), .pointer (some ⟨p, 0, none⟩), .int .u64 (nn a1), .int .u64 (nn a2), .pointer (some ⟨p, 0, none⟩), .pointer (some ⟨p, 0, none⟩), undef] 8 (fun v => v.setCell ⟨p, 0, none⟩ (.int .u64 (nn a2))) (by kernel_rfl) (by decide) rfl ?op ?store ?fin
      case op =>
        intro i o bx u ho hne hbel hS
        match i, ho with
        | 0, ho =>
          obtain rfl := Option.some.inj ho
          have d0 : bx.tmps.getD 0 undef = .pointer (some ⟨p, 0, none⟩) := hS.base 0 (by kernel_rfl)
          refine .inl ⟨rfl, ends_value (c := .pointer (some ⟨p, 0, none⟩)) ?_⟩
          simp [execOp, Act.eval, d0]
        | 1, ho =>
          obtain rfl := Option.some.inj ho
          have d0 : bx.tmps.getD 0 undef = .pointer (some ⟨p, 0, none⟩) := hS.base 0 (by kernel_rfl)
          refine .inl ⟨rfl, ends_value (c := .pointer (some ⟨p, 0, none⟩)) ?_⟩
          simp [execOp, Act.eval, d0]
        | 2, ho =>
          obtain rfl := Option.some.inj ho
          have d10 : bx.tmps.getD 10 undef = .pointer (some ⟨p, 0, none⟩) := hS.dep 1 10 (by kernel_rfl) (by kernel_rfl)
          refine .inl ⟨rfl, ends_value (c := .pointer (some ⟨p, 0, none⟩)) ?_⟩
          simp [execOp, Act.eval, d10]
        | 3, ho =>
          obtain rfl := Option.some.inj ho
          have d11 : bx.tmps.getD 11 undef = .pointer (some ⟨p, 0, none⟩) := hS.dep 2 11 (by kernel_rfl) (by kernel_rfl)
          refine .inl ⟨rfl, ends_value (c := .pointer (some ⟨p, 0, none⟩)) ?_⟩
          simp [Act.eval, d11, go_sem]
        | 4, ho =>
          obtain rfl := Option.some.inj ho
          have d12 : bx.tmps.getD 12 undef = .pointer (some ⟨p, 0, none⟩) := hS.dep 3 12 (by kernel_rfl) (by kernel_rfl)
          have hl := (h0.on (hbel (by kernel_rfl)) hlt).cell 0 _ (cel_get (xs := [a1, b1, s.c, s.d]) (x := a1) rfl)
          refine .inl ⟨rfl, ends_value (c := .int .u64 (nn a1)) ?_⟩
          simp [Act.eval, d12, go_sem, hl]
        | 5, ho =>
          obtain rfl := Option.some.inj ho
          have d13 : bx.tmps.getD 13 undef = .int .u64 (nn a1) := hS.dep 4 13 (by kernel_rfl) (by kernel_rfl)
          refine .inl ⟨rfl, ends_call (c := .int .u64 (nn a2)) (by kernel_rfl) (f := 74) (args := #[.int .u64 (nn a1), .int .i64 32]) ?_ ((rot_any a1 32 32 (by simp [Turn]) u).mono fun e u' ⟨he, hw⟩ => ⟨he.trans (by rw [hq]), by rw [hw]; exact Below.refl _ _⟩)⟩
          simp [Act.eval, d13, go_sem]
        | 6, ho =>
          obtain rfl := Option.some.inj ho
          have d9 : bx.tmps.getD 9 undef = .pointer (some ⟨p, 0, none⟩) := hS.dep 0 9 (by kernel_rfl) (by kernel_rfl)
          refine .inl ⟨rfl, ends_value (c := .pointer (some ⟨p, 0, none⟩)) ?_⟩
          simp [execOp, Act.eval, d9]
        | 7, ho =>
          obtain rfl := Option.some.inj ho
          have d15 : bx.tmps.getD 15 undef = .pointer (some ⟨p, 0, none⟩) := hS.dep 6 15 (by kernel_rfl) (by kernel_rfl)
          refine .inl ⟨rfl, ends_value (c := .pointer (some ⟨p, 0, none⟩)) ?_⟩
          simp [Act.eval, d15, go_sem]
        | 8, _ => exact absurd rfl hne
        | n + 9, ho => exact absurd ho (by simp)
      case store =>
        intro o bx u ho hbel hS
        obtain rfl := Option.some.inj ho
        have d16 : bx.tmps.getD 16 undef = .pointer (some ⟨p, 0, none⟩) := hS.dep 7 16 (by kernel_rfl) (by kernel_rfl)
        have d14 : bx.tmps.getD 14 undef = .int .u64 (nn a2) := hS.dep 5 14 (by kernel_rfl) (by kernel_rfl)
        have c1 := (h0.on hbel hlt).cell 0 _ (cel_get (xs := [a1, b1, s.c, s.d]) (x := a1) rfl)
        have c2 := (h0.on hbel hlt).free 0
        refine ⟨rfl, ?_⟩
        simp [Act.eval, d16, d14, go_sem, c1, c2]
      case fin =>
        intro u hbel
        simp [putAll, dstAt, Act.put]
        have hr1 : Row (u.setCell ⟨p, 0, none⟩ (.int .u64 (nn a2))) p (cel [a2, b1, s.c, s.d]) := by
          have := (h0.on hbel hlt).set 0 (.int .u64 (nn a2))
          rw [cel_set] at this
          exact this
        have hb1 : But [p] w (u.setCell ⟨p, 0, none⟩ (.int .u64 (nn a2))) := (hB0.on hbel).setCell (List.mem_singleton.2 rfl) 0 _
        generalize u.setCell ⟨p, 0, none⟩ (.int .u64 (nn a2)) = w2 at *
        have HR := hide hr1
        have HB := hide hb1
        clear hr1 hb1 hbel hlt h0 hB0 u
        go_wp2_with fail
        refine (stir_any p 2 3 16 16 [a2, b1, s.c, s.d] s.c s.d _ (unhide HR) rfl rfl (by decide) (by decide) (by decide) (by simp [Turn])).mono ?_
        rintro e1 w2 ⟨rfl, hr1, hb1⟩
        have hr2 : Row w2 p (cel [a2, b1, c1, d1]) := by rw [unhide Ed1, unhide Ec1]; exact hr1
        have HR := hide hr2
        have HB := hide ((unhide HB).trans hb1)
        clear hr1 hr2 hb1
        go_wp2_with fail
        refine (stir_any p 0 3 21 21 [a2, b1, c1, d1] a2 d1 _ (unhide HR) rfl rfl (by decide) (by decide) (by decide) (by simp [Turn])).mono ?_
        rintro e1 w2 ⟨rfl, hr1, hb1⟩
        have hr2 : Row w2 p (cel [a3, b1, c1, d2]) := by rw [unhide Ed2, unhide Ea3]; exact hr1
        have HR := hide hr2
        have HB := hide ((unhide HB).trans hb1)
        clear hr1 hr2 hb1
        go_wp2_with fail
        refine (stir_any p 2 1 17 17 [a3, b1, c1, d2] c1 b1 _ (unhide HR) rfl rfl (by decide) (by decide) (by decide) (by simp [Turn])).mono ?_
        rintro e1 w2 ⟨rfl, hr1, hb1⟩
        have hr2 : Row w2 p (cel [a3, b2, c2, d2]) := by rw [unhide Eb2, unhide Ec2]; exact hr1
        have HR := hide hr2
        have HB := hide ((unhide HB).trans hb1)
        clear hr1 hr2 hb1
        go_wp2_with fail
        have hlt := (unhide HR).lt
        have h0 : Row _ p (cel [a3, b2, c2, d2]) := (unhide HR)
        have hB0 := (unhide HB).drew
        have hq := unhide Ec3
        have h0 := row_drew h0
        clear HR HB
        refine wp_region_grow_store (by kernel_rfl) [.pointer (some ⟨p, 0, none⟩), .pointer (some ⟨p, 0, none⟩), .pointer (some ⟨p, 0, none⟩), .pointer (some ⟨p, 2, none⟩), .int .u64 (nn c2), .int .u64 (nn c3), .pointer (some ⟨p, 0, none⟩), .pointer (some ⟨p, 2, none⟩), undef] 8 (fun v => v.setCell ⟨p, 2, none⟩ (.int .u64 (nn c3))) (by kernel_rfl) (by decide) rfl ?op ?store ?fin
        case op =>
          intro i o bx u ho hne hbel hS
          match i, ho with
          | 0, ho =>
            obtain rfl := Option.some.inj ho
            have d0 : bx.tmps.getD 0 undef = .pointer (some ⟨p, 0, none⟩) := hS.base 0 (by kernel_rfl)
            refine .inl ⟨rfl, ends_value (c := .pointer (some ⟨p, 0, none⟩)) ?_⟩
            simp [execOp, Act.eval, d0]
          | 1, ho =>
            obtain rfl := Option.some.inj ho
            have d0 : bx.tmps.getD 0 undef = .pointer (some ⟨p, 0, none⟩) := hS.base 0 (by kernel_rfl)
            refine .inl ⟨rfl, ends_value (c := .pointer (some ⟨p, 0, none⟩)) ?_⟩
            simp [execOp, Act.eval, d0]
          | 2, ho =>
            obtain rfl := Option.some.inj ho
            have d24 : bx.tmps.getD 24 undef = .pointer (some ⟨p, 0, none⟩) := hS.dep 1 24 (by kernel_rfl) (by kernel_rfl)
            refine .inl ⟨rfl, ends_value (c := .pointer (some ⟨p, 0, none⟩)) ?_⟩
            simp [execOp, Act.eval, d24]
          | 3, ho =>
            obtain rfl := Option.some.inj ho
            have d25 : bx.tmps.getD 25 undef = .pointer (some ⟨p, 0, none⟩) := hS.dep 2 25 (by kernel_rfl) (by kernel_rfl)
            refine .inl ⟨rfl, ends_value (c := .pointer (some ⟨p, 2, none⟩)) ?_⟩
            simp [Act.eval, d25, go_sem]
          | 4, ho =>
            obtain rfl := Option.some.inj ho
            have d26 : bx.tmps.getD 26 undef = .pointer (some ⟨p, 2, none⟩) := hS.dep 3 26 (by kernel_rfl) (by kernel_rfl)
            have hl := (h0.on (hbel (by kernel_rfl)) hlt).cell 2 _ (cel_get (xs := [a3, b2, c2, d2]) (x := c2) rfl)
            refine .inl ⟨rfl, ends_value (c := .int .u64 (nn c2)) ?_⟩
            simp [Act.eval, d26, go_sem, hl]
          | 5, ho =>
            obtain rfl := Option.some.inj ho
            have d27 : bx.tmps.getD 27 undef = .int .u64 (nn c2) := hS.dep 4 27 (by kernel_rfl) (by kernel_rfl)
            refine .inl ⟨rfl, ends_call (c := .int .u64 (nn c3)) (by kernel_rfl) (f := 74) (args := #[.int .u64 (nn c2), .int .i64 32]) ?_ ((rot_any c2 32 32 (by simp [Turn]) u).mono fun e u' ⟨he, hw⟩ => ⟨he.trans (by rw [hq]), by rw [hw]; exact Below.refl _ _⟩)⟩
            simp [Act.eval, d27, go_sem]
          | 6, ho =>
            obtain rfl := Option.some.inj ho
            have d23 : bx.tmps.getD 23 undef = .pointer (some ⟨p, 0, none⟩) := hS.dep 0 23 (by kernel_rfl) (by kernel_rfl)
            refine .inl ⟨rfl, ends_value (c := .pointer (some ⟨p, 0, none⟩)) ?_⟩
            simp [execOp, Act.eval, d23]
          | 7, ho =>
            obtain rfl := Option.some.inj ho
            have d29 : bx.tmps.getD 29 undef = .pointer (some ⟨p, 0, none⟩) := hS.dep 6 29 (by kernel_rfl) (by kernel_rfl)
            refine .inl ⟨rfl, ends_value (c := .pointer (some ⟨p, 2, none⟩)) ?_⟩
            simp [Act.eval, d29, go_sem]
          | 8, _ => exact absurd rfl hne
          | n + 9, ho => exact absurd ho (by simp)
        case store =>
          intro o bx u ho hbel hS
          obtain rfl := Option.some.inj ho
          have d30 : bx.tmps.getD 30 undef = .pointer (some ⟨p, 2, none⟩) := hS.dep 7 30 (by kernel_rfl) (by kernel_rfl)
          have d28 : bx.tmps.getD 28 undef = .int .u64 (nn c3) := hS.dep 5 28 (by kernel_rfl) (by kernel_rfl)
          have c1 := (h0.on hbel hlt).cell 2 _ (cel_get (xs := [a3, b2, c2, d2]) (x := c2) rfl)
          have c2 := (h0.on hbel hlt).free 2
          refine ⟨rfl, ?_⟩
          simp [Act.eval, d30, d28, go_sem, c1, c2]
        case fin =>
          intro u hbel
          simp [putAll, dstAt, Act.put]
          have hr1 : Row (u.setCell ⟨p, 2, none⟩ (.int .u64 (nn c3))) p (cel [a3, b2, c3, d2]) := by
            have := (h0.on hbel hlt).set 2 (.int .u64 (nn c3))
            rw [cel_set] at this
            exact this
          have hb1 : But [p] w (u.setCell ⟨p, 2, none⟩ (.int .u64 (nn c3))) := (hB0.on hbel).setCell (List.mem_singleton.2 rfl) 2 _
          generalize u.setCell ⟨p, 2, none⟩ (.int .u64 (nn c3)) = w2 at *
          have HR := hide hr1
          have HB := hide hb1
          clear hr1 hb1 hbel hlt h0 hB0 u
          go_wp2_with fail
          go_roundw
          case rel => exact ⟨i + 1, by omega, by go_num, by rw [rndN, ← hs, unhide HN]; exact unhide HR, unhide HB⟩
          case measure => simp [intOf]; omega
    · have hd : decide ((i : Int) < n) = false := by simp; omega
      have HE : Hid (rndN i s0 = rndN n s0) := by show _ = _; rw [show i = n by omega]
      go_wp2_with fail
      go_end0
      exact ⟨rfl, by rw [← unhide HE]; exact unhide HR, unhide HB⟩
end Go.Proofs.Ytckkdgifjgkoaaa

/- take, sum, last. -/
namespace Go.Proofs.Ytckkdgifjgkoaaa
open Go.ChangeShapes Go.WideShapes Go.ChangeAt Go.RowKit Sp

set_option maxHeartbeats 1000000 in
theorem take_any (p : Nat) (s : St) (m : Sp.B) (w : World) (hr : Row w p (cel s.l)) :
    Calls Try.prog 38 #[.pointer (some ⟨p, 0, none⟩), .int .u64 (nn m)] w fun e w' => e = .returned (.tuple #[]) ∧ Row w' p (cel (inW s m).l) ∧ But [p] w w' := by
  obtain ⟨d1, e1, f1⟩ : ∃ x, bits .xor .u64 (nn s.d) (nn m) = nn x ∧ Hid (x = s.d ^^^ m) := ⟨_, xor_nn _ _, rfl⟩
  obtain ⟨t, ft⟩ : ∃ t, Hid (t = rndN 2 (inB s m)) := ⟨_, rfl⟩
  obtain ⟨a1, e2, f2⟩ : ∃ x, bits .xor .u64 (nn t.a) (nn m) = nn x ∧ Hid (x = t.a ^^^ m) := ⟨_, xor_nn _ _, rfl⟩
  have c3 := hr.cell 3 _ (cel_get (xs := s.l) (x := s.d) rfl)
  have g3 := hr.free 3
  have HR := hide hr
  clear hr
  go_enter Try.func38, Try.ntmps38
  go_wp2_with fail
  go_region
  have hr1 : Row (w.setCell ⟨p, 3, none⟩ (.int .u64 (nn d1))).drew p (cel (inB s m).l) := by
    have := (unhide HR).set 3 (.int .u64 (nn d1))
    rw [cel_set] at this
    unfold inB
    rw [← unhide f1]
    exact row_drew this
  have hb1 : But [p] w (w.setCell ⟨p, 3, none⟩ (.int .u64 (nn d1))).drew := ((But.of (Below.refl _ w)).setCell (List.mem_singleton.2 rfl) 3 _).drew
  generalize (w.setCell ⟨p, 3, none⟩ (.int .u64 (nn d1))).drew = V at *
  have HR1 := hide hr1
  have HB1 := hide hb1
  clear hr1 hb1 c3 g3
  go_wp2_with fail
  refine (rounds_any p 2 _ _ (by decide) (unhide HR1)).mono ?_
  rintro e w2 ⟨rfl, hr2, hb2⟩
  have hr2 : Row w2 p (cel t.l) := by rw [unhide ft]; exact hr2
  have HB2 := hide ((unhide HB1).trans hb2)
  have c0 := hr2.cell 0 _ (cel_get (xs := t.l) (x := t.a) rfl)
  have g0 := hr2.free 0
  have HR2 := hide hr2
  clear hr2 hb2
  go_wp2_with fail
  go_region
  have hr3 : Row (w2.setCell ⟨p, 0, none⟩ (.int .u64 (nn a1))).drew p (cel (inW s m).l) := by
    have := (unhide HR2).set 0 (.int .u64 (nn a1))
    rw [cel_set] at this
    unfold inW inA
    rw [← unhide ft, ← unhide f2]
    exact row_drew this
  have hb3 : But [p] w (w2.setCell ⟨p, 0, none⟩ (.int .u64 (nn a1))).drew := ((unhide HB2).setCell (List.mem_singleton.2 rfl) 0 _).drew
  generalize (w2.setCell ⟨p, 0, none⟩ (.int .u64 (nn a1))).drew = V2 at *
  have HR3 := hide hr3
  have HB3 := hide hb3
  clear hr3 hb3 c0 g0
  go_wp2_with fail
  go_end0
  exact ⟨rfl, unhide HR3, unhide HB3⟩

set_option maxHeartbeats 1000000 in
theorem sum_any (p : Nat) (s : St) (w : World) (hr : Row w p (cel s.l)) :
    Calls Try.prog 41 #[.pointer (some ⟨p, 0, none⟩)] w fun e w' => e = .returned (.int .u64 (nn (Sp.fin s))) ∧ But [p] w w' := by
  obtain ⟨c1, e1, f1⟩ : ∃ x, bits .xor .u64 (nn s.c) 255 = nn x ∧ Hid (x = s.c ^^^ 255#64) := ⟨_, xor_nn s.c 255#64, rfl⟩
  obtain ⟨t, ft⟩ : ∃ t, Hid (t = rndN 4 { s with c := c1 }) := ⟨_, rfl⟩
  have e2 : bits .xor .u64 0 (nn t.a) = nn t.a := by
    have := xor_nn 0#64 t.a
    rw [BitVec.zero_xor] at this
    exact this
  obtain ⟨x3, e3, f3⟩ : ∃ x, bits .xor .u64 (nn t.a) (nn t.b) = nn x ∧ Hid (x = t.a ^^^ t.b) := ⟨_, xor_nn _ _, rfl⟩
  obtain ⟨x4, e4, f4⟩ : ∃ x, bits .xor .u64 (nn x3) (nn t.c) = nn x ∧ Hid (x = x3 ^^^ t.c) := ⟨_, xor_nn _ _, rfl⟩
  obtain ⟨x5, e5, f5⟩ : ∃ x, bits .xor .u64 (nn x4) (nn t.d) = nn x ∧ Hid (x = x4 ^^^ t.d) := ⟨_, xor_nn _ _, rfl⟩
  have HF : Hid (Sp.fin s = x5) := by show _ = _; rw [unhide f5, unhide f4, unhide f3, unhide ft, unhide f1]; rfl
  have c3 := hr.cell 2 _ (cel_get (xs := s.l) (x := s.c) rfl)
  have g3 := hr.free 2
  have HR := hide hr
  clear hr
  go_enter Try.func41, Try.ntmps41
  go_wp2_with fail
  go_region
  have hr1 : Row (w.setCell ⟨p, 2, none⟩ (.int .u64 (nn c1))).drew p (cel ({ s with c := c1 } : St).l) := by
    have := (unhide HR).set 2 (.int .u64 (nn c1))
    rw [cel_set] at this
    exact row_drew this
  have hb1 : But [p] w (w.setCell ⟨p, 2, none⟩ (.int .u64 (nn c1))).drew := ((But.of (Below.refl _ w)).setCell (List.mem_singleton.2 rfl) 2 _).drew
  generalize (w.setCell ⟨p, 2, none⟩ (.int .u64 (nn c1))).drew = V at *
  have HR1 := hide hr1
  have HB1 := hide hb1
  clear hr1 hb1 c3 g3
  go_wp2_with fail
  refine (rounds_any p 4 _ _ (by decide) (unhide HR1)).mono ?_
  rintro e w2 ⟨rfl, hr2, hb2⟩
  have hr2 : Row w2 p (cel t.l) := by rw [unhide ft]; exact hr2
  have HB2 := hide ((unhide HB1).trans hb2)
  have k0 := hr2.cell 0 _ (cel_get (xs := t.l) (x := t.a) rfl)
  have k1 := hr2.cell 1 _ (cel_get (xs := t.l) (x := t.b) rfl)
  have k2 := hr2.cell 2 _ (cel_get (xs := t.l) (x := t.c) rfl)
  have k3 := hr2.cell 3 _ (cel_get (xs := t.l) (x := t.d) rfl)
  clear hr2 hb2 HR HR1
  go_wp2_with fail
  refine wp_loop_rounds 5 ?_
  rw [rounds_succ]
  go_wp2_with fail
  rw [rounds_succ]
  go_wp2_with fail
  rw [rounds_succ]
  go_wp2_with fail
  rw [rounds_succ]
  go_wp2_with fail
  rw [rounds_succ]
  go_wp2_with fail
  go_ret
  exact ⟨ret_u64 (by rw [unhide HF]), unhide HB2⟩

theorem ext_list (s : ByteArray) (a b : Nat) : (s.extract a b).data.toList = (s.data.toList.take b).drop a := by
  simp [ByteArray.data_extract, List.extract_eq_take_drop, List.drop_take]
theorem ext_drop (s : ByteArray) (k : Nat) : (s.extract k s.size).data.toList = s.data.toList.drop k := by
  rw [ext_list, List.take_of_length_le (by rw [len_eq]; exact Nat.le_refl _)]
theorem ext_size (s : ByteArray) (a b : Nat) (h : b ≤ s.size) : (s.extract a b).size = b - a := by
  rw [ByteArray.size_extract]; omega
theorem top_nn (n : Nat) : nn (BitVec.ofNat 64 (n % 256) <<< 56) = (n : Int) % 256 * 72057594037927936 := by
  have h := shl_nn (BitVec.ofNat 64 (n % 256)) 56
  rw [nn_ofNat _ (by omega), IntKind.wrap_u64] at h
  rw [← h]
  omega
theorem last_or (s : ByteArray) (X : Sp.B) (h : X = leB (s.data.toList.drop (s.size - s.size % 8))) : bits .or .u64 (nn X) ((s.size : Int) % 256 * 72057594037927936) = nn (lastW s) := by
  rw [← top_nn, or_nn, h]; rfl
set_option maxHeartbeats 1000000 in
theorem last_any (s : ByteArray) (w : World) (hs : s.size ≤ maxLen) :
    Calls Try.prog 40 #[.string s] w fun e w' => e = .returned (.int .u64 (nn (lastW s))) ∧ w' = w := by
  unfold maxLen at hs
  have hz : (s.extract (s.size - s.size % 8) s.size).size ≤ 8 := by rw [ext_size _ _ _ (Nat.le_refl _)]; omega
  obtain ⟨X, hX, HX⟩ : ∃ X, X = leB (s.data.toList.drop (s.size - s.size % 8)) ∧ Hid (∀ W, Calls Try.prog 39 #[.string (s.extract (s.size - s.size % 8) s.size)] W fun e w' => e = .returned (.int .u64 (nn X)) ∧ w' = W) :=
    ⟨_, rfl, fun W => by have h := number_any (s.extract (s.size - s.size % 8) s.size) W hz; rw [ext_drop] at h; exact h⟩
  have HL := hide (last_or s X hX)
  clear hz hX
  go_enter Try.func40, Try.ntmps40
  go_wp2_with fail
  refine (unhide HX _).mono ?_
  rintro e w1 ⟨rfl, rfl⟩
  go_wp2_with fail
  go_ret
  exact ⟨ret_u64 (unhide HL), rfl⟩
end Go.Proofs.Ytckkdgifjgkoaaa

/- A text with bytes 0 and its size behind: its words. -/
namespace Go.Proofs.Ytckkdgifjgkoaaa
open Go.RowKit Sp

/-- s, and j bytes 0. -/
def padZ (s : ByteArray) : Nat → ByteArray
  | 0 => s
  | j + 1 => padZ s j ++ ⟨#[0]⟩
theorem padZ_size (s : ByteArray) : ∀ j, (padZ s j).size = s.size + j
  | 0 => rfl
  | j + 1 => by rw [padZ, ByteArray.size_append, padZ_size s j]; rfl
theorem padZ_list (s : ByteArray) : ∀ j, (padZ s j).data.toList = s.data.toList ++ List.replicate j 0
  | 0 => by simp [padZ]
  | j + 1 => by rw [padZ, ByteArray.data_append, Array.toList_append, padZ_list s j, List.replicate_succ', List.append_assoc]
/-- How many bytes 0. -/
def padN (n : Nat) : Nat := 7 - n % 8
def padded (s : ByteArray) : ByteArray := padZ s (padN s.size) ++ strOfNums [(s.size : Int) % 256]
theorem padded_list (s : ByteArray) : (padded s).data.toList = s.data.toList ++ (List.replicate (padN s.size) 0 ++ [UInt8.ofNat (s.size % 256)]) := by
  unfold padded
  rw [ByteArray.data_append, Array.toList_append, padZ_list, List.append_assoc]
  have e : ((s.size : Int) % 256).toNat = s.size % 256 := by omega
  simp [strOfNums, e]
theorem padded_size (s : ByteArray) : (padded s).size = 8 * (s.size / 8 + 1) := by
  rw [← len_eq, padded_list]
  simp only [List.length_append, List.length_replicate, List.length_singleton, len_eq, padN]
  omega
theorem padded_word (s : ByteArray) (k : Nat) (h : k < s.size / 8) : wd (padded s) (8 * k) 0 = wd s (8 * k) 0 := by
  unfold wd
  rw [List.drop_zero, List.drop_zero, padded_list, List.drop_append_of_le_length (by rw [len_eq]; omega), List.take_append_of_le_length (by rw [List.length_drop, len_eq]; omega)]
theorem le_pad (z : Nat) (b : UInt8) : le (List.replicate z 0 ++ [b]) = 256 ^ z * b.toNat := by
  rw [le_app, le_zeros, List.length_replicate]
  simp [le]
theorem padded_last (s : ByteArray) : wd (padded s) (8 * (s.size / 8)) 0 = lastW s := by
  have hz := padded_size s
  unfold wd lastW
  have hd : s.size - s.size % 8 = 8 * (s.size / 8) := by omega
  have hl : (s.data.toList.drop (8 * (s.size / 8))).length = s.size % 8 := by rw [List.length_drop, len_eq]; omega
  rw [hd, List.drop_zero, padded_list, List.drop_append_of_le_length (by rw [len_eq]; omega), List.take_of_length_le (by
    rw [List.length_append, hl]; simp [padN]; omega)]
  generalize s.data.toList.drop (8 * (s.size / 8)) = r at *
  have h1 := le_lt r
  rw [hl] at h1
  have h2 : 256 ^ (s.size % 8) ≤ 256 ^ 7 := Nat.pow_le_pow_right (by decide) (by omega)
  have h3 : le r < 2 ^ 56 := by omega
  have h4 : 256 ^ (s.size % 8) * 256 ^ padN s.size = 256 ^ 7 := by rw [← Nat.pow_add]; congr 1; unfold padN; omega
  apply nn_inj
  rw [leB_nn _ (by rw [List.length_append, hl]; simp [padN]; omega), le_app, le_pad, hl, ← Nat.mul_assoc, h4, ← or_nn, top_nn, leB_nn _ (by omega)]
  have hb : (UInt8.ofNat (s.size % 256)).toNat = s.size % 256 := by simp only [UInt8.toNat_ofNat']; omega
  rw [hb]
  have e : ((s.size : Int) % 256 * 72057594037927936) = ((s.size % 256 * 2 ^ 56 : Nat) : Int) := by omega
  rw [e, u64_or_nat _ _ (by omega) (by omega), Nat.or_comm, nat_join 56 _ _ (Nat.mul_mod_left _ _) h3]
  congr 1
  omega
theorem run_padded (s : ByteArray) (v : St) : runW (fun k => wd (padded s) (8 * k) 0) (s.size / 8 + 1) v = inW (runW (fun k => wd s (8 * k) 0) (s.size / 8) v) (lastW s) := by
  have same : ∀ n, n ≤ s.size / 8 → runW (fun k => wd (padded s) (8 * k) 0) n v = runW (fun k => wd s (8 * k) 0) n v := by
    intro n
    induction n with
    | zero => intro _; rfl
    | succ n ih => intro h; rw [runW, runW, ih (by omega), padded_word s n (by omega)]
  rw [runW, same _ (Nat.le_refl _), padded_last]
theorem hash_padded (key s : ByteArray) : hash key s = Sp.fin (runW (fun k => wd (padded s) (8 * k) 0) (s.size / 8 + 1) (beg (wd key 0 0) (wd key 8 0))) := by
  rw [run_padded]; rfl
end Go.Proofs.Ytckkdgifjgkoaaa

/- begun. -/
namespace Go.Proofs.Ytckkdgifjgkoaaa
open Go.ChangeShapes Go.WideShapes Go.ChangeAt Go.RowKit Sp

theorem ext_head (s : ByteArray) (a b : Nat) : (s.extract a b).data.toList = (s.data.toList.drop a).take (b - a) := by rw [ext_list, List.drop_take]
set_option maxRecDepth 100000 in
set_option maxHeartbeats 2000000 in
theorem begun_any (key : ByteArray) (w : World) (hk : key.size = 16) :
    Calls Try.prog 37 #[.string key] w fun e w' => e = .returned (.agg #[.int .u64 (nn (beg (wd key 0 0) (wd key 8 0)).a), .int .u64 (nn (beg (wd key 0 0) (wd key 8 0)).b), .int .u64 (nn (beg (wd key 0 0) (wd key 8 0)).c), .int .u64 (nn (beg (wd key 0 0) (wd key 8 0)).d)]) ∧ Below w.heap.size w w' := by
  obtain ⟨A, hA⟩ : ∃ A, key.extract 0 8 = A := ⟨_, rfl⟩
  obtain ⟨C, hC⟩ : ∃ C, key.extract 8 16 = C := ⟨_, rfl⟩
  obtain ⟨k, ek, HN0⟩ : ∃ k, Hid (wd key 0 0 = k) ∧ Hid (∀ W, Calls Try.prog 39 #[.string A] W fun e w' => e = .returned (.int .u64 (nn k)) ∧ w' = W) :=
    ⟨_, rfl, fun W => by have h := number_any A W (by rw [← hA, ext_size _ _ _ (by omega)]; omega); rw [← hA, ext_head] at h; rw [← hA]; exact h⟩
  obtain ⟨l, el, HN1⟩ : ∃ l, Hid (wd key 8 0 = l) ∧ Hid (∀ W, Calls Try.prog 39 #[.string C] W fun e w' => e = .returned (.int .u64 (nn l)) ∧ w' = W) :=
    ⟨_, rfl, fun W => by have h := number_any C W (by rw [← hC, ext_size _ _ _ (by omega)]; omega); rw [← hC, ext_head] at h; rw [← hC]; exact h⟩
  obtain ⟨s0, e0, f0⟩ : ∃ x, bits .xor .u64 8317987319222330741 (nn k) = nn x ∧ Hid (x = 0x736f6d6570736575#64 ^^^ k) := ⟨_, xor_nn 0x736f6d6570736575#64 k, rfl⟩
  have n0 : Hid (nn 0x736f6d6570736575#64 = 8317987319222330741) := rfl
  obtain ⟨s1, e1, f1⟩ : ∃ x, bits .xor .u64 7237128888997146477 (nn l) = nn x ∧ Hid (x = 0x646f72616e646f6d#64 ^^^ l) := ⟨_, xor_nn 0x646f72616e646f6d#64 l, rfl⟩
  have n1 : Hid (nn 0x646f72616e646f6d#64 = 7237128888997146477) := rfl
  obtain ⟨s2, e2, f2⟩ : ∃ x, bits .xor .u64 7816392313619706465 (nn k) = nn x ∧ Hid (x = 0x6c7967656e657261#64 ^^^ k) := ⟨_, xor_nn 0x6c7967656e657261#64 k, rfl⟩
  have n2 : Hid (nn 0x6c7967656e657261#64 = 7816392313619706465) := rfl
  obtain ⟨s3, e3, f3⟩ : ∃ x, bits .xor .u64 8387220255154660723 (nn l) = nn x ∧ Hid (x = 0x7465646279746573#64 ^^^ l) := ⟨_, xor_nn 0x7465646279746573#64 l, rfl⟩
  have n3 : Hid (nn 0x7465646279746573#64 = 8387220255154660723) := rfl
  have q8 : ¬ ((key.size : Int) < 8) := by omega
  rw [unhide ek, unhide el]
  go_enter Try.func37, Try.ntmps37
  go_wp2_with fail
  obtain ⟨V, hV⟩ : ∃ V, (w.alloc (.cells #[.int .u64 0, .int .u64 0, .int .u64 0, .int .u64 0] 94)).alloc (.cells #[.int .u64 8317987319222330741, .int .u64 7237128888997146477, .int .u64 7816392313619706465, .int .u64 8387220255154660723] 94) = V := ⟨_, rfl⟩
  obtain ⟨b0, hb0⟩ : ∃ b, w.heap.size = b := ⟨_, rfl⟩
  obtain ⟨b1, hb1⟩ : ∃ b, b0 + 1 = b := ⟨_, rfl⟩
  have hz : Row V b0 (cel [0#64, 0#64, 0#64, 0#64]) := by
    rw [← hV, ← hb0]
    exact (row_new w (cel [0#64, 0#64, 0#64, 0#64]) 94).on' ((Below.refl _ _).alloc (Nat.le_refl _) _)
  have hv : Row V b1 (cel [0x736f6d6570736575#64, 0x646f72616e646f6d#64, 0x6c7967656e657261#64, 0x7465646279746573#64]) := by
    rw [← hV, ← hb1, ← hb0]
    have := row_new (w.alloc (.cells #[.int .u64 0, .int .u64 0, .int .u64 0, .int .u64 0] 94)) (cel [0x736f6d6570736575#64, 0x646f72616e646f6d#64, 0x6c7967656e657261#64, 0x7465646279746573#64]) 94
    have e : (w.alloc (.cells #[.int .u64 0, .int .u64 0, .int .u64 0, .int .u64 0] 94)).heap.size = w.heap.size + 1 := by simp
    rw [e] at this
    exact this
  have hwV : But [b0, b1] w V := by rw [← hV]; exact But.of (((Below.refl _ _).alloc (Nat.le_refl _) _).alloc (by simp) _)
  simp only [hV, hb0, hb1]
  clear hV
  refine wp_region_alloc (by kernel_rfl) [.string key, .string A, .int .u64 (nn k), .string key, .string C, .int .u64 (nn l), .agg #[.int .u64 (nn k), .int .u64 (nn l)], .pointer (some ⟨V.heap.size, 0, none⟩), undef] 7 8 (V.drew.alloc (.cells #[.int .u64 0, .int .u64 0] 116)) (V.drew.alloc (.cells #[.int .u64 (nn k), .int .u64 (nn l)] 116)) (by kernel_rfl) (by decide) (by decide) (by kernel_rfl) rfl ?op ?alloc ?store ?fin
  case op =>
    intro i o bx u ho hne1 hne2 hS
    match i, ho with
    | 0, ho =>
      obtain rfl := Option.some.inj ho
      have d0 : bx.tmps.getD 0 undef = .string key := hS.base 0 (by kernel_rfl)
      refine ⟨rfl, rests_value (c := .string key) ?_⟩
      simp [execOp, Act.eval, d0]
    | 1, ho =>
      obtain rfl := Option.some.inj ho
      have d7 : bx.tmps.getD 7 undef = .string key := hS.dep 0 7 (by kernel_rfl) (by kernel_rfl)
      refine ⟨rfl, rests_value (c := .string A) ?_⟩
      simp [Act.eval, d7, go_sem, hA, q8]
    | 2, ho =>
      obtain rfl := Option.some.inj ho
      have d8 : bx.tmps.getD 8 undef = .string A := hS.dep 1 8 (by kernel_rfl) (by kernel_rfl)
      refine ⟨rfl, rests_call (c := .int .u64 (nn k)) (f := 39) (args := #[.string A]) ?_ (unhide HN0 u)⟩
      simp [Act.eval, d8, go_sem]
    | 3, ho =>
      obtain rfl := Option.some.inj ho
      have d0 : bx.tmps.getD 0 undef = .string key := hS.base 0 (by kernel_rfl)
      refine ⟨rfl, rests_value (c := .string key) ?_⟩
      simp [execOp, Act.eval, d0]
    | 4, ho =>
      obtain rfl := Option.some.inj ho
      have d10 : bx.tmps.getD 10 undef = .string key := hS.dep 3 10 (by kernel_rfl) (by kernel_rfl)
      refine ⟨rfl, rests_value (c := .string C) ?_⟩
      simp [Act.eval, d10, go_sem, hC, hk]
    | 5, ho =>
      obtain rfl := Option.some.inj ho
      have d11 : bx.tmps.getD 11 undef = .string C := hS.dep 4 11 (by kernel_rfl) (by kernel_rfl)
      refine ⟨rfl, rests_call (c := .int .u64 (nn l)) (f := 39) (args := #[.string C]) ?_ (unhide HN1 u)⟩
      simp [Act.eval, d11, go_sem]
    | 6, ho =>
      obtain rfl := Option.some.inj ho
      have d9 : bx.tmps.getD 9 undef = .int .u64 (nn k) := hS.dep 2 9 (by kernel_rfl) (by kernel_rfl)
      have q9 : bx.tmps[9]?.getD undef = .int .u64 (nn k) := by rw [← Array.getD_eq_getD_getElem?]; exact d9
      have d12 : bx.tmps.getD 12 undef = .int .u64 (nn l) := hS.dep 5 12 (by kernel_rfl) (by kernel_rfl)
      have q12 : bx.tmps[12]?.getD undef = .int .u64 (nn l) := by rw [← Array.getD_eq_getD_getElem?]; exact d12
      refine ⟨rfl, rests_value (c := .agg #[.int .u64 (nn k), .int .u64 (nn l)]) ?_⟩
      simp [Act.eval, q9, q12, go_sem]
    | 7, _ => exact absurd rfl hne1
    | 8, _ => exact absurd rfl hne2
    | n + 9, ho => exact absurd ho (by simp)
  case alloc =>
    intro o bx ho hS
    obtain rfl := Option.some.inj ho
    refine ⟨rfl, ?_⟩
    simp [go_sem]
  case store =>
    intro o bx ho hS
    obtain rfl := Option.some.inj ho
    have d4 : bx.tmps.getD 4 undef = .pointer (some ⟨V.heap.size, 0, none⟩) := hS.dep 7 4 (by kernel_rfl) (by kernel_rfl)
    have d13 : bx.tmps.getD 13 undef = .agg #[.int .u64 (nn k), .int .u64 (nn l)] := hS.dep 6 13 (by kernel_rfl) (by kernel_rfl)
    refine ⟨rfl, ?_⟩
    simp [Act.eval, d4, d13, go_sem]
  case fin =>
    simp [putAll, dstAt, Act.put]
    have hv1 : Row (V.drew.alloc (.cells #[.int .u64 (nn k), .int .u64 (nn l)] 116)) b1 (cel [0x736f6d6570736575#64, 0x646f72616e646f6d#64, 0x6c7967656e657261#64, 0x7465646279746573#64]) := (row_drew hv).on' ((Below.refl _ _).alloc (Nat.le_refl _) _)
    have hz1 : Row (V.drew.alloc (.cells #[.int .u64 (nn k), .int .u64 (nn l)] 116)) b0 (cel [0#64, 0#64, 0#64, 0#64]) := (row_drew hz).on' ((Below.refl _ _).alloc (Nat.le_refl _) _)
    have hh1 : Row (V.drew.alloc (.cells #[.int .u64 (nn k), .int .u64 (nn l)] 116)) V.heap.size (cel [k, l]) := row_new V.drew (cel [k, l]) 116
    have hB1 : But [b0, b1] V (V.drew.alloc (.cells #[.int .u64 (nn k), .int .u64 (nn l)] 116)) := (But.of ((Below.refl _ _).drew.alloc (Nat.le_refl _) _))
    have hgz : b0 ≠ b1 := by omega
    have hg0 : V.heap.size ≠ b0 := by have := hz.lt; omega
    have hg1 : V.heap.size ≠ b1 := by have := hv.lt; omega
    generalize V.drew.alloc (.cells #[.int .u64 (nn k), .int .u64 (nn l)] 116) = V1 at *
    generalize hg : V.heap.size = g at *
    have k0 := hh1.cell 0 _ (cel_get (xs := [k, l]) (x := k) rfl)
    have k1 := hh1.cell 1 _ (cel_get (xs := [k, l]) (x := l) rfl)
    have HH := hide hh1
    have HV := hide hv1
    have HZ := hide hz1
    have HB := hide (hwV.trans hB1)
    clear hv1 hz1 hB1 hh1 hv hz hwV HN0 HN1 hg
    go_wp2_with fail
    refine wp_loop_rounds 5 ?_
    rw [rounds_succ]
    have cv := (unhide HV).cell 0 _ (cel_get (xs := [0x736f6d6570736575#64, 0x646f72616e646f6d#64, 0x6c7967656e657261#64, 0x7465646279746573#64]) (x := 0x736f6d6570736575#64) rfl)
    have fv := (unhide HV).free 0
    rw [unhide n0] at cv
    go_wp2_with fail
    go_region
    have hv1 : Row (V1.setCell ⟨b1, 0, none⟩ (.int .u64 (nn s0))).drew b1 (cel [s0, 0x646f72616e646f6d#64, 0x6c7967656e657261#64, 0x7465646279746573#64]) := by
      have := (unhide HV).set 0 (.int .u64 (nn s0))
      rw [cel_set] at this
      exact row_drew this
    have hz1 : Row (V1.setCell ⟨b1, 0, none⟩ (.int .u64 (nn s0))).drew b0 (cel [0#64, 0#64, 0#64, 0#64]) := row_drew ((unhide HZ).other hgz 0 _)
    have hh1 : Row (V1.setCell ⟨b1, 0, none⟩ (.int .u64 (nn s0))).drew g (cel [k, l]) := row_drew ((unhide HH).other hg1 0 _)
    have hB1 := ((unhide HB).setCell (g := b1) (by simp) 0 (.int .u64 (nn s0))).drew
    generalize (V1.setCell ⟨b1, 0, none⟩ (.int .u64 (nn s0))).drew = W1 at *
    have k0 := hh1.cell 0 _ (cel_get (xs := [k, l]) (x := k) rfl)
    have k1 := hh1.cell 1 _ (cel_get (xs := [k, l]) (x := l) rfl)
    have HH := hide hh1
    have HV := hide hv1
    have HZ := hide hz1
    have HB := hide hB1
    clear hv1 hz1 hB1 hh1 cv fv
    go_wp2_with fail
    rw [rounds_succ]
    have cv := (unhide HV).cell 1 _ (cel_get (xs := [s0, 0x646f72616e646f6d#64, 0x6c7967656e657261#64, 0x7465646279746573#64]) (x := 0x646f72616e646f6d#64) rfl)
    have fv := (unhide HV).free 1
    rw [unhide n1] at cv
    go_wp2_with fail
    go_region
    have hv1 : Row (W1.setCell ⟨b1, 1, none⟩ (.int .u64 (nn s1))).drew b1 (cel [s0, s1, 0x6c7967656e657261#64, 0x7465646279746573#64]) := by
      have := (unhide HV).set 1 (.int .u64 (nn s1))
      rw [cel_set] at this
      exact row_drew this
    have hz1 : Row (W1.setCell ⟨b1, 1, none⟩ (.int .u64 (nn s1))).drew b0 (cel [0#64, 0#64, 0#64, 0#64]) := row_drew ((unhide HZ).other hgz 1 _)
    have hh1 : Row (W1.setCell ⟨b1, 1, none⟩ (.int .u64 (nn s1))).drew g (cel [k, l]) := row_drew ((unhide HH).other hg1 1 _)
    have hB1 := ((unhide HB).setCell (g := b1) (by simp) 1 (.int .u64 (nn s1))).drew
    generalize (W1.setCell ⟨b1, 1, none⟩ (.int .u64 (nn s1))).drew = W2 at *
    have k0 := hh1.cell 0 _ (cel_get (xs := [k, l]) (x := k) rfl)
    have k1 := hh1.cell 1 _ (cel_get (xs := [k, l]) (x := l) rfl)
    have HH := hide hh1
    have HV := hide hv1
    have HZ := hide hz1
    have HB := hide hB1
    clear hv1 hz1 hB1 hh1 cv fv
    go_wp2_with fail
    rw [rounds_succ]
    have cv := (unhide HV).cell 2 _ (cel_get (xs := [s0, s1, 0x6c7967656e657261#64, 0x7465646279746573#64]) (x := 0x6c7967656e657261#64) rfl)
    have fv := (unhide HV).free 2
    rw [unhide n2] at cv
    go_wp2_with fail
    go_region
    have hv1 : Row (W2.setCell ⟨b1, 2, none⟩ (.int .u64 (nn s2))).drew b1 (cel [s0, s1, s2, 0x7465646279746573#64]) := by
      have := (unhide HV).set 2 (.int .u64 (nn s2))
      rw [cel_set] at this
      exact row_drew this
    have hz1 : Row (W2.setCell ⟨b1, 2, none⟩ (.int .u64 (nn s2))).drew b0 (cel [0#64, 0#64, 0#64, 0#64]) := row_drew ((unhide HZ).other hgz 2 _)
    have hh1 : Row (W2.setCell ⟨b1, 2, none⟩ (.int .u64 (nn s2))).drew g (cel [k, l]) := row_drew ((unhide HH).other hg1 2 _)
    have hB1 := ((unhide HB).setCell (g := b1) (by simp) 2 (.int .u64 (nn s2))).drew
    generalize (W2.setCell ⟨b1, 2, none⟩ (.int .u64 (nn s2))).drew = W3 at *
    have k0 := hh1.cell 0 _ (cel_get (xs := [k, l]) (x := k) rfl)
    have k1 := hh1.cell 1 _ (cel_get (xs := [k, l]) (x := l) rfl)
    have HH := hide hh1
    have HV := hide hv1
    have HZ := hide hz1
    have HB := hide hB1
    clear hv1 hz1 hB1 hh1 cv fv
    go_wp2_with fail
    rw [rounds_succ]
    have cv := (unhide HV).cell 3 _ (cel_get (xs := [s0, s1, s2, 0x7465646279746573#64]) (x := 0x7465646279746573#64) rfl)
    have fv := (unhide HV).free 3
    rw [unhide n3] at cv
    go_wp2_with fail
    go_region
    have hv1 : Row (W3.setCell ⟨b1, 3, none⟩ (.int .u64 (nn s3))).drew b1 (cel [s0, s1, s2, s3]) := by
      have := (unhide HV).set 3 (.int .u64 (nn s3))
      rw [cel_set] at this
      exact row_drew this
    have hz1 : Row (W3.setCell ⟨b1, 3, none⟩ (.int .u64 (nn s3))).drew b0 (cel [0#64, 0#64, 0#64, 0#64]) := row_drew ((unhide HZ).other hgz 3 _)
    have hh1 : Row (W3.setCell ⟨b1, 3, none⟩ (.int .u64 (nn s3))).drew g (cel [k, l]) := row_drew ((unhide HH).other hg1 3 _)
    have hB1 := ((unhide HB).setCell (g := b1) (by simp) 3 (.int .u64 (nn s3))).drew
    generalize (W3.setCell ⟨b1, 3, none⟩ (.int .u64 (nn s3))).drew = W4 at *
    have k0 := hh1.cell 0 _ (cel_get (xs := [k, l]) (x := k) rfl)
    have k1 := hh1.cell 1 _ (cel_get (xs := [k, l]) (x := l) rfl)
    have HH := hide hh1
    have HV := hide hv1
    have HZ := hide hz1
    have HB := hide hB1
    clear hv1 hz1 hB1 hh1 cv fv
    go_wp2_with fail
    rw [rounds_succ]
    have c0 := (unhide HV).cell 0 _ (cel_get (xs := [s0, s1, s2, s3]) (x := s0) rfl)
    have c1 := (unhide HV).cell 1 _ (cel_get (xs := [s0, s1, s2, s3]) (x := s1) rfl)
    have c2 := (unhide HV).cell 2 _ (cel_get (xs := [s0, s1, s2, s3]) (x := s2) rfl)
    have c3 := (unhide HV).cell 3 _ (cel_get (xs := [s0, s1, s2, s3]) (x := s3) rfl)
    have z0 := (unhide HZ).cell 0 _ (cel_get (xs := [0#64, 0#64, 0#64, 0#64]) (x := 0#64) rfl)
    have y0 := (unhide HZ).free 0
    have z1 := (unhide HZ).cell 1 _ (cel_get (xs := [0#64, 0#64, 0#64, 0#64]) (x := 0#64) rfl)
    have y1 := (unhide HZ).free 1
    have z2 := (unhide HZ).cell 2 _ (cel_get (xs := [0#64, 0#64, 0#64, 0#64]) (x := 0#64) rfl)
    have y2 := (unhide HZ).free 2
    have z3 := (unhide HZ).cell 3 _ (cel_get (xs := [0#64, 0#64, 0#64, 0#64]) (x := 0#64) rfl)
    have y3 := (unhide HZ).free 3
    have HW : Hid (Row (setRow W4 b0 0 (cel [s0, s1, s2, s3])) b0 (cel [s0, s1, s2, s3])) := row_all _ (unhide HZ) rfl
    have HWB := hide ((unhide HB).setRow (g := b0) (by simp) 0 (cel [s0, s1, s2, s3]))
    have HS : Hid (setRow W4 b0 0 (cel [s0, s1, s2, s3]) = (((W4.setCell ⟨b0, 0, none⟩ (.int .u64 (nn s0))).setCell ⟨b0, 1, none⟩ (.int .u64 (nn s1))).setCell ⟨b0, 2, none⟩ (.int .u64 (nn s2))).setCell ⟨b0, 3, none⟩ (.int .u64 (nn s3))) := rfl
    go_wp2_with fail
    rw [← unhide HS]
    clear HS c0 c1 c2 c3 z0 z1 z2 z3 y0 y1 y2 y3
    generalize setRow W4 b0 0 (cel [s0, s1, s2, s3]) = Z at *
    have hw := unhide HW
    have g0 := hw.cell 0 _ (cel_get (xs := [s0, s1, s2, s3]) (x := s0) rfl)
    have g1 := hw.cell 1 _ (cel_get (xs := [s0, s1, s2, s3]) (x := s1) rfl)
    have g2 := hw.cell 2 _ (cel_get (xs := [s0, s1, s2, s3]) (x := s2) rfl)
    have g3 := hw.cell 3 _ (cel_get (xs := [s0, s1, s2, s3]) (x := s3) rfl)
    refine bodyPost_ret (v := .agg #[.int .u64 (nn s0), .int .u64 (nn s1), .int .u64 (nn s2), .int .u64 (nn s3)]) ?_ rfl ⟨by rw [unhide f0, unhide f1, unhide f2, unhide f3]; rfl, ?_⟩
    · simp [results, Try.results37, go_sem, g0, g1, g2, g3]
    · exact (unhide HWB).below (Below.refl _ _) (by intro x hx; simp at hx; omega)
end Go.Proofs.Ytckkdgifjgkoaaa

/- Hash. -/
namespace Go.Proofs.Ytckkdgifjgkoaaa
open Go.ChangeShapes Go.WideShapes Go.ChangeAt Go.RowKit Sp

set_option maxRecDepth 100000 in
set_option maxHeartbeats 400000 in
theorem hash_no (key s : ByteArray) (w : World) (hk : key.size ≠ 16) :
    Calls Try.prog 21 #[.string key, .string s] w fun e w' => e = .returned (.tuple #[.int .u64 0, .bool false]) ∧ w' = w := by
  have hd : ((key.size : Int) != 16) = true := by simp; omega
  go_enter Try.func21, Try.ntmps21
  go_wp2_with fail
  go_ret2
  exact ⟨rfl, rfl⟩

set_option maxRecDepth 100000 in
set_option maxHeartbeats 2000000 in
theorem hash_yes (key s : ByteArray) (w : World) (hk : key.size = 16) (hs : s.size ≤ maxLen) :
    Calls Try.prog 21 #[.string key, .string s] w fun e w' => e = .returned (.tuple #[.int .u64 (nn (hash key s)), .bool true]) ∧ Below w.heap.size w w' := by
  have hs0 := hs
  unfold maxLen at hs
  have hd : ((key.size : Int) != 16) = false := by simp; omega
  have HBG := hide (begun_any key w hk)
  obtain ⟨s0, hs0'⟩ : ∃ s0, s0 = beg (wd key 0 0) (wd key 8 0) := ⟨_, rfl⟩
  rw [← hs0'] at HBG
  have HL := hide (fun W => last_any s W hs0)
  have HF : Hid (hash key s = Sp.fin (inW (runW (fun k => wd s (8 * k) 0) (s.size / 8) s0) (lastW s))) := by show _ = _; rw [hs0']; rfl
  clear hs0 hs0'
  obtain ⟨f, hf⟩ : ∃ f : Nat → Sp.B, Hid ((fun k => wd s (8 * k) 0) = f) := ⟨_, rfl⟩
  rw [unhide hf] at HF
  go_enter Try.func21, Try.ntmps21
  go_wp2_with fail
  refine (unhide HBG).mono ?_
  rintro e w1 ⟨rfl, hb1⟩
  have HB1 := hide hb1
  clear hb1 HBG
  go_wp2_with fail
  obtain ⟨W0, hW0⟩ : ∃ W0, w1.alloc (.cells #[.int .u64 (nn s0.a), .int .u64 (nn s0.b), .int .u64 (nn s0.c), .int .u64 (nn s0.d)] 94) = W0 := ⟨_, rfl⟩
  obtain ⟨p, hp⟩ : ∃ p, w1.heap.size = p := ⟨_, rfl⟩
  have HR0 : Hid (Row W0 p (cel s0.l)) := by rw [← hW0, ← hp]; exact row_new w1 (cel s0.l) 94
  have HB0 : Hid (Below w.heap.size w W0) := by rw [← hW0]; exact (unhide HB1).alloc (unhide HB1).size _
  have HP : Hid (w.heap.size ≤ p) := by rw [← hp]; exact (unhide HB1).size
  simp only [hW0, hp]
  clear hW0 hp HB1
  go_loopw [18] (fun t W => ∃ k : Nat, k ≤ s.size / 8 ∧ t = .int .i64 k ∧ Row W p (cel (runW f k s0).l) ∧ But [p] W0 W) (fun t _ => s.size / 8 - (intOf t).toNat)
  case atStart => exact ⟨0, Nat.zero_le _, rfl, unhide HR0, But.of (Below.refl _ _)⟩
  case round =>
    obtain ⟨k, hkn, rfl, hr, hb⟩ := hrel
    have HR := hide hr
    have HB := hide hb
    clear hr hb HR0
    by_cases hlt : k < s.size / 8
    · have hlt' : (k : Int) < (s.size : Int) / 8 := by omega
      have b1 : ((k : Int) + 1) * 8 ≤ s.size := by omega
      have hsz : (s.extract (k * 8) ((k + 1) * 8)).size ≤ 8 := by rw [ext_size _ _ _ (by omega)]; omega
      have HN : Hid (∀ W, Calls Try.prog 39 #[.string (s.extract (k * 8) ((k + 1) * 8))] W fun e w' => e = .returned (.int .u64 (nn (f k))) ∧ w' = W) := fun W => by
        have h := number_any (s.extract (k * 8) ((k + 1) * 8)) W hsz
        have e : leB (s.extract (k * 8) ((k + 1) * 8)).data.toList = f k := by
          rw [← unhide hf, ext_head, show (k + 1) * 8 - k * 8 = 8 by omega, show k * 8 = 8 * k by omega]; rfl
        rw [e] at h
        exact h
      clear hsz
      go_wp2_with fail
      refine (unhide HN _).mono ?_
      rintro e w2 ⟨rfl, rfl⟩
      go_wp2_with fail
      refine (take_any p _ (f k) _ (unhide HR)).mono ?_
      rintro e w3 ⟨rfl, hr3, hb3⟩
      have HR3 := hide hr3
      have HB3 := hide ((unhide HB).trans hb3)
      clear hr3 hb3
      go_wp2_with fail
      go_roundw
      case rel => exact ⟨k + 1, by omega, by go_num, unhide HR3, unhide HB3⟩
      case measure => simp [intOf]; omega
    · obtain rfl : k = s.size / 8 := by omega
      go_wp2_with fail
      refine (unhide HL _).mono ?_
      rintro e w2 ⟨rfl, rfl⟩
      go_wp2_with fail
      refine (take_any p _ (lastW s) _ (unhide HR)).mono ?_
      rintro e w3 ⟨rfl, hr3, hb3⟩
      have HR3 := hide hr3
      have HB3 := hide ((unhide HB).trans hb3)
      clear hr3 hb3
      go_wp2_with fail
      refine (sum_any p _ _ (unhide HR3)).mono ?_
      rintro e w4 ⟨rfl, hb4⟩
      have HB4 := hide ((unhide HB3).trans hb4)
      clear hb4
      go_wp2_with fail
      go_ret2
      exact ⟨by rw [unhide HF]; rfl, (unhide HB4).below (unhide HB0) (by intro x hx; have := unhide HP; simp at hx; omega)⟩

theorem hash_any (key s : ByteArray) (w : World) (hs : s.size ≤ maxLen) :
    Calls Try.prog 21 #[.string key, .string s] w fun e w' => e = .returned (.tuple #[.int .u64 (nn (hashV key s)), .bool (key.size == 16)]) ∧ Below w.heap.size w w' := by
  unfold hashV
  by_cases hk : key.size = 16
  · rw [if_pos hk, beq_iff_eq.2 hk]
    exact hash_yes key s w hk hs
  · rw [if_neg hk, beq_eq_false_iff_ne.2 hk]
    exact (hash_no key s w hk).mono fun e w' ⟨he, hw⟩ => ⟨he, by rw [hw]; exact Below.refl _ _⟩
end Go.Proofs.Ytckkdgifjgkoaaa
