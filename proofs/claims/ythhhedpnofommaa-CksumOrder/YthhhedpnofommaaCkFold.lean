/- What Fold, Join, Update and Update32 of package cksum compute, and what they lean on: one contract a function. -/
import Derived.Test.YthhhedpnofommaaChecked
import Derived.Test.YthhhedpnofommaaCkMath
import Derived.OpenShut
import Derived.WalkSpells
import Derived.WalkLawsBesides
import Derived.Handy
import Derived.Below
namespace Go.Proofs.Ythhhedpnofommaa
open Go.ChangeShapes Go.WideShapes Go.ChangeAt Go.RowKit

theorem hide {p : Prop} (h : p) : Hid p := h
theorem unhide {p : Prop} (h : Hid p) : p := h
theorem ret_int {k : IntKind} {a b : Int} (h : a = b) : Ending.returned (.int k a) = .returned (.int k b) := by rw [h]

set_option maxHeartbeats 400000 in
theorem fold_any (n : Int) (w : World) (h0 : 0 ≤ n) (h1 : n ≤ 18446744073709551615) :
    Calls Try.prog 11 #[.int .u64 n] w fun e w' => e = .returned (.int .u16 (Ck.fold n)) ∧ w' = w := by
  go_enter Try.func11, Try.ntmps11
  go_wp2
  go_loop [0] (fun t => ∃ m : Int, 0 ≤ m ∧ m ≤ 18446744073709551615 ∧ Ck.fold m = Ck.fold n ∧ t = .int .u64 m) (fun t => (intOf t).toNat)
  case atStart => exact ⟨n, h0, h1, rfl, rfl⟩
  case round =>
    obtain ⟨m, hm0, hm1, hm, rfl⟩ := hrel
    have HM : Hid (Ck.fold m = Ck.fold n) := hm
    clear hm
    by_cases hlt : 65535 < m
    · have ha := Ck.and_word m hm0 hm1
      go_wp2
      go_round
      case rel => exact ⟨m % 65536 + m / 65536, by omega, by omega, (Ck.fold_step m hlt).trans HM.out, by go_num⟩
      case measure => simp [intOf]; omega
    · have HF : Hid (Ck.fold m = m) := Ck.fold_small m hm0 (by omega)
      go_wp2
      go_ret
      exact ⟨ret_int (by rw [← HM.out, HF.out]), rfl⟩

set_option maxHeartbeats 400000 in
theorem rest_any (n : Int) (w : World) (h0 : 0 ≤ n) (h1 : n ≤ 65535) :
    Calls Try.prog 26 #[.int .u16 n] w fun e w' => e = .returned (.int .u16 (65535 - n)) ∧ w' = w := by
  go_enter Try.func26, Try.ntmps26
  go_wp2
  go_ret
  exact ⟨rfl, rfl⟩

set_option maxHeartbeats 400000 in
theorem upper_any (n : Int) (w : World) (h0 : 0 ≤ n) (h1 : n ≤ 4294967295) :
    Calls Try.prog 27 #[.int .u32 n] w fun e w' => e = .returned (.int .u16 (n / 65536)) ∧ w' = w := by
  go_enter Try.func27, Try.ntmps27
  go_wp2
  go_ret
  exact ⟨rfl, rfl⟩

set_option maxHeartbeats 400000 in
theorem lower_any (n : Int) (w : World) (h0 : 0 ≤ n) (h1 : n ≤ 4294967295) :
    Calls Try.prog 28 #[.int .u32 n] w fun e w' => e = .returned (.int .u16 (n % 65536)) ∧ w' = w := by
  have ha := Ck.and_low n h0 h1
  go_enter Try.func28, Try.ntmps28
  go_wp2
  go_ret
  exact ⟨rfl, rfl⟩

/-- What Join reads: the first len cells from x on are the numbers zs. -/
def Reads (k : IntKind) (w : World) (x : Addr) (zs : List Int) : Prop := ∀ i, i < zs.length → w.cell? (x.add i) = some (.int k (zs.getD i 0))

set_option maxHeartbeats 400000 in
theorem join_row (x : Addr) (cap : Nat) (zs : List Int) (w : World) (hl : zs.length ≤ 9223372036854775807) (hc : Reads .u16 w x zs) (hz : ∀ z ∈ zs, 0 ≤ z ∧ z ≤ 65535) :
    Calls Try.prog 17 #[.slice (some x) zs.length cap] w fun e w' => e = .returned (.int .u16 (Ck.fold (Ck.usum zs))) ∧ w' = w := by
  go_enter Try.func17, Try.ntmps17
  go_wp2
  go_loop [3, 8] (fun n i => ∃ k : Nat, k ≤ zs.length ∧ i = .int .i64 k ∧ n = .int .u64 (Ck.usum (zs.take k))) (fun _ i => zs.length - (intOf i).toNat)
  case atStart => exact ⟨0, Nat.zero_le _, rfl, rfl⟩
  case round =>
    obtain ⟨k, hk, rfl, rfl⟩ := hrel
    have b0 := Ck.usum_lo (zs.take k)
    have b1 := Ck.usum_hi (zs.take k)
    by_cases hlt : k < zs.length
    · have hcell := hc k hlt
      have HS : Hid (Ck.usum (zs.take (k + 1)) = (Ck.usum (zs.take k) + zs.getD k 0) % 18446744073709551616) := Ck.usum_take zs k hlt
      have hb : 0 ≤ zs.getD k 0 ∧ zs.getD k 0 ≤ 65535 := by
        rw [List.getD_eq_getElem?_getD, List.getElem?_eq_getElem hlt]; exact hz _ (List.getElem_mem hlt)
      obtain ⟨hb0, hb1⟩ := hb
      generalize zs.getD k 0 = z at *
      go_wp2
      go_round
      case rel => exact ⟨k + 1, by omega, by go_num, by rw [HS.out]; go_num⟩
      case measure => simp [intOf]; omega
    · obtain rfl : k = zs.length := by omega
      rw [List.take_length] at *
      go_wp2_with fail
      refine (fold_any _ _ (Ck.usum_lo _) (Ck.usum_hi _)).mono ?_
      rintro e w' ⟨rfl, rfl⟩
      go_wp2_with fail
      go_ret
      exact ⟨rfl, rfl⟩

set_option maxHeartbeats 400000 in
theorem join_nil (w : World) :
    Calls Try.prog 17 #[.slice none 0 0] w fun e w' => e = .returned (.int .u16 0) ∧ w' = w := by
  go_enter Try.func17, Try.ntmps17
  go_wp2
  go_loop [3, 8] (fun n i => i = .int .i64 0 ∧ n = .int .u64 0) (fun _ _ => 0)
  case atStart => exact ⟨rfl, rfl⟩
  case round =>
    obtain ⟨rfl, rfl⟩ := hrel
    go_wp2_with fail
    refine (fold_any _ _ (Int.le_refl _) (by decide)).mono ?_
    rintro e w' ⟨rfl, rfl⟩
    go_wp2_with fail
    go_ret
    exact ⟨rfl, rfl⟩

theorem reads_new3 (w : World) (t : TypeId) (a b c : Int) : Reads .u16 (w.alloc (.cells #[.int .u16 a, .int .u16 b, .int .u16 c] t)) ⟨w.heap.size, 0, none⟩ [a, b, c] := by
  intro i hi
  have h3 : i = 0 ∨ i = 1 ∨ i = 2 := by simp at hi; omega
  rcases h3 with rfl | rfl | rfl <;> simp [go_sem, Addr.add]
theorem reads_new2 (w : World) (t : TypeId) (a b : Int) : Reads .u16 (w.alloc (.cells #[.int .u16 a, .int .u16 b] t)) ⟨w.heap.size, 0, none⟩ [a, b] := by
  intro i hi
  have h3 : i = 0 ∨ i = 1 := by simp at hi; omega
  rcases h3 with rfl | rfl <;> simp [go_sem, Addr.add]
theorem join3 (w : World) (t : TypeId) (a b c : Int) (a0 : 0 ≤ a) (a1 : a ≤ 65535) (b0 : 0 ≤ b) (b1 : b ≤ 65535) (c0 : 0 ≤ c) (c1 : c ≤ 65535) :
    Calls Try.prog 17 #[.slice (some ⟨w.heap.size, 0, none⟩) 3 3] (w.alloc (.cells #[.int .u16 a, .int .u16 b, .int .u16 c] t))
      fun e w' => e = .returned (.int .u16 (Ck.fold (a + b + c))) ∧ w' = w.alloc (.cells #[.int .u16 a, .int .u16 b, .int .u16 c] t) := by
  have h := join_row ⟨w.heap.size, 0, none⟩ 3 [a, b, c] _ (by simp) (reads_new3 w t a b c) (by intro z hz; simp at hz; omega)
  rw [Ck.usum3 a b c a0 a1 b0 b1 c0 c1] at h
  exact h
theorem join2 (w : World) (t : TypeId) (a b : Int) (a0 : 0 ≤ a) (a1 : a ≤ 65535) (b0 : 0 ≤ b) (b1 : b ≤ 65535) :
    Calls Try.prog 17 #[.slice (some ⟨w.heap.size, 0, none⟩) 2 2] (w.alloc (.cells #[.int .u16 a, .int .u16 b] t))
      fun e w' => e = .returned (.int .u16 (Ck.fold (a + b))) ∧ w' = w.alloc (.cells #[.int .u16 a, .int .u16 b] t) := by
  have h := join_row ⟨w.heap.size, 0, none⟩ 2 [a, b] _ (by simp) (reads_new2 w t a b) (by intro z hz; simp at hz; omega)
  rw [Ck.usum2 a b a0 a1 b0 b1] at h
  exact h

set_option maxHeartbeats 400000 in
theorem update_any (c o n : Int) (w : World) (c0 : 0 ≤ c) (c1 : c ≤ 65535) (o0 : 0 ≤ o) (o1 : o ≤ 65535) (n0 : 0 ≤ n) (n1 : n ≤ 65535) :
    Calls Try.prog 19 #[.int .u16 c, .int .u16 o, .int .u16 n] w fun e w' => e = .returned (.int .u16 (Ck.upd c o n)) ∧ Below w.heap.size w w' := by
  go_enter Try.func19, Try.ntmps19
  go_wp2_with fail
  refine (rest_any _ _ c0 c1).mono ?_
  rintro e w' ⟨rfl, rfl⟩
  go_wp2_with fail
  refine (rest_any _ _ o0 o1).mono ?_
  rintro e w' ⟨rfl, rfl⟩
  go_wp2_with fail
  refine (join3 _ _ _ _ _ (by omega) (by omega) (by omega) (by omega) n0 n1).mono ?_
  rintro e w2 ⟨rfl, rfl⟩
  go_wp2_with fail
  refine (rest_any _ _ (Ck.fold_lo _) (Ck.fold_hi _)).mono ?_
  rintro e w2 ⟨rfl, rfl⟩
  go_wp2_with fail
  go_ret
  exact ⟨rfl, (Below.refl _ _).alloc (Nat.le_refl _) _⟩

/-- One behind the other. -/
theorem Below.then {a b c : World} (h : Below a.heap.size a b) (k : Below b.heap.size b c) : Below a.heap.size a c := h.trans (k.mono h.size)

set_option maxHeartbeats 400000 in
theorem update32_any (c o n : Int) (w : World) (c0 : 0 ≤ c) (c1 : c ≤ 65535) (o0 : 0 ≤ o) (o1 : o ≤ 4294967295) (n0 : 0 ≤ n) (n1 : n ≤ 4294967295) :
    Calls Try.prog 21 #[.int .u16 c, .int .u32 o, .int .u32 n] w fun e w' => e = .returned (.int .u16 (Ck.upd (Ck.upd c (o / 65536) (n / 65536)) (o % 65536) (n % 65536))) ∧ Below w.heap.size w w' := by
  go_enter Try.func21, Try.ntmps21
  go_wp2_with fail
  refine (upper_any _ _ o0 o1).mono ?_
  rintro e w' ⟨rfl, rfl⟩
  go_wp2_with fail
  refine (upper_any _ _ n0 n1).mono ?_
  rintro e w' ⟨rfl, rfl⟩
  go_wp2_with fail
  refine (update_any _ _ _ _ c0 c1 (by omega) (by omega) (by omega) (by omega)).mono ?_
  rintro e w1 ⟨rfl, hb1⟩
  have HB := hide hb1
  clear hb1
  go_wp2_with fail
  refine (lower_any _ _ o0 o1).mono ?_
  rintro e w1 ⟨rfl, rfl⟩
  go_wp2_with fail
  refine (lower_any _ _ n0 n1).mono ?_
  rintro e w1 ⟨rfl, rfl⟩
  go_wp2_with fail
  refine (update_any _ _ _ _ (Ck.upd_lo _ _ _) (Ck.upd_hi _ _ _) (by omega) (by omega) (by omega) (by omega)).mono ?_
  rintro e w2 ⟨rfl, hb2⟩
  go_wp2_with fail
  go_ret
  exact ⟨rfl, Below.then (unhide HB) hb2⟩
end Go.Proofs.Ythhhedpnofommaa
