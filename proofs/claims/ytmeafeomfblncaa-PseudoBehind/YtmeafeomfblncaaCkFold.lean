/- What Fold and rest of package cksum compute, and what they lean on: one contract a function. -/
import Derived.Test.YtmeafeomfblncaaChecked
import Derived.Test.YtmeafeomfblncaaCkMath
import Derived.OpenShut
import Derived.WalkSpells
import Derived.WalkLawsBesides
import Derived.Handy
import Derived.Below
namespace Go.Proofs.Ytmeafeomfblncaa
open Go.ChangeShapes Go.WideShapes Go.ChangeAt Go.RowKit

theorem hide {p : Prop} (h : p) : Hid p := h
theorem unhide {p : Prop} (h : Hid p) : p := h
theorem ret_int {k : IntKind} {a b : Int} (h : a = b) : Ending.returned (.int k a) = .returned (.int k b) := by rw [h]

set_option maxHeartbeats 400000 in
theorem fold_any (n : Int) (w : World) (h0 : 0 ≤ n) (h1 : n ≤ 18446744073709551615) :
    Calls Try.prog 42 #[.int .u64 n] w fun e w' => e = .returned (.int .u16 (Ck.fold n)) ∧ w' = w := by
  go_enter Try.func42, Try.ntmps42
  go_wp2
  go_loop [0] (fun t => ∃ m : Int, 0 ≤ m ∧ m ≤ 18446744073709551615 ∧ Ck.fold m = Ck.fold n ∧ t = .int .u64 m) (fun t => (intOf t).toNat)
  case atStart => exact ⟨n, h0, h1, rfl, rfl⟩
  case round =>
    obtain ⟨m, hm0, hm1, hm, rfl⟩ := hrel
    have HM : Hid (Ck.fold m = Ck.fold n) := hm
    clear hm
    by_cases hlt : 65535 < m
    · have ha := Ck.and_word m hm0 hm1
      go_wp2
      go_round
      case rel => exact ⟨m % 65536 + m / 65536, by omega, by omega, (Ck.fold_step m hlt).trans HM.out, by go_num⟩
      case measure => simp [intOf]; omega
    · have HF : Hid (Ck.fold m = m) := Ck.fold_small m hm0 (by omega)
      go_wp2
      go_ret
      exact ⟨ret_int (by rw [← HM.out, HF.out]), rfl⟩

set_option maxHeartbeats 400000 in
theorem rest_any (n : Int) (w : World) (h0 : 0 ≤ n) (h1 : n ≤ 65535) :
    Calls Try.prog 36 #[.int .u16 n] w fun e w' => e = .returned (.int .u16 (65535 - n)) ∧ w' = w := by
  go_enter Try.func36, Try.ntmps36
  go_wp2
  go_ret
  exact ⟨rfl, rfl⟩

/-- What Join reads: the first len cells from x on are the numbers zs. -/
def Reads (k : IntKind) (w : World) (x : Addr) (zs : List Int) : Prop := ∀ i, i < zs.length → w.cell? (x.add i) = some (.int k (zs.getD i 0))

theorem reads_new3 (w : World) (t : TypeId) (a b c : Int) : Reads .u16 (w.alloc (.cells #[.int .u16 a, .int .u16 b, .int .u16 c] t)) ⟨w.heap.size, 0, none⟩ [a, b, c] := by
  intro i hi
  have h3 : i = 0 ∨ i = 1 ∨ i = 2 := by simp at hi; omega
  rcases h3 with rfl | rfl | rfl <;> simp [go_sem, Addr.add]
theorem reads_new2 (w : World) (t : TypeId) (a b : Int) : Reads .u16 (w.alloc (.cells #[.int .u16 a, .int .u16 b] t)) ⟨w.heap.size, 0, none⟩ [a, b] := by
  intro i hi
  have h3 : i = 0 ∨ i = 1 := by simp at hi; omega
  rcases h3 with rfl | rfl <;> simp [go_sem, Addr.add]
/-- One behind the other. -/
theorem Below.then {a b c : World} (h : Below a.heap.size a b) (k : Below b.heap.size b c) : Below a.heap.size a c := h.trans (k.mono h.size)

end Go.Proofs.Ytmeafeomfblncaa
