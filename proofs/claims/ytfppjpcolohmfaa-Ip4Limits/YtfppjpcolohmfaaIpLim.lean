/- The headers that the statement about limits builds. -/
import Derived.Test.YtfppjpcolohmfaaIpMake
namespace Go.Proofs.Ytfppjpcolohmfaa
open Go.RowKit

def maxH : Hd := ⟨255, 65535, 7, 8191, 255, 255, 4294967295, 4294967295, ⟨#[]⟩⟩
theorem maxW : maxH.Wf := ⟨by decide, by decide, by decide, by decide, by decide, by decide, by decide, by decide, by decide⟩
theorem maxR : RightP maxH := ⟨by decide, by decide, by decide, by decide, by decide, by decide, by decide, by decide, opts_nil⟩
theorem maxB : Built maxH ⟨#[]⟩ := ⟨maxR, maxW, by decide⟩
/-- One field is another one. -/
def setF (h : Hd) (x : Int) : Nat → Hd
  | 0 => { h with tos := x } | 1 => { h with id := x } | 2 => { h with flags := x } | 3 => { h with frag := x } | 4 => { h with ttl := x } | _ => { h with proto := x }
theorem setF_at {W : World} {b : Nat} {h : Hd} (x : Int) (j : Nat) (hj : j < 6) (hh : HdAt W b h) : HdAt (W.setCell ⟨b, j, none⟩ (.int .i64 x)) b (setF h x j) := by
  have hjs : j = 0 ∨ j = 1 ∨ j = 2 ∨ j = 3 ∨ j = 4 ∨ j = 5 := by omega
  intro k hk
  by_cases e : k = j
  · subst e
    rw [World.cell?_setCell_same _ _ _ (hh k hk)]
    rcases hjs with rfl | rfl | rfl | rfl | rfl | rfl <;> rfl
  · rw [World.cell?_setCell_other _ _ _ _ (ne_addr (by omega)), hh k hk]
    rcases hjs with rfl | rfl | rfl | rfl | rfl | rfl <;> rcases nine hk with rfl | rfl | rfl | rfl | rfl | rfl | rfl | rfl | rfl <;> first | rfl | exact absurd rfl e
theorem HdAt.set {W : World} {b : Nat} {h : Hd} (hh : HdAt W b h) {p : Addr} (hp : p.block ≠ b) (v : Value) : HdAt (W.setCell p v) b h := fun k hk => by
  rw [World.cell?_setCell_other _ _ _ _ (fun e => hp (by rw [e]))]; exact hh k hk
theorem zeroR : RightP zeroHd := ⟨by decide, by decide, by decide, by decide, by decide, by decide, by decide, by decide, opts_nil⟩
theorem zeroW : zeroHd.Wf := ⟨by decide, by decide, by decide, by decide, by decide, by decide, by decide, by decide, by decide⟩
theorem buildE_zero (n : Nat) : decide (buildE zeroHd (zeroS n) = 0) = decide ((n : Int) ≤ 1480) := by
  have ht : btotal zeroHd (zeroS n) = 20 + n := by unfold btotal; rw [zeroS_size]; show (20 : Int) + 0 + n = _; omega
  unfold buildE
  rw [if_neg (by rw [rightP_to zeroR]; decide), ht]
  by_cases h : 1500 < 20 + (n : Int)
  · rw [if_pos h, decide_eq_false (by decide), decide_eq_false (by omega)]
  · rw [if_neg h, decide_eq_true rfl, decide_eq_true (by omega)]
end Go.Proofs.Ytfppjpcolohmfaa
