/- The chapter's own examples, ahead of each law. -/
import Derived.Test.YtbncjinkojeioaaCuLaw
namespace Go.Proofs.Ytbncjinkojeioaa
open Go.ChangeShapes Go.WideShapes Go.ChangeAt Go.RowKit Sp Cu

/-- The one at the cursor is not used. -/
theorem tk_here {s : Cu} (i : Nat) (ha : s.at_ = i) (hi : i < s.n) (hu : s.u i = false) : Tk s i true (s.put i) := .one ⟨hi, hu, .inl ⟨by omega, fun k h1 h2 => by omega⟩⟩
def x1 : Cu := (newCu 2).put 0
def x2 : Cu := x1.put 1
def x3 : Cu := x2.cut 0
theorem ex1 : Tk (newCu 2) 0 true x1 := tk_here 0 rfl (by decide) rfl
theorem ex2 : Tk x1 1 true x2 := tk_here 1 rfl (by decide) rfl
theorem ex3 : Tk x2 0 false x2 := .none fun i hi => by
  have : i = 0 ∨ i = 1 := by have : i < 2 := hi; omega
  rcases this with rfl | rfl <;> rfl
set_option maxHeartbeats 1000000 in
theorem examples_any (w : World) :
    Calls Try.prog 7 #[] w fun e w' => e = .returned (.bool true) ∧ Below w.heap.size w w' := by
  have hn := new_cur 2 (by decide) (by decide) w w (Below.refl _ _)
  have hb := fun W => new_bad 0 (by decide) W
  go_enter Try.func7, Try.ntmps7
  go_wp2_with fail
  refine hn.mono ?_
  rintro e w1 ⟨p, rfl, h1⟩
  have H1 : Shut _ := ⟨h1⟩
  clear h1 hn
  go_wp2_with fail
  refine (hb w1).mono ?_
  rintro e w1' ⟨rfl, rfl⟩
  clear hb
  go_wp2_with fail
  refine (H1.out.take ex1).mono ?_
  rintro e w2 ⟨rfl, h2⟩
  have H2 : Shut _ := ⟨h2⟩
  clear h2 H1
  go_wp2_with fail
  refine (H2.out.take ex2).mono ?_
  rintro e w3 ⟨rfl, h3⟩
  have H3 : Shut _ := ⟨h3⟩
  clear h3 H2
  go_wp2_with fail
  refine (H3.out.take ex3).mono ?_
  rintro e w4 ⟨rfl, h4⟩
  have H4 : Shut _ := ⟨h4⟩
  clear h4 H3
  go_wp2_with fail
  refine (H4.out.free 0 true rfl).mono ?_
  rintro e w5 ⟨rfl, h5⟩
  have H5 : Shut (Cur w w5 p x3) := ⟨h5⟩
  clear h5 H4
  go_wp2_with fail
  refine (H5.out.free 0 false rfl).mono ?_
  rintro e w6 ⟨rfl, h6⟩
  have H6 : Shut (Cur w w6 p x3) := ⟨h6⟩
  clear h6 H5
  go_wp2_with fail
  refine (H6.out.used 1 true rfl).mono ?_
  rintro e w7 ⟨rfl, rfl⟩
  go_wp2_with fail
  refine (H6.out.len 1 rfl).mono ?_
  rintro e w7 ⟨rfl, rfl⟩
  go_wp2_with fail
  go_ret
  exact ⟨rfl, H6.out.below⟩
end Go.Proofs.Ytbncjinkojeioaa
