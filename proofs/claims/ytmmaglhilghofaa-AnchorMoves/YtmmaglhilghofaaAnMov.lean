/- What the law on who is told another one holds on to: the anchor, and who each key was told. -/
import Derived.Test.YtmmaglhilghofaaAnCnt
import Derived.Lib.MinMax
namespace Go.Proofs.Ytmmaglhilghofaa
open Go.ChangeShapes Go.WideShapes Go.ChangeAt Go.RowKit An

/-- The keys. -/
def keyAt (zs : List Int) (j : Nat) : Sp.B := BitVec.ofNat 64 (zs.getD j 0).toNat
theorem keyAt_nn (zs : List Int) (j : Nat) (h0 : 0 ≤ zs.getD j 0) (h1 : zs.getD j 0 < 18446744073709551616) : Sp.nn (keyAt zs j) = zs.getD j 0 := by
  unfold keyAt
  rw [Sp.nn_ofNat _ (by omega)]
  omega
def toldAt (s : An) (zs : List Int) (j : Nat) : Nat := bucket s (gmix (keyAt zs j))
def wl (s : An) (zs : List Int) (m : Nat) : List Value := (List.range m).map fun (j : Nat) => Value.int .i64 (toldAt s zs j : Int)
theorem wl_succ (s : An) (zs : List Int) (m : Nat) : wl s zs (m + 1) = wl s zs m ++ [.int .i64 (toldAt s zs m : Int)] := by simp [wl, List.range_succ]

structure Mov (w : World) (base r : Nat) (W : World) (b : Bk) (v : Value) (s : An) (vw : Value) (s0 : An) (zs : List Int) (m : Nat) : Prop where
  at_ : AnAt hdA base W b v s
  reach : An.Reach r s
  own : W.ownsRow w.heap.size 3 1 vw m (wl s0 zs m)
  off : ∀ x ∈ feet b v, vw.ownBlock ≠ some x
  below : Below w.heap.size w W
  wb : w.heap.size ≤ base
section
variable {w W W' : World} {base r m : Nat} {b : Bk} {v v' vw vw' : Value} {s s' s0 : An} {zs : List Int}
theorem Mov.on (h : Mov w base r W b v s vw s0 zs m) (hb : Below W.heap.size W W') : Mov w base r W' b v s vw s0 zs m :=
  ⟨h.at_.on hb, h.reach, own_of_block h.own fun g hg => hb.block g (h.own.lt g hg).2, h.off, Below.trans h.below (hb.mono h.below.size), h.wb⟩
theorem Mov.drewN (h : Mov w base r W b v s vw s0 zs m) (n : Nat) : Mov w base r (W.drewN n) b v s vw s0 zs m := h.on (below_drewN (Below.refl _ _) n)
theorem Mov.went (h : Mov w base r W b v s vw s0 zs m) (hA : AnAt hdA base W' b v' s') (hw : Went W W' b v v') (hR : An.Reach r s') : Mov w base r W' b v' s' vw s0 zs m :=
  ⟨hA, hR, own_of_block h.own fun g hg => hw.but.block g (h.own.lt g hg).2 fun hx => h.off g hx hg, fun x hx e => by
    rcases hw.feet x hx with h' | h'
    · exact h.off x h' e
    · have := (h.own.lt x e).2
      omega, hw.below h.below h.at_ h.wb, h.wb⟩
theorem Mov.push (h : Mov w base r W b v s vw s zs m) (hg : (W.alloc (.cells #[.int .i64 (toldAt s zs m : Int)] 3)).grownBy W' vw.ownBlock) (ho : W'.ownsRow w.heap.size 3 1 vw' (m + 1) (wl s zs m ++ [.int .i64 (toldAt s zs m : Int)])) (hv : vw'.ownBlock = vw.ownBlock ∨ vw'.ownBlock = some (W.heap.size + 1)) :
    Mov w base r W' b v s vw' s zs (m + 1) := by
  have hB : Below W.heap.size W (W.alloc (.cells #[.int .i64 (toldAt s zs m : Int)] 3)) := (Below.refl _ _).alloc (Nat.le_refl _) _
  have h1 := h.on hB
  have hs := h.below.size
  refine ⟨h1.at_.of_blocks fun x hx => hg.block x (h1.at_.lt x hx).2 fun e => h.off x hx e.symm, h.reach, by rw [wl_succ]; exact ho, fun x hx e => ?_, h1.below.grown hg (by rw [World.size_alloc]; omega) (fun j e => (h.own.lt j e).1), h.wb⟩
  rcases hv with hv | hv
  · exact h.off x hx (hv ▸ e)
  · have := (h.at_.lt x hx).2
    have := Option.some.inj (hv.symm.trans e)
    omega
theorem Mov.cell (h : Mov w base r W b v s vw s0 zs m) (i : Nat) (hi : i < m) : ∃ g cap, vw = .slice (some ⟨g, 0, none⟩) m cap ∧ W.cell? ⟨g, i, none⟩ = some (.int .i64 (toldAt s0 zs i : Int)) := by
  obtain ⟨q, rfl⟩ : ∃ q, m = q + 1 := ⟨m - 1, by omega⟩
  obtain ⟨g, cap, rfl⟩ := own_succ h.own
  refine ⟨g, cap, rfl, ?_⟩
  have e := h.own.cells (g := g) rfl i (.int .i64 (toldAt s0 zs i : Int)) (by unfold wl; rw [List.getElem?_map, List.getElem?_range hi]; rfl)
  rw [show (⟨g, 0, none⟩ : Addr).add i = ⟨g, i, none⟩ by unfold Addr.add; split <;> simp_all] at e
  exact e
end

namespace An
/-- The three ways of Remove. -/
theorem rem_cases {r : Nat} {s : An} (h : Reach r s) (x : Nat) (hx : x < r) : (¬ Works s x ∧ remE s (x : Int) = 19 ∧ remS s (x : Int) = s) ∨ (Works s x ∧ s.n = 1 ∧ remE s (x : Int) = 15 ∧ remS s (x : Int) = s) ∨ (Works s x ∧ 2 ≤ s.n ∧ remE s (x : Int) = 0 ∧ remS s (x : Int) = remove s x) := by
  have hroom := h.room
  have hn := h.wf.n1
  by_cases hw : Works s x
  · have hok : RemOk s (x : Int) := ⟨by omega, by omega, hw.2⟩
    by_cases h1 : s.n = 1
    · exact .inr (.inl ⟨hw, h1, by unfold remE; rw [if_pos hok, if_pos h1], by unfold remS; rw [if_neg fun h => h.2 h1]⟩)
    · exact .inr (.inr ⟨hw, by omega, by unfold remE; rw [if_pos hok, if_neg h1], by unfold remS; rw [if_pos ⟨hok, h1⟩]; rfl⟩)
  · have hok : ¬ RemOk s (x : Int) := fun h => hw ⟨by omega, h.2.2⟩
    exact .inl ⟨hw, by unfold remE; rw [if_neg hok], by unfold remS; rw [if_neg fun h => hok h.1]⟩
theorem add_back {r : Nat} {s : An} (h : Reach r s) (x : Nat) (hx : Works s x) (h2 : 2 ≤ s.n) : addB (remove s x) = (x : Int) ∧ addE (remove s x) = 0 ∧ addS (remove s x) = s :=
  ⟨rfl, rfl, back_remove h.wf hx h2⟩
end An
end Go.Proofs.Ytmmaglhilghofaa
