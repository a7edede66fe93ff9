/- A pool, and beside it the row of those who were chosen. -/
import Derived.Test.YtckkdgifjgkoaaaPqMov
import Derived.Lib.MinMax
import Derived.Maps.AppendAt
namespace Go.Proofs.Ytckkdgifjgkoaaa
open Go.ChangeShapes Go.WideShapes Go.ChangeAt Go.RowKit Go.Maps An Sp
/-- Who is chosen of n, for the client at a place. -/
def wasAt (n : Nat) (zs : List Int) (j : Nat) : Nat := bucket (An.start 16 n) (gmix (Sp.hash key0 (keyS (tpN (zs.getD j 0))))) + 1
def wasL (n : Nat) (zs : List Int) (m : Nat) : List Value := (List.range m).map fun (j : Nat) => Value.int .i64 (wasAt n zs j : Int)
theorem wasL_succ (n : Nat) (zs : List Int) (m : Nat) : wasL n zs (m + 1) = wasL n zs m ++ [.int .i64 (wasAt n zs m : Int)] := by simp [wasL, List.range_succ]
structure Mvp (w : World) (base : Nat) (W : World) (b : QBk) (v : Value) (p : Pl) (vw : Value) (n : Nat) (zs : List Int) (m : Nat) : Prop where
  run : Run w base key0 16 W b v p
  own : W.ownsRow w.heap.size 3 1 vw m (wasL n zs m)
  off : ∀ x ∈ qfeet b v, vw.ownBlock ≠ some x
section
variable {w W W' : World} {base n m : Nat} {b : QBk} {v v' vw vw' : Value} {p p' : Pl} {zs : List Int}
theorem Mvp.on (h : Mvp w base W b v p vw n zs m) (hb : Below W.heap.size W W') : Mvp w base W' b v p vw n zs m :=
  ⟨h.run.on hb, own_of_block h.own fun g hg => hb.block g (h.own.lt g hg).2, h.off⟩
theorem Mvp.drewN (h : Mvp w base W b v p vw n zs m) (j : Nat) : Mvp w base (W.drewN j) b v p vw n zs m := h.on (below_drewN (Below.refl _ _) j)
theorem Mvp.went (h : Mvp w base W b v p vw n zs m) (hr : Run w base key0 16 W' b v' p') (hg : QWent W W' b v v') : Mvp w base W' b v' p' vw n zs m :=
  ⟨hr, own_of_block h.own fun g hgo => hg.but.block g (h.own.lt g hgo).2 fun hx => h.off g hx hgo, fun x hx e => by
    rcases hg.new x hx with h' | h'
    · exact h.off x h' e
    · have := (h.own.lt x e).2
      omega⟩
theorem Mvp.push (h : Mvp w base W b v p vw n zs m) (hg : (W.alloc (.cells #[.int .i64 (wasAt n zs m : Int)] 3)).grownBy W' vw.ownBlock) (ho : W'.ownsRow w.heap.size 3 1 vw' (m + 1) (wasL n zs m ++ [.int .i64 (wasAt n zs m : Int)])) (hv : vw'.ownBlock = vw.ownBlock ∨ vw'.ownBlock = some (W.heap.size + 1)) :
    Mvp w base W' b v p vw' n zs (m + 1) := by
  have hB : Below W.heap.size W (W.alloc (.cells #[.int .i64 (wasAt n zs m : Int)] 3)) := (Below.refl _ _).alloc (Nat.le_refl _) _
  have h1 := h.on hB
  have hs := h.run.below.size
  refine ⟨⟨h1.run.at_.of_blocks fun x hx => hg.block x (h1.run.lt x hx).2 fun e => h.off x hx e.symm, h.run.inv, h1.run.below.grown hg (by rw [World.size_alloc]; omega) (fun j e => (h.own.lt j e).1), h.run.wb, h.run.hr, h.run.hk⟩, by rw [wasL_succ]; exact ho, fun x hx e => ?_⟩
  rcases hv with hv | hv
  · exact h.off x hx (hv ▸ e)
  · have := (h.run.lt x hx).2
    have := Option.some.inj (hv.symm.trans e)
    omega
theorem Mvp.cell (h : Mvp w base W b v p vw n zs m) (i : Nat) (hi : i < m) : ∃ g cap, vw = .slice (some ⟨g, 0, none⟩) m cap ∧ W.cell? ⟨g, i, none⟩ = some (.int .i64 (wasAt n zs i : Int)) := by
  obtain ⟨q, rfl⟩ : ∃ q, m = q + 1 := ⟨m - 1, by omega⟩
  obtain ⟨g, cap, rfl⟩ := own_succ h.own
  refine ⟨g, cap, rfl, ?_⟩
  have e := h.own.cells (g := g) rfl i (.int .i64 (wasAt n zs i : Int)) (by unfold wasL; rw [List.getElem?_map, List.getElem?_range hi]; rfl)
  rw [show (⟨g, 0, none⟩ : Addr).add i = ⟨g, i, none⟩ by unfold Addr.add; split <;> simp_all] at e
  exact e
end
end Go.Proofs.Ytckkdgifjgkoaaa
