/- What the laws' loops go by: how many work, which works last; all come back; all but one go. -/
import Derived.Test.YtmmaglhilghofaaAnLoop
namespace Go.Proofs.Ytmmaglhilghofaa
open Go.ChangeShapes Go.WideShapes Go.ChangeAt Go.RowKit An

namespace An
/-- The last one below k that works. -/
def lastW (A : Nat → Nat) : Nat → Int
  | 0 => -1
  | k + 1 => if A k = 0 then (k : Int) else lastW A k
theorem lastW_lt (A : Nat → Nat) : ∀ k : Nat, lastW A k < k ∧ -1 ≤ lastW A k
  | 0 => ⟨by show (-1 : Int) < ((0 : Nat) : Int); decide, by show (-1 : Int) ≤ -1; decide⟩
  | k + 1 => by
    have ih := lastW_lt A k
    unfold lastW
    split <;> omega
theorem cnt_le (A : Nat → Nat) : ∀ k, cnt A k ≤ k
  | 0 => Nat.le_refl _
  | k + 1 => by
    have ih := cnt_le A k
    unfold cnt
    split <;> omega
theorem add_more {r : Nat} {s : An} (h : Reach r s) (hn : s.n < r) : ∃ t b, addB s = (b : Nat) ∧ addE s = 0 ∧ addS s = t ∧ Reach r t ∧ t.n = s.n + 1 ∧ Works t b := by
  rcases add_last h with ⟨_, h2, _⟩ | ⟨t, b, h1, h2, h3, h4, h5, h6, h7, h8, _⟩
  · rw [h2] at hn; exact absurd hn (Nat.lt_irrefl _)
  · refine ⟨t, b, h6, h7, h8, h3, ?_, h4⟩
    have : s.n = t.n - 1 := by rw [h2]; rfl
    omega
theorem add_none {r : Nat} {s : An} (h : Reach r s) (hn : s.n = r) : s = allAn r ∧ addE s = 16 ∧ addS s = s ∧ addB s = 0 := by
  rcases add_last h with ⟨_, h2, h3, h4, h5⟩ | ⟨t, b, h1, h2, h3, h4, h5, h6, h7, h8, _⟩
  · exact ⟨h2, h4, h5, h3⟩
  · have hs := h.stack
    rw [h1, List.length_cons] at hs
    omega
/-- All below i have gone, but 0. -/
def Down (r i : Nat) (s : An) : Prop := Reach r s ∧ s.n + i = r + 1 ∧ ∀ b, b < r → (Works s b ↔ b = 0 ∨ i ≤ b)
theorem down_one {r : Nat} (h : 1 ≤ r) : Down r 1 (allAn r) := ⟨.full h, rfl, fun b hb => ⟨fun _ => by omega, fun _ => ⟨hb, rfl⟩⟩⟩
theorem down_step {r i : Nat} {s : An} (h : Down r i s) (h1 : 1 ≤ i) (hi : i < r) : remE s (i : Int) = 0 ∧ Down r (i + 1) (remS s (i : Int)) := by
  obtain ⟨hR, hn, hw⟩ := h
  have hroom := hR.room
  have hwi : Works s i := (hw i hi).2 (.inr (Nat.le_refl _))
  have hok : RemOk s (i : Int) := ⟨by omega, by have := hwi.1; omega, hwi.2⟩
  have e1 : remE s (i : Int) = 0 := by unfold remE; rw [if_pos hok, if_neg (by omega)]
  have e2 : remS s (i : Int) = remove s i := by unfold remS; rw [if_pos ⟨hok, by omega⟩]; rfl
  refine ⟨e1, ?_⟩
  rw [e2]
  refine ⟨.rem _ _ hR hwi (by omega), by show s.n - 1 + (i + 1) = r + 1; omega, fun b hb => ?_⟩
  have hwb := hw b hb
  by_cases e : b = i
  · subst e
    have : (remove s b).A b = s.n - 1 := upd_same _ _ _
    constructor
    · intro h; have := h.2; omega
    · intro h; omega
  · have : (remove s i).A b = s.A b := upd_other _ _ _ _ e
    have hx : Works (remove s i) b ↔ Works s b := by unfold Works; rw [this]; exact Iff.rfl
    rw [hx, hwb]
    omega
theorem down_bucket {r i : Nat} {s : An} (h : Down r (i + 1) s) (h1 : 1 ≤ i) (hi : i < r) (g : Nat → Nat) : bucket s g ≠ i := fun e => by
  have hb := bucket_works h.1.wf g
  rw [e] at hb
  have := (h.2.2 i hi).1 hb
  omega
theorem down_end {r : Nat} {s : An} (h : Down r r s) (h1 : 1 ≤ r) : remE s 0 = 15 ∧ remS s 0 = s ∧ ∀ g, bucket s g = 0 := by
  obtain ⟨hR, hn, hw⟩ := h
  have hroom := hR.room
  have h0 : Works s 0 := (hw 0 (by omega)).2 (.inl rfl)
  have hok : RemOk s 0 := ⟨by decide, by have := h0.1; omega, h0.2⟩
  refine ⟨by unfold remE; rw [if_pos hok, if_pos (by omega)], by unfold remS; rw [if_neg fun h => h.2 (by omega)], fun g => ?_⟩
  have hb := bucket_works hR.wf g
  have hlt : bucket s g < r := by have := hb.1; omega
  have := (hw _ hlt).1 hb
  omega
end An

/-- What stays, while the anchor is changed behind a loop that ranged over Working: the result's variable, the loop's mark. -/
structure Inv (w : World) (base r Y D : Nat) (W : World) (b : Bk) (v : Value) (s : An) : Prop where
  at_ : AnAt hdA base W b v s
  reach : An.Reach r s
  res : Row W Y [.bool false]
  mark : W.heap[D]? = some (.deferred (some []))
  off : D ∉ feet b v
  below : Below w.heap.size w W
  yb : Y < base
  wb : w.heap.size ≤ base
section
variable {w W W' : World} {base r Y D : Nat} {b : Bk} {v v' : Value} {s s' : An}
theorem Inv.went (h : Inv w base r Y D W b v s) (hA : AnAt hdA base W' b v' s') (hw : Went W W' b v v') (hR : An.Reach r s') : Inv w base r Y D W' b v' s' := by
  have hD : D < W.heap.size := (Array.getElem?_eq_some_iff.1 h.mark).1
  refine ⟨hA, hR, h.res.but hw.but fun hx => ?_, (hw.but.block D hD h.off).trans h.mark, fun hx => ?_, hw.below h.below h.at_ h.wb, h.yb, h.wb⟩
  · have := (h.at_.lt Y hx).1
    have := h.yb
    omega
  · rcases hw.feet D hx with h' | h'
    · exact h.off h'
    · omega
theorem Inv.on (h : Inv w base r Y D W b v s) (hb : Below W.heap.size W W') : Inv w base r Y D W' b v s :=
  ⟨h.at_.on hb, h.reach, h.res.on' hb, (hb.block D (Array.getElem?_eq_some_iff.1 h.mark).1).trans h.mark, h.off, Below.trans h.below (hb.mono h.below.size), h.yb, h.wb⟩
theorem Inv.drewN (h : Inv w base r Y D W b v s) (n : Nat) : Inv w base r Y D (W.drewN n) b v s := h.on (below_drewN (Below.refl _ _) n)
/-- The result is written, and the mark is taken. -/
theorem Inv.fin (h : Inv w base r Y D W b v s) (hY : w.heap.size ≤ Y) (x : Bool) : (W.setCell ⟨Y, 0, none⟩ (.bool x)).heap[D]? = some (.deferred (some [])) ∧ (∀ o, (loadVar 4 ⟨Y, 0, none⟩).run Try.prog ((W.setCell ⟨Y, 0, none⟩ (.bool x)).putObj D o) = .ok (.bool x) ((W.setCell ⟨Y, 0, none⟩ (.bool x)).putObj D o)) ∧ ∀ o, w.heap.size ≤ D → Below w.heap.size w ((W.setCell ⟨Y, 0, none⟩ (.bool x)).putObj D o) := by
  have hne : Y ≠ D := fun e => by
    obtain ⟨t, hr⟩ := h.res
    rw [e, h.mark] at hr
    cases hr
  refine ⟨(Below.heap_setCell _ _ _ _ (fun e => hne e.symm)).trans h.mark, fun o => load_bool (cell_put ((h.res.set 0 (.bool x)).cell 0 _ rfl) hne), fun o hD => below_put (h.below.setCell (p := ⟨Y, 0, none⟩) hY _) hD _⟩
end
end Go.Proofs.Ytmmaglhilghofaa
