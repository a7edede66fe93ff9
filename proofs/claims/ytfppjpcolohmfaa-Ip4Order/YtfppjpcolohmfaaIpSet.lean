/- Twelve numbers stored at the head of a block, and what lies there then. -/
import Derived.Test.YtfppjpcolohmfaaIpFix
namespace Go.Proofs.Ytfppjpcolohmfaa
open Go.RowKit

/-- Twelve numbers are stored at the head of a block. -/
def set12 (W : World) (b : Nat) (F : Nat → Int) : World := (((((((((((W.setCell ⟨b, 0, none⟩ (.int .i64 (F 0))).setCell ⟨b, 1, none⟩ (.int .i64 (F 1))).setCell ⟨b, 2, none⟩ (.int .i64 (F 2))).setCell ⟨b, 3, none⟩ (.int .i64 (F 3))).setCell ⟨b, 4, none⟩ (.int .i64 (F 4))).setCell ⟨b, 5, none⟩ (.int .i64 (F 5))).setCell ⟨b, 6, none⟩ (.int .i64 (F 6))).setCell ⟨b, 7, none⟩ (.int .i64 (F 7))).setCell ⟨b, 8, none⟩ (.int .i64 (F 8))).setCell ⟨b, 9, none⟩ (.int .i64 (F 9))).setCell ⟨b, 10, none⟩ (.int .i64 (F 10))).setCell ⟨b, 11, none⟩ (.int .i64 (F 11))
theorem set12_heap (W : World) (b : Nat) (F : Nat → Int) (k : Nat) (h : k ≠ b) : (set12 W b F).heap[k]? = W.heap[k]? := by
  unfold set12
  rw [Below.heap_setCell _ _ _ _ h, Below.heap_setCell _ _ _ _ h, Below.heap_setCell _ _ _ _ h, Below.heap_setCell _ _ _ _ h, Below.heap_setCell _ _ _ _ h, Below.heap_setCell _ _ _ _ h, Below.heap_setCell _ _ _ _ h, Below.heap_setCell _ _ _ _ h, Below.heap_setCell _ _ _ _ h, Below.heap_setCell _ _ _ _ h, Below.heap_setCell _ _ _ _ h, Below.heap_setCell _ _ _ _ h]
theorem set12_below {B : Nat} {U W : World} (h : Below B U W) (b : Nat) (F : Nat → Int) (hb : B ≤ b) : Below B U (set12 W b F) :=
  ((((((((((((h).setCell (p := ⟨b, 0, none⟩) hb _).setCell (p := ⟨b, 1, none⟩) hb _).setCell (p := ⟨b, 2, none⟩) hb _).setCell (p := ⟨b, 3, none⟩) hb _).setCell (p := ⟨b, 4, none⟩) hb _).setCell (p := ⟨b, 5, none⟩) hb _).setCell (p := ⟨b, 6, none⟩) hb _).setCell (p := ⟨b, 7, none⟩) hb _).setCell (p := ⟨b, 8, none⟩) hb _).setCell (p := ⟨b, 9, none⟩) hb _).setCell (p := ⟨b, 10, none⟩) hb _).setCell (p := ⟨b, 11, none⟩) hb _
theorem fix_step {W : World} {b : Nat} {F G : Nat → Int} (j : Nat) (h : FixAt W b fun i => if i < j then F i else G i) : FixAt (W.setCell ⟨b, j, none⟩ (.int .i64 (F j))) b fun i => if i < j + 1 then F i else G i := by
  intro i hi
  by_cases e : i = j
  · subst e
    simp only [show i < i + 1 from Nat.lt_succ_self i, if_true]
    exact World.cell?_setCell_same _ _ _ (h i hi)
  · rw [World.cell?_setCell_other _ _ _ _ (fun h => by cases h; omega), h i hi]
    by_cases h1 : i < j
    · simp only [h1, show i < j + 1 from by omega, if_true]
    · simp only [h1, show ¬ i < j + 1 from by omega, if_false]
theorem set12_fix {W : World} {b : Nat} {G : Nat → Int} (F : Nat → Int) (h : FixAt W b G) : FixAt (set12 W b F) b F := by
  have h0 : FixAt W b fun i => if i < 0 then F i else G i := fun i hi => by simpa using h i hi
  have := fix_step 11 (fix_step 10 (fix_step 9 (fix_step 8 (fix_step 7 (fix_step 6 (fix_step 5 (fix_step 4 (fix_step 3 (fix_step 2 (fix_step 1 (fix_step 0 h0)))))))))))
  intro i hi
  have e := this i hi
  simp only [show i < 11 + 1 from by omega, if_true] at e
  exact e
theorem cell_putObj {W : World} {l : Nat} {o : Obj} {p : Addr} (h : p.block ≠ l) : (W.putObj l o).cell? p = W.cell? p := World.cell?_of_block (w := W) (World.putObj_heap_other h)
theorem FixAt.putObj {W : World} {b l : Nat} {F : Nat → Int} (h : FixAt W b F) (hl : b ≠ l) (o : Obj) : FixAt (W.putObj l o) b F := fun k hk => (cell_putObj hl).trans (h k hk)

end Go.Proofs.Ytfppjpcolohmfaa
