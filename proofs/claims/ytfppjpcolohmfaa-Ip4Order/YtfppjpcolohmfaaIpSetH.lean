/- A header stored at the head of a block, and what lies there then. -/
import Derived.Test.YtfppjpcolohmfaaIpHd
import Derived.Test.YtfppjpcolohmfaaIpSet
namespace Go.Proofs.Ytfppjpcolohmfaa
open Go.RowKit

/-- A header's nine cells. -/
def hcell (h : Hd) : Nat → Value
  | 0 => .int .i64 h.tos | 1 => .int .i64 h.id | 2 => .int .i64 h.flags | 3 => .int .i64 h.frag | 4 => .int .i64 h.ttl | 5 => .int .i64 h.proto | 6 => .int .u32 h.src | 7 => .int .u32 h.dst | _ => .string h.opts
def HdAt (W : World) (b : Nat) (h : Hd) : Prop := ∀ k, k < 9 → W.cell? ⟨b, k, none⟩ = some (hcell h k)
theorem HdAt.on {W W' : World} {b B : Nat} {h : Hd} (hh : HdAt W b h) (hb : Below B W W') (hB : b < B) : HdAt W' b h := fun k hk => (hb.cell (p := ⟨b, k, none⟩) hB).trans (hh k hk)
theorem HdAt.putObj {W : World} {b l : Nat} {h : Hd} (hh : HdAt W b h) (hl : b ≠ l) (o : Obj) : HdAt (W.putObj l o) b h := fun k hk => (cell_putObj hl).trans (hh k hk)
def setHd (W : World) (b : Nat) (h : Hd) : World := ((((((((W.setCell ⟨b, 0, none⟩ (.int .i64 h.tos)).setCell ⟨b, 1, none⟩ (.int .i64 h.id)).setCell ⟨b, 2, none⟩ (.int .i64 h.flags)).setCell ⟨b, 3, none⟩ (.int .i64 h.frag)).setCell ⟨b, 4, none⟩ (.int .i64 h.ttl)).setCell ⟨b, 5, none⟩ (.int .i64 h.proto)).setCell ⟨b, 6, none⟩ (.int .u32 h.src)).setCell ⟨b, 7, none⟩ (.int .u32 h.dst)).setCell ⟨b, 8, none⟩ (.string h.opts)
theorem setHd_heap (W : World) (b : Nat) (h : Hd) (k : Nat) (hk : k ≠ b) : (setHd W b h).heap[k]? = W.heap[k]? := by
  unfold setHd
  rw [Below.heap_setCell _ _ _ _ hk, Below.heap_setCell _ _ _ _ hk, Below.heap_setCell _ _ _ _ hk, Below.heap_setCell _ _ _ _ hk, Below.heap_setCell _ _ _ _ hk, Below.heap_setCell _ _ _ _ hk, Below.heap_setCell _ _ _ _ hk, Below.heap_setCell _ _ _ _ hk, Below.heap_setCell _ _ _ _ hk]
theorem setHd_below {B : Nat} {U W : World} (h : Below B U W) (b : Nat) (x : Hd) (hb : B ≤ b) : Below B U (setHd W b x) :=
  (((((((((h).setCell (p := ⟨b, 0, none⟩) hb _).setCell (p := ⟨b, 1, none⟩) hb _).setCell (p := ⟨b, 2, none⟩) hb _).setCell (p := ⟨b, 3, none⟩) hb _).setCell (p := ⟨b, 4, none⟩) hb _).setCell (p := ⟨b, 5, none⟩) hb _).setCell (p := ⟨b, 6, none⟩) hb _).setCell (p := ⟨b, 7, none⟩) hb _).setCell (p := ⟨b, 8, none⟩) hb _
theorem hd_step {W : World} {b : Nat} {f g : Nat → Value} (j : Nat) (v : Value) (hv : v = f j) (h : ∀ k, k < 9 → W.cell? ⟨b, k, none⟩ = some (if k < j then f k else g k)) : ∀ k, k < 9 → (W.setCell ⟨b, j, none⟩ v).cell? ⟨b, k, none⟩ = some (if k < j + 1 then f k else g k) := by
  intro i hi
  by_cases e : i = j
  · subst e
    rw [if_pos (Nat.lt_succ_self i), ← hv]
    exact World.cell?_setCell_same _ _ _ (h i hi)
  · rw [World.cell?_setCell_other _ _ _ _ (fun h => by cases h; omega), h i hi]
    by_cases h1 : i < j
    · rw [if_pos h1, if_pos (by omega)]
    · rw [if_neg h1, if_neg (by omega)]
theorem setHd_at {W : World} {b : Nat} {z : Hd} (h : Hd) (hz : HdAt W b z) : HdAt (setHd W b h) b h := by
  have h0 : ∀ k, k < 9 → W.cell? ⟨b, k, none⟩ = some (if k < 0 then hcell h k else hcell z k) := fun k hk => by rw [if_neg (by omega)]; exact hz k hk
  have := hd_step 8 _ rfl (hd_step 7 _ rfl (hd_step 6 _ rfl (hd_step 5 _ rfl (hd_step 4 _ rfl (hd_step 3 _ rfl (hd_step 2 _ rfl (hd_step 1 _ rfl (hd_step (f := hcell h) 0 _ rfl h0))))))))
  intro k hk
  have e := this k hk
  rw [if_pos (by omega)] at e
  exact e
def zeroHd : Hd := ⟨0, 0, 0, 0, 0, 0, 0, 0, ⟨#[]⟩⟩
theorem nine {k : Nat} (h : k < 9) : k = 0 ∨ k = 1 ∨ k = 2 ∨ k = 3 ∨ k = 4 ∨ k = 5 ∨ k = 6 ∨ k = 7 ∨ k = 8 := by omega
/-- A header's variable that was just made. -/
structure NewHd (W : World) (b : Nat) (h : Hd) : Prop where
  at_ : HdAt W b h
  free : ∀ j, W.frozen? ⟨b, j, none⟩ = false
theorem newHd (w : World) (h : Hd) (t : TypeId) : NewHd (w.alloc (.cells #[.int .i64 h.tos, .int .i64 h.id, .int .i64 h.flags, .int .i64 h.frag, .int .i64 h.ttl, .int .i64 h.proto, .int .u32 h.src, .int .u32 h.dst, .string h.opts] t)) w.heap.size h := by
  refine ⟨fun k hk => ?_, fun j => by simp [go_sem]⟩
  rcases nine hk with rfl | rfl | rfl | rfl | rfl | rfl | rfl | rfl | rfl <;> simp [go_sem, hcell]
theorem NewHd.on {W W' : World} {b B : Nat} {h : Hd} (hh : NewHd W b h) (hb : Below B W W') (hB : b < B) : NewHd W' b h := ⟨hh.at_.on hb hB, fun j => (hb.frozen (p := ⟨b, j, none⟩) hB).trans (hh.free j)⟩
end Go.Proofs.Ytfppjpcolohmfaa
