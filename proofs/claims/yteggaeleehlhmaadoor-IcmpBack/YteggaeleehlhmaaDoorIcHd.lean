/- A header as a value; its variable: its cells, a header stored there, and kept while others are called. -/
import Derived.Test.YteggaeleehlhmaaDoorIcBase
namespace Go.Proofs.YteggaeleehlhmaaDoor
open Go.ChangeShapes Go.WideShapes Go.ChangeAt Go.RowKit

structure Hd where
  kind : Int
  code : Int
  rest : Int
  body : ByteArray
/-- The numbers fit their kinds; the options are no longer than any text. -/
structure Hd.Wf (h : Hd) : Prop where
  kind : -9223372036854775808 ≤ h.kind ∧ h.kind ≤ 9223372036854775807
  code : -9223372036854775808 ≤ h.code ∧ h.code ≤ 9223372036854775807
  rest : 0 ≤ h.rest ∧ h.rest ≤ 4294967295
  body : h.body.size ≤ 140737488355328
abbrev Hd.val (h : Hd) : Value := .agg #[.int .i64 h.kind, .int .i64 h.code, .int .u32 h.rest, .string h.body]
/-- A header's cells. -/
def hcell (h : Hd) : Nat → Value
  | 0 => .int .i64 h.kind | 1 => .int .i64 h.code | 2 => .int .u32 h.rest | _ => .string h.body
def HdAt (W : World) (b : Nat) (h : Hd) : Prop := ∀ k, k < 4 → W.cell? ⟨b, k, none⟩ = some (hcell h k)
theorem HdAt.on {W W' : World} {b B : Nat} {h : Hd} (hh : HdAt W b h) (hb : Below B W W') (hB : b < B) : HdAt W' b h := fun k hk => (hb.cell (p := ⟨b, k, none⟩) hB).trans (hh k hk)
theorem HdAt.set {W : World} {b : Nat} {h : Hd} (hh : HdAt W b h) {p : Addr} (hp : p.block ≠ b) (v : Value) : HdAt (W.setCell p v) b h := fun k hk => by
  rw [World.cell?_setCell_other _ _ _ _ (fun e => hp (by rw [e]))]; exact hh k hk
def setHd (W : World) (b : Nat) (h : Hd) : World := ((((W.setCell ⟨b, 0, none⟩ (.int .i64 h.kind)).setCell ⟨b, 1, none⟩ (.int .i64 h.code)).setCell ⟨b, 2, none⟩ (.int .u32 h.rest)).setCell ⟨b, 3, none⟩ (.string h.body))
theorem setHd_heap (W : World) (b : Nat) (h : Hd) (k : Nat) (hk : k ≠ b) : (setHd W b h).heap[k]? = W.heap[k]? := by
  unfold setHd
  rw [Below.heap_setCell _ _ _ _ hk, Below.heap_setCell _ _ _ _ hk, Below.heap_setCell _ _ _ _ hk, Below.heap_setCell _ _ _ _ hk]
theorem setHd_below {B : Nat} {U W : World} (h : Below B U W) (b : Nat) (x : Hd) (hb : B ≤ b) : Below B U (setHd W b x) :=
  ((((h).setCell (p := ⟨b, 0, none⟩) hb _).setCell (p := ⟨b, 1, none⟩) hb _).setCell (p := ⟨b, 2, none⟩) hb _).setCell (p := ⟨b, 3, none⟩) hb _
theorem hd_step {W : World} {b : Nat} {f g : Nat → Value} (j : Nat) (v : Value) (hv : v = f j) (h : ∀ k, k < 4 → W.cell? ⟨b, k, none⟩ = some (if k < j then f k else g k)) : ∀ k, k < 4 → (W.setCell ⟨b, j, none⟩ v).cell? ⟨b, k, none⟩ = some (if k < j + 1 then f k else g k) := by
  intro i hi
  by_cases e : i = j
  · subst e
    rw [if_pos (Nat.lt_succ_self i), ← hv]
    exact World.cell?_setCell_same _ _ _ (h i hi)
  · rw [World.cell?_setCell_other _ _ _ _ (fun h => by cases h; omega), h i hi]
    by_cases h1 : i < j
    · rw [if_pos h1, if_pos (by omega)]
    · rw [if_neg h1, if_neg (by omega)]
theorem setHd_at {W : World} {b : Nat} {z : Hd} (h : Hd) (hz : HdAt W b z) : HdAt (setHd W b h) b h := by
  have h0 : ∀ k, k < 4 → W.cell? ⟨b, k, none⟩ = some (if k < 0 then hcell h k else hcell z k) := fun k hk => by rw [if_neg (by omega)]; exact hz k hk
  have := hd_step 3 _ rfl (hd_step 2 _ rfl (hd_step 1 _ rfl (hd_step (f := hcell h) 0 _ rfl h0)))
  intro k hk
  have e := this k hk
  rw [if_pos (by omega)] at e
  exact e
theorem setHd_free {W : World} {b : Nat} {h : Hd} (p : Addr) : (setHd W b h).frozen? p = W.frozen? p := by
  unfold setHd
  simp only [World.frozen?_setCell]
def zeroHd : Hd := ⟨0, 0, 0, ⟨#[]⟩⟩
theorem each {k : Nat} (h : k < 4) : k = 0 ∨ k = 1 ∨ k = 2 ∨ k = 3 := by omega
/-- A header's variable that was just made. -/
structure NewHd (W : World) (b : Nat) (h : Hd) : Prop where
  at_ : HdAt W b h
  free : ∀ j, W.frozen? ⟨b, j, none⟩ = false
theorem newHd (w : World) (h : Hd) (t : TypeId) : NewHd (w.alloc (.cells #[.int .i64 h.kind, .int .i64 h.code, .int .u32 h.rest, .string h.body] t)) w.heap.size h := by
  refine ⟨fun k hk => ?_, fun j => by simp [go_sem]⟩
  rcases each hk with rfl | rfl | rfl | rfl <;> simp [go_sem, hcell]
theorem NewHd.on {W W' : World} {b B : Nat} {h : Hd} (hh : NewHd W b h) (hb : Below B W W') (hB : b < B) : NewHd W' b h := ⟨hh.at_.on hb hB, fun j => (hb.frozen (p := ⟨b, j, none⟩) hB).trans (hh.free j)⟩
theorem NewHd.set {W : World} {b : Nat} {h : Hd} (hh : NewHd W b h) {p : Addr} (hp : p.block ≠ b) (v : Value) : NewHd (W.setCell p v) b h := ⟨hh.at_.set hp v, fun j => by rw [World.frozen?_setCell]; exact hh.free j⟩
/-- A header's variable that is kept while others are called. -/
structure Kept (w : World) (h : Hd) (W : World) : Prop where
  at_ : HdAt W w.heap.size h
  below : Below w.heap.size w W
  size : w.heap.size + 1 ≤ W.heap.size
theorem Kept.on {w W W' : World} {h : Hd} (k : Kept w h W) (hb : Below W.heap.size W W') : Kept w h W' :=
  ⟨k.at_.on hb (by have := k.size; omega), k.below.trans (hb.mono (by have := k.size; omega)), Nat.le_trans k.size hb.size⟩
theorem kept_new (w : World) (h : Hd) (t : TypeId) : Kept w h (w.alloc (.cells #[.int .i64 h.kind, .int .i64 h.code, .int .u32 h.rest, .string h.body] t)) :=
  ⟨(newHd w h t).at_, (Below.refl _ _).alloc (Nat.le_refl _) _, by simp⟩
theorem alloc_on (W : World) (o : Obj) : Below W.heap.size W (W.alloc o) := (Below.refl _ _).alloc (Nat.le_refl _) _
theorem NewHd.kind {W : World} {b : Nat} {h : Hd} (hh : NewHd W b h) (x : Int) : NewHd (W.setCell ⟨b, 0, none⟩ (.int .i64 x)) b { h with kind := x } := by
  refine ⟨fun k hk => ?_, fun j => by rw [World.frozen?_setCell]; exact hh.free j⟩
  by_cases e : k = 0
  · subst e; exact World.cell?_setCell_same _ _ _ (hh.at_ 0 hk)
  · rw [World.cell?_setCell_other _ _ _ _ (fun h => by cases h; omega), hh.at_ k hk]
    rcases each hk with rfl | rfl | rfl | rfl <;> first | rfl | exact absurd rfl e
theorem NewHd.code {W : World} {b : Nat} {h : Hd} (hh : NewHd W b h) (x : Int) : NewHd (W.setCell ⟨b, 1, none⟩ (.int .i64 x)) b { h with code := x } := by
  refine ⟨fun k hk => ?_, fun j => by rw [World.frozen?_setCell]; exact hh.free j⟩
  by_cases e : k = 1
  · subst e; exact World.cell?_setCell_same _ _ _ (hh.at_ 1 hk)
  · rw [World.cell?_setCell_other _ _ _ _ (fun h => by cases h; omega), hh.at_ k hk]
    rcases each hk with rfl | rfl | rfl | rfl <;> first | rfl | exact absurd rfl e
theorem NewHd.rest {W : World} {b : Nat} {h : Hd} (hh : NewHd W b h) (x : Int) : NewHd (W.setCell ⟨b, 2, none⟩ (.int .u32 x)) b { h with rest := x } := by
  refine ⟨fun k hk => ?_, fun j => by rw [World.frozen?_setCell]; exact hh.free j⟩
  by_cases e : k = 2
  · subst e; exact World.cell?_setCell_same _ _ _ (hh.at_ 2 hk)
  · rw [World.cell?_setCell_other _ _ _ _ (fun h => by cases h; omega), hh.at_ k hk]
    rcases each hk with rfl | rfl | rfl | rfl <;> first | rfl | exact absurd rfl e
theorem NewHd.body {W : World} {b : Nat} {h : Hd} (hh : NewHd W b h) (x : ByteArray) : NewHd (W.setCell ⟨b, 3, none⟩ (.string x)) b { h with body := x } := by
  refine ⟨fun k hk => ?_, fun j => by rw [World.frozen?_setCell]; exact hh.free j⟩
  by_cases e : k = 3
  · subst e; exact World.cell?_setCell_same _ _ _ (hh.at_ 3 hk)
  · rw [World.cell?_setCell_other _ _ _ _ (fun h => by cases h; omega), hh.at_ k hk]
    rcases each hk with rfl | rfl | rfl | rfl <;> first | rfl | exact absurd rfl e
end Go.Proofs.YteggaeleehlhmaaDoor
