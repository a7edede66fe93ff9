/- Blocks as rows of cells; worlds that are as they were but for some blocks. Nothing of the program is in here. -/
import Derived.Test.YtbncjinkojeioaaSpReg
namespace Go.Proofs.Ytbncjinkojeioaa
open Go.ChangeShapes Go.WideShapes Go.ChangeAt Go.RowKit

/-- Block b is a row of just these cells, and none of it is frozen. -/
def Row (W : World) (b : Nat) (l : List Value) : Prop := ∃ t, W.heap[b]? = some (.cells l.toArray t (0, 0))
theorem Row.lt {W : World} {b : Nat} {l : List Value} (h : Row W b l) : b < W.heap.size := by
  obtain ⟨t, h⟩ := h
  exact (Array.getElem?_eq_some_iff.1 h).1
theorem Row.cell {W : World} {b : Nat} {l : List Value} (h : Row W b l) (i : Nat) (v : Value) (hv : l[i]? = some v) : W.cell? ⟨b, i, none⟩ = some v := by
  obtain ⟨t, h⟩ := h
  unfold World.cell?
  simp only [h]
  simpa using hv
theorem Row.free {W : World} {b : Nat} {l : List Value} (h : Row W b l) (j : Nat) : W.frozen? ⟨b, j, none⟩ = false := by
  obtain ⟨t, h⟩ := h
  unfold World.frozen?
  simp only [h]
  simp
theorem Row.of_block {W W' : World} {b : Nat} {l : List Value} (h : Row W b l) (e : W'.heap[b]? = W.heap[b]?) : Row W' b l := by
  obtain ⟨t, h⟩ := h
  exact ⟨t, e.trans h⟩
theorem Row.on {W W' : World} {b B : Nat} {l : List Value} (h : Row W b l) (hb : Below B W W') (hB : b < B) : Row W' b l := h.of_block (hb.block b hB)
theorem Row.on' {W W' : World} {b : Nat} {l : List Value} (h : Row W b l) (hb : Below W.heap.size W W') : Row W' b l := h.on hb h.lt
theorem row_new (w : World) (l : List Value) (t : TypeId) : Row (w.alloc (.cells l.toArray t)) w.heap.size l := ⟨t, by show (w.heap.push _)[w.heap.size]? = _; simp⟩
theorem Row.set {W : World} {b : Nat} {l : List Value} (h : Row W b l) (i : Nat) (v : Value) : Row (W.setCell ⟨b, i, none⟩ v) b (l.set i v) := by
  obtain ⟨t, h⟩ := h
  refine ⟨t, ?_⟩
  simp only [World.setCell, Array.getElem?_modify]
  simp [h]
theorem Row.other {W : World} {b x : Nat} {l : List Value} (h : Row W x l) (hx : x ≠ b) (i : Nat) (v : Value) : Row (W.setCell ⟨b, i, none⟩ v) x l := h.of_block (Below.heap_setCell _ _ _ _ hx)
def setRow (W : World) (b : Nat) : Nat → List Value → World
  | _, [] => W
  | i, v :: vs => setRow (W.setCell ⟨b, i, none⟩ v) b (i + 1) vs
theorem setRow_heap (b : Nat) (k : Nat) (hk : k ≠ b) : ∀ (l : List Value) (i : Nat) (W : World), (setRow W b i l).heap[k]? = W.heap[k]?
  | [], _, _ => rfl
  | v :: vs, i, W => by rw [setRow, setRow_heap b k hk vs]; exact Below.heap_setCell _ _ _ _ hk
theorem setRow_below (b : Nat) : ∀ (l : List Value) (i : Nat) (W : World), Below b W (setRow W b i l)
  | [], _, _ => Below.refl _ _
  | v :: vs, i, W => ((Below.refl b W).setCell (p := ⟨b, i, none⟩) (Nat.le_refl _) v).trans (setRow_below b vs (i + 1) _)
theorem setRow_size (b : Nat) : ∀ (l : List Value) (i : Nat) (W : World), (setRow W b i l).heap.size = W.heap.size
  | [], _, _ => rfl
  | v :: vs, i, W => by rw [setRow, setRow_size b vs]; simp [World.setCell]
theorem setRow_row (b : Nat) : ∀ (l : List Value) (A C : List Value) (W : World), C.length = l.length → Row W b (A ++ C) → Row (setRow W b A.length l) b (A ++ l)
  | [], A, C, W, hl, h => by
    cases C with
    | nil => exact h
    | cons _ _ => simp at hl
  | v :: vs, A, C, W, hl, h => by
    cases C with
    | nil => simp at hl
    | cons c cs =>
      have h1 := h.set A.length v
      rw [show (A ++ c :: cs).set A.length v = (A ++ [v]) ++ cs by simp] at h1
      have h2 := setRow_row b vs (A ++ [v]) cs _ (by simpa using hl) h1
      rw [show (A ++ [v]).length = A.length + 1 by simp, show (A ++ [v]) ++ vs = A ++ v :: vs by simp] at h2
      exact h2
theorem row_all {W : World} {b : Nat} {l : List Value} (l' : List Value) (h : Row W b l) (hl : l.length = l'.length) : Row (setRow W b 0 l') b l' := by
  have := setRow_row b l' [] l W hl h
  exact this

/-- The world b is as a was, but for the blocks S, and what is new. -/
structure But (S : List Nat) (a b : World) : Prop where
  os : b.os = a.os
  tape : b.tape = a.tape
  output : b.output = a.output
  size : a.heap.size ≤ b.heap.size
  block : ∀ k, k < a.heap.size → k ∉ S → b.heap[k]? = a.heap[k]?
theorem But.of {S : List Nat} {a b : World} (h : Below a.heap.size a b) : But S a b := ⟨h.os, h.tape, h.output, h.size, fun k hk _ => h.block k hk⟩
theorem But.trans {S : List Nat} {a b c : World} (h : But S a b) (k : But S b c) : But S a c :=
  ⟨k.os.trans h.os, k.tape.trans h.tape, k.output.trans h.output, Nat.le_trans h.size k.size, fun i hi hn => (k.block i (Nat.lt_of_lt_of_le hi h.size) hn).trans (h.block i hi hn)⟩
theorem But.more {S T : List Nat} {a b : World} (h : But S a b) (hs : ∀ x ∈ S, x ∈ T) : But T a b := ⟨h.os, h.tape, h.output, h.size, fun k hk hn => h.block k hk fun hx => hn (hs k hx)⟩
theorem But.setRow {S : List Nat} {a b : World} (h : But S a b) {g : Nat} (hg : g ∈ S) (i : Nat) (l : List Value) : But S a (setRow b g i l) := by
  have hb := setRow_below g l i b
  exact ⟨hb.os.trans h.os, hb.tape.trans h.tape, hb.output.trans h.output, Nat.le_trans h.size hb.size, fun k hk hn => (setRow_heap g k (fun e => hn (e ▸ hg)) l i b).trans (h.block k hk hn)⟩
theorem But.setCell {S : List Nat} {a b : World} (h : But S a b) {g : Nat} (hg : g ∈ S) (i : Nat) (v : Value) : But S a (b.setCell ⟨g, i, none⟩ v) := h.setRow hg i [v]
theorem But.below {S : List Nat} {w a b : World} (hw : Below w.heap.size w a) (h : But S a b) (hs : ∀ x ∈ S, w.heap.size ≤ x) : Below w.heap.size w b :=
  ⟨h.os.trans hw.os, h.tape.trans hw.tape, h.output.trans hw.output, Nat.le_trans hw.size h.size, fun k hk => (h.block k (Nat.lt_of_lt_of_le hk hw.size) fun hx => by have := hs k hx; omega).trans (hw.block k hk)⟩
theorem Row.but {S : List Nat} {a b : World} {x : Nat} {l : List Value} (h : Row a x l) (hb : But S a b) (hx : x ∉ S) : Row b x l := h.of_block (hb.block x h.lt hx)

end Go.Proofs.Ytbncjinkojeioaa
