/- Rows of bytes and texts: make, conversions, stores; the example's key and text. -/
import Derived.Test.YtbiilgdgmedpkaaSpHash
import Derived.Laws.IdiomStrings
import Derived.Laws.MakeOwn
import Derived.Laws.OwnMore
import Derived.Lib.MinMax
namespace Go.Proofs.Ytbiilgdgmedpkaa
open Go.ChangeShapes Go.WideShapes Go.ChangeAt Go.RowKit Sp

/-- From the head of block g on stand the bytes l. -/
def Bts (W : World) (g : Nat) (l : List UInt8) : Prop := ∀ i, i < l.length → W.cell? ⟨g, i, none⟩ = some (.int .u8 ((l.getD i 0).toNat : Int)) ∧ W.frozen? ⟨g, i, none⟩ = false

theorem Bts.on {W W' : World} {g : Nat} {l : List UInt8} (h : Bts W g l) (hb : Below W.heap.size W W') : Bts W' g l := fun i hi =>
  ⟨by rw [hb.cell (block_lt_of_cell (h i hi).1)]; exact (h i hi).1, by rw [hb.frozen (block_lt_of_cell (h i hi).1)]; exact (h i hi).2⟩
theorem Bts.drew {W : World} {g : Nat} {l : List UInt8} (h : Bts W g l) : Bts W.drew g l := h

theorem getD_set_same (l : List UInt8) (i : Nat) (x : UInt8) (h : i < l.length) : (l.set i x).getD i 0 = x := by
  rw [List.getD_eq_getElem?_getD, List.getElem?_set_self h]; rfl
theorem getD_set_other (l : List UInt8) (i j : Nat) (x : UInt8) (h : i ≠ j) : (l.set i x).getD j 0 = l.getD j 0 := by
  rw [List.getD_eq_getElem?_getD, List.getElem?_set_ne h, List.getD_eq_getElem?_getD]
theorem Bts.set {W : World} {g : Nat} {l : List UInt8} (h : Bts W g l) (i : Nat) (hi : i < l.length) (y : Int) (h0 : 0 ≤ y) (h1 : y < 256) : Bts (W.setCell ⟨g, i, none⟩ (.int .u8 y)) g (l.set i (UInt8.ofNat y.toNat)) := by
  intro j hj
  rw [List.length_set] at hj
  refine ⟨?_, by rw [World.frozen?_setCell]; exact (h j hj).2⟩
  by_cases e : i = j
  · subst e
    rw [World.cell?_setCell_same' _ _ _ (by rw [(h i hi).1]; rfl), getD_set_same _ _ _ hi]
    simp only [UInt8.toNat_ofNat']
    rw [Nat.mod_eq_of_lt (by omega), Int.toNat_of_nonneg h0]
  · rw [getD_set_other _ _ _ _ e, World.cell?_setCell_other _ _ _ _ (fun hh => e (by injection hh))]
    exact (h j hj).1

theorem bytesRow_cell (s : ByteArray) (cap i : Nat) (h : i < s.size) : (bytesRow s cap)[i]? = some (.int .u8 ((s.data.toList.getD i 0).toNat : Int)) := by
  rw [bytesRow_at s cap i h, List.getD_eq_getElem?_getD, Array.getElem?_toList, Array.getElem?_eq_getElem h]; rfl

/-- A text becomes a row of bytes. -/
theorem conv_bytes (s : ByteArray) (w : World) : ∃ c W, s.size ≤ c ∧ (convert 9 31 (.string s)).run Try.prog w = .ok (.slice (some ⟨w.heap.size, 0, none⟩) s.size c) W ∧ Below w.heap.size w W ∧ Bts W w.heap.size s.data.toList := by
  refine ⟨_, _, grownCap_ge w s.size 0 5, run_bytes_of_string w 9 31 5 s Try.underlying9 Try.underlying31 Try.underlying5, (Below.refl _ _).drew.alloc (Nat.le_refl _) _, fun i hi => ?_⟩
  rw [len_eq] at hi
  have hat := bytesRow_cell s (grownCap w s.size 0 5) i hi
  obtain ⟨hlt, _⟩ := Array.getElem?_eq_some_iff.1 hat
  generalize grownCap w s.size 0 5 = c at *
  have hh : (w.drew.alloc (.cells (bytesRow s c) 5 ((bytesRow s c).size, (bytesRow s c).size + 1))).heap[w.heap.size]? = some (.cells (bytesRow s c) 5 ((bytesRow s c).size, (bytesRow s c).size + 1)) := by
    show (w.heap.push _)[w.heap.size]? = _
    simp
  constructor
  · unfold World.cell?
    simp only [hh]
    exact hat
  · unfold World.frozen?
    simp only [hh]
    simp; omega

/-- A row of bytes becomes a text. -/
theorem Bts.text {W : World} {g : Nat} {l : List UInt8} (h : Bts W g l) (c : Nat) : (convert 31 9 (.slice (some ⟨g, 0, none⟩) l.length c)).run Try.prog W = .ok (.string ⟨l.toArray⟩) W := by
  have e := run_convert_bytes_arg W 31 5 Try.underlying31 Try.underlying5 g 0 l.length c (l.map fun b => (b.toNat : Int)) (by simp) (fun i hi => by
    rw [Nat.zero_add, (h i hi).1, List.getD_eq_getElem?_getD, List.getD_eq_getElem?_getD, List.getElem?_map, List.getElem?_eq_getElem hi]; rfl) 9 Try.underlying9
  rw [e]
  congr 2
  unfold strOfNums
  congr 2
  rw [List.map_map]
  apply List.ext_getElem
  · simp
  · intro i h1 h2
    simp

theorem below_drewN {B : Nat} {a b : World} (h : Below B a b) (n : Nat) : Below B a (b.drewN n) := ⟨h.os, h.tape, h.output, h.size, h.block⟩
theorem Bts.drewN {W : World} {g : Nat} {l : List UInt8} (h : Bts W g l) (n : Nat) : Bts (W.drewN n) g l := h
theorem info_u8 : (Try.prog.info? 5).map (fun i => (i.zero, i.size, i.bytes)) = some (some (.int .u8 0), 1, 1) := by kernel_rfl
def zeroS (n : Nat) : ByteArray := strOfNums (List.replicate n 0)
theorem zeroS_list (n : Nat) : (zeroS n).data.toList = List.replicate n 0 := by simp [zeroS, strOfNums]
theorem zeroS_size (n : Nat) : (zeroS n).size = n := by rw [← len_eq, zeroS_list, List.length_replicate]
theorem make_run (n : Int) (h0 : 0 ≤ n) (hn : n ≤ 100000) (W : World) : (Instr.makeSlice 31 (.int .i64 n) (.int .i64 n)).run Try.prog W = .ok (.slice (some ⟨W.heap.size, 0, none⟩) n.toNat n.toNat) (W.alloc (.cells (madeCells #[.int .u8 0] n.toNat) 5)) := by
  obtain ⟨i0, hi, hz0, hz1, hz2⟩ := info_parts info_u8
  have h := run_make (P := Try.prog) W 31 5 i0 (.int .u8 0) Try.underlying31 hi hz0 .i64 .i64 n n h0 (Int.le_refl _) (by rw [hz2]; omega) (by omega)
  rw [hz1, Nat.mul_one] at h
  exact h
theorem made_cell (W : World) (n i : Nat) (h : i < n) : (W.alloc (.cells (madeCells #[.int .u8 0] n) 5)).cell? ⟨W.heap.size, i, none⟩ = some (.int .u8 0) := by
  have e : (madeCells #[.int .u8 0] n)[i]? = some (.int .u8 0) := by
    rw [← Array.getElem?_toList, toList_madeCells_one, List.getElem?_replicate, if_pos h]
  simp [go_sem, e]
theorem conv_zeros (W : World) (n : Nat) : (convert 31 9 (.slice (some ⟨W.heap.size, 0, none⟩) n n)).run Try.prog (W.alloc (.cells (madeCells #[.int .u8 0] n) 5)) = .ok (.string (zeroS n)) (W.alloc (.cells (madeCells #[.int .u8 0] n) 5)) := by
  refine run_convert_bytes_arg _ 31 5 Try.underlying31 Try.underlying5 _ 0 n n (List.replicate n 0) (by simp) ?_ 9 Try.underlying9
  intro i hi
  rw [Nat.zero_add, made_cell W n i hi, List.getD_eq_getElem?_getD, List.getElem?_replicate, if_pos hi]; rfl
theorem made_bts (W : World) (n : Nat) : Bts (W.alloc (.cells (madeCells #[.int .u8 0] n) 5)) W.heap.size (List.replicate n 0) := by
  intro i hi
  rw [List.length_replicate] at hi
  refine ⟨?_, by simp [go_sem]⟩
  rw [made_cell W n i hi]
  have e : (List.replicate n (0 : UInt8)).getD i 0 = 0 := by
    rw [List.getD_eq_getElem?_getD]
    simp [hi]
  rw [e]; rfl
/-- The bytes 0 to i - 1, and 0s behind. -/
def exL (i : Nat) : List UInt8 := (List.range 16).map fun j => if j < i then UInt8.ofNat j else 0
theorem exL_length (i : Nat) : (exL i).length = 16 := by simp [exL]
theorem exL_zero : exL 0 = List.replicate 16 0 := by decide
theorem exL_set (i : Nat) (h : i < 16) : (exL i).set i (UInt8.ofNat (i : Int).toNat) = exL (i + 1) := by
  have : ∀ j : Fin 16, (exL j).set j (UInt8.ofNat ((j : Nat) : Int).toNat) = exL (j + 1) := by decide +kernel
  exact this ⟨i, h⟩
def ex16 : ByteArray := ⟨(exL 16).toArray⟩
def ex15 : ByteArray := ⟨((exL 16).take 15).toArray⟩
def exShort : ByteArray := ⟨#[115, 104, 111, 114, 116]⟩
theorem ex_hash : nn (hashV ex16 ex15) = 11613035633349379557 := by
  have h : hashV ex16 ex15 = 0xa129ca6149be45e5#64 := by decide +kernel
  rw [h]; rfl
theorem Bts.take {W : World} {g : Nat} {l : List UInt8} (h : Bts W g l) (k : Nat) : Bts W g (l.take k) := fun i hi => by
  rw [List.length_take] at hi
  have e : (l.take k).getD i 0 = l.getD i 0 := by
    rw [List.getD_eq_getElem?_getD, List.getD_eq_getElem?_getD, List.getElem?_take_of_lt (by omega)]
  rw [e]
  exact h i (by omega)
theorem text_of {W : World} {g n : Nat} {l : List UInt8} (h : Bts W g l) (hn : l.length = n) (c : Nat) : (convert 31 9 (.slice (some ⟨g, 0, none⟩) n c)).run Try.prog W = .ok (.string ⟨l.toArray⟩) W := by rw [← hn]; exact h.text c
theorem mk_size (l : List UInt8) : (ByteArray.mk l.toArray).size = l.length := List.size_toArray
end Go.Proofs.Ytbiilgdgmedpkaa
