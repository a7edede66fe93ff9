/- A text as a row of bytes that may be written: its bytes, the text of it, and its sum where a word is another one. -/
import Derived.Test.YtmeafeomfblncaaCkAt
import Derived.Laws.IdiomStrings
namespace Go.Proofs.Ytmeafeomfblncaa
open Go.ChangeShapes Go.WideShapes Go.ChangeAt Go.RowKit

/-- From the head of block g on stand the bytes l. -/
def Bts (W : World) (g : Nat) (l : List UInt8) : Prop := ∀ i, i < l.length → W.cell? ⟨g, i, none⟩ = some (.int .u8 ((l.getD i 0).toNat : Int)) ∧ W.frozen? ⟨g, i, none⟩ = false

theorem Bts.on {W W' : World} {g : Nat} {l : List UInt8} (h : Bts W g l) (hb : Below W.heap.size W W') : Bts W' g l := fun i hi =>
  ⟨by rw [hb.cell (block_lt_of_cell (h i hi).1)]; exact (h i hi).1, by rw [hb.frozen (block_lt_of_cell (h i hi).1)]; exact (h i hi).2⟩
theorem Bts.drew {W : World} {g : Nat} {l : List UInt8} (h : Bts W g l) : Bts W.drew g l := h

theorem getD_set_same (l : List UInt8) (i : Nat) (x : UInt8) (h : i < l.length) : (l.set i x).getD i 0 = x := by
  rw [List.getD_eq_getElem?_getD, List.getElem?_set_self h]; rfl
theorem getD_set_other (l : List UInt8) (i j : Nat) (x : UInt8) (h : i ≠ j) : (l.set i x).getD j 0 = l.getD j 0 := by
  rw [List.getD_eq_getElem?_getD, List.getElem?_set_ne h, List.getD_eq_getElem?_getD]
theorem Bts.set {W : World} {g : Nat} {l : List UInt8} (h : Bts W g l) (i : Nat) (hi : i < l.length) (y : Int) (h0 : 0 ≤ y) (h1 : y < 256) : Bts (W.setCell ⟨g, i, none⟩ (.int .u8 y)) g (l.set i (UInt8.ofNat y.toNat)) := by
  intro j hj
  rw [List.length_set] at hj
  refine ⟨?_, by rw [World.frozen?_setCell]; exact (h j hj).2⟩
  by_cases e : i = j
  · subst e
    rw [World.cell?_setCell_same' _ _ _ (by rw [(h i hi).1]; rfl), getD_set_same _ _ _ hi]
    simp only [UInt8.toNat_ofNat']
    rw [Nat.mod_eq_of_lt (by omega), Int.toNat_of_nonneg h0]
  · rw [getD_set_other _ _ _ _ e, World.cell?_setCell_other _ _ _ _ (fun hh => e (by injection hh))]
    exact (h j hj).1

theorem bytesRow_cell (s : ByteArray) (cap i : Nat) (h : i < s.size) : (bytesRow s cap)[i]? = some (.int .u8 ((s.data.toList.getD i 0).toNat : Int)) := by
  rw [bytesRow_at s cap i h, List.getD_eq_getElem?_getD, Array.getElem?_toList, Array.getElem?_eq_getElem h]; rfl

/-- A text becomes a row of bytes. -/
theorem conv_bytes (s : ByteArray) (w : World) : ∃ c W, (convert 9 37 (.string s)).run Try.prog w = .ok (.slice (some ⟨w.heap.size, 0, none⟩) s.size c) W ∧ Below w.heap.size w W ∧ Bts W w.heap.size s.data.toList := by
  refine ⟨_, _, run_bytes_of_string w 9 37 5 s Try.underlying9 Try.underlying37 Try.underlying5, (Below.refl _ _).drew.alloc (Nat.le_refl _) _, fun i hi => ?_⟩
  rw [Oct.len_eq] at hi
  have hat := bytesRow_cell s (grownCap w s.size 0 5) i hi
  obtain ⟨hlt, _⟩ := Array.getElem?_eq_some_iff.1 hat
  generalize grownCap w s.size 0 5 = c at *
  have hh : (w.drew.alloc (.cells (bytesRow s c) 5 ((bytesRow s c).size, (bytesRow s c).size + 1))).heap[w.heap.size]? = some (.cells (bytesRow s c) 5 ((bytesRow s c).size, (bytesRow s c).size + 1)) := by
    show (w.heap.push _)[w.heap.size]? = _
    simp
  constructor
  · unfold World.cell?
    simp only [hh]
    exact hat
  · unfold World.frozen?
    simp only [hh]
    simp; omega

/-- A row of bytes becomes a text. -/
theorem Bts.text {W : World} {g : Nat} {l : List UInt8} (h : Bts W g l) (c : Nat) : (convert 37 9 (.slice (some ⟨g, 0, none⟩) l.length c)).run Try.prog W = .ok (.string ⟨l.toArray⟩) W := by
  have e := run_convert_bytes_arg W 37 5 Try.underlying37 Try.underlying5 g 0 l.length c (l.map fun b => (b.toNat : Int)) (by simp) (fun i hi => by
    rw [Nat.zero_add, (h i hi).1, List.getD_eq_getElem?_getD, List.getD_eq_getElem?_getD, List.getElem?_map, List.getElem?_eq_getElem hi]; rfl) 9 Try.underlying9
  rw [e]
  congr 2
  unfold strOfNums
  congr 2
  rw [List.map_map]
  apply List.ext_getElem
  · simp
  · intro i h1 h2
    simp

theorem or_four (x y z v : Int) (x0 : 0 ≤ x) (x1 : x < 256) (y0 : 0 ≤ y) (y1 : y < 256) (z0 : 0 ≤ z) (z1 : z < 256) (v0 : 0 ≤ v) (v1 : v < 256) :
    bits .or .u32 (bits .or .u32 (bits .or .u32 (x * 16777216) (y * 65536)) (z * 256)) v = x * 16777216 + y * 65536 + z * 256 + v := by
  rw [bits_join .u32 32 (by decide) Ck.wraps_u32 24 (x * 16777216) (y * 65536) (by omega) (by omega) (by omega) (by omega) (by omega) (by omega),
    bits_join .u32 32 (by decide) Ck.wraps_u32 16 (x * 16777216 + y * 65536) (z * 256) (by omega) (by omega) (by omega) (by omega) (by omega) (by omega),
    bits_join .u32 32 (by decide) Ck.wraps_u32 8 (x * 16777216 + y * 65536 + z * 256) v (by omega) (by omega) (by omega) (by omega) (by omega) (by omega)]
theorem below_drewN {B : Nat} {a b : World} (h : Below B a b) (n : Nat) : Below B a (b.drewN n) := ⟨h.os, h.tape, h.output, h.size, h.block⟩
theorem Bts.drewN {W : World} {g : Nat} {l : List UInt8} (h : Bts W g l) (n : Nat) : Bts (W.drewN n) g l := h

theorem wsum_word_le : ∀ (l : List UInt8) (k : Nat), k % 2 = 0 → k + 1 < l.length → (l.getD k 0).toNat * 256 + (l.getD (k + 1) 0).toNat ≤ Ck.wsum l
  | [], k, _, h => by simp at h
  | [a], k, _, h => by simp at h
  | a :: b :: r, 0, _, _ => by have := Ck.wsum_lo r; simp [Ck.wsum]; omega
  | a :: b :: r, 1, h, _ => by simp at h
  | a :: b :: r, k + 2, h, h2 => by
    have ih := wsum_word_le r k (by omega) (by simp at h2; omega)
    rw [Ck.getD_drop2 a b r k, show (a :: b :: r).getD (k + 2 + 1) 0 = r.getD (k + 1) 0 from Ck.getD_drop2 a b r (k + 1)]
    simp only [Ck.wsum]
    omega

/-- Is all of a text 0? -/
def zeros (l : List UInt8) : Bool := l.all (· == 0)
theorem zeros_of : ∀ l : List UInt8, Ck.wsum l = 0 → zeros l = true
  | [], _ => rfl
  | [a], h => by
    have : a = 0 := UInt8.toNat_inj.1 (by simp only [Ck.wsum] at h; show a.toNat = 0; omega)
    simp [zeros, this]
  | a :: b :: r, h => by
    have h0 := Ck.wsum_lo r
    simp only [Ck.wsum] at h
    have ha : a = 0 := UInt8.toNat_inj.1 (by show a.toNat = 0; omega)
    have hb : b = 0 := UInt8.toNat_inj.1 (by show b.toNat = 0; omega)
    have hr := zeros_of r (by omega)
    simp [zeros, ha, hb] at hr ⊢
    exact hr
theorem pos_of (l : List UInt8) (h : zeros l = false) : 0 < Ck.wsum l := by
  have h0 := Ck.wsum_lo l
  by_cases e : Ck.wsum l = 0
  · rw [zeros_of l e] at h; cases h
  · omega

theorem byte_of (n : Int) (h0 : 0 ≤ n) (h1 : n < 256) : ((UInt8.ofNat n.toNat).toNat : Int) = n := by
  simp only [UInt8.toNat_ofNat']
  omega

end Go.Proofs.Ytmeafeomfblncaa
