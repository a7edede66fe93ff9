/- addr.Text at every address. -/
import Derived.Test.YtnnhkjjnolhaoaaDoorAdSplit
import Derived.Lib.SmallJoins
namespace Go.Proofs.YtnnhkjjnolhaoaaDoor
open Go.ChangeShapes Go.WideShapes Go.ChangeAt Go.RowKit

/-- The block b is a row of texts. -/
def Row (W : World) (b : Nat) (arr : Array Value) : Prop := W.heap[b]? = some (.cells arr 9 (0, 0))
theorem row_alloc (w : World) (arr : Array Value) : Row (w.alloc (.cells arr 9)) w.heap.size arr := by
  unfold Row World.alloc; simp
theorem row_lt {W : World} {b : Nat} {arr : Array Value} (h : Row W b arr) : b < W.heap.size := by
  rcases Nat.lt_or_ge b W.heap.size with h' | h'
  · exact h'
  · unfold Row at h; rw [Array.getElem?_eq_none h'] at h; cases h
theorem row_on {W W' : World} {b : Nat} {arr : Array Value} (h : Row W b arr) (hb : Below W.heap.size W W') : Row W' b arr := by
  unfold Row at *; rw [hb.block b (row_lt h)]; exact h
theorem row_set {W : World} {b : Nat} {arr : Array Value} (h : Row W b arr) (i : Nat) (v : Value) : Row (W.setCell ⟨b, i, none⟩ v) b (arr.setIfInBounds i v) := Joins.block_setCell h v
theorem row_cell {W : World} {b : Nat} {arr : Array Value} (h : Row W b arr) (i : Nat) : W.cell? ⟨b, i, none⟩ = arr[i]? := Joins.cell_of_block h i
theorem row_free {W : World} {b : Nat} {arr : Array Value} (h : Row W b arr) (i : Nat) : W.frozen? ⟨b, i, none⟩ = false := Joins.unfrozen_of_block h i

abbrev D (n : Int) : Value := .string ⟨(Ad.dig n.toNat).toArray⟩

theorem join4 (b : Nat) (l0 l1 l2 l3 : List UInt8) (W : World) (h : Row W b #[.string ⟨l0.toArray⟩, .string ⟨l1.toArray⟩, .string ⟨l2.toArray⟩, .string ⟨l3.toArray⟩])
    (h0 : l0.length ≤ 3) (h1 : l1.length ≤ 3) (h2 : l2.length ≤ 3) (h3 : l3.length ≤ 3) :
    Calls Tryd.prog 25 #[.slice (some ⟨b, 0, none⟩) 4 4, .string ⟨#[46]⟩] W fun e w' => e = .returned (.string ⟨(l0 ++ 46 :: (l1 ++ 46 :: (l2 ++ 46 :: l3))).toArray⟩) ∧ Below W.heap.size W w' := by
  have e : Lib.join ([⟨l0.toArray⟩, ⟨l1.toArray⟩, ⟨l2.toArray⟩, ⟨l3.toArray⟩].map fun x : ByteArray => x.data.toList) [46] = l0 ++ 46 :: (l1 ++ 46 :: (l2 ++ 46 :: l3)) := by
    simp [Lib.join, List.intercalate]
  have := Tryd.strings_Join b 0 4 [⟨l0.toArray⟩, ⟨l1.toArray⟩, ⟨l2.toArray⟩, ⟨l3.toArray⟩] ⟨#[46]⟩ W (fun j x hx => by
    rw [Nat.zero_add, row_cell h]
    match j, hx with
    | 0, hx => simp at hx; subst hx; rfl
    | 1, hx => simp at hx; subst hx; rfl
    | 2, hx => simp at hx; subst hx; rfl
    | 3, hx => simp at hx; subst hx; rfl
    | (j + 4), hx => simp at hx) (row_lt h) (by simp) (by simp) (by rw [e]; simp; omega)
  rw [e] at this
  exact this

set_option maxHeartbeats 1000000 in
theorem text_any (a : Int) (w : World) (h0 : 0 ≤ a) (h1 : a ≤ 4294967295) (hE : Env w) :
    Calls Tryd.prog 13 #[.int .u32 a] w fun e w' => e = .returned (.string ⟨(Ad.txt a.toNat).toArray⟩) ∧ Below w.heap.size w w' := by
  have hmk := mk4 w
  go_enter Tryd.func13, Tryd.ntmps13
  go_wp2_with fail
  refine wp_loop_rounds 5 ?_
  have R0 := hide (row_alloc w #[.string ⟨#[]⟩, .string ⟨#[]⟩, .string ⟨#[]⟩, .string ⟨#[]⟩])
  have B0 := hide ((Below.refl w.heap.size w).alloc (Nat.le_refl _) (.cells #[.string ⟨#[]⟩, .string ⟨#[]⟩, .string ⟨#[]⟩, .string ⟨#[]⟩] 9))
  have E0 := hE.on (unhide B0)
  rw [rounds_succ]
  go_wp2_with fail
  refine (itoa_b _ _ (by omega) (by omega) E0).mono ?_
  rintro e w1 ⟨rfl, hb1⟩
  have r1 := row_on (unhide R0) hb1
  have c1 : w1.cell? ⟨w.heap.size, 0, none⟩ = some (.string ⟨#[]⟩) := row_cell r1 0
  have f1 := row_free r1 0
  have B1 := hide ((Below.then (unhide B0) hb1).setCell (p := ⟨w.heap.size, 0, none⟩) (Nat.le_refl _) (D (a / 16777216)))
  have R1 : Hid (Row _ w.heap.size #[D (a / 16777216), .string ⟨#[]⟩, .string ⟨#[]⟩, .string ⟨#[]⟩]) := hide (row_set r1 0 (D (a / 16777216)))
  have E1 : Env _ := hE.on (unhide B1)
  clear hb1 r1 R0 B0 E0
  go_wp2_with fail
  rw [rounds_succ]
  go_wp2_with fail
  refine (itoa_b _ _ (by omega) (by omega) E1).mono ?_
  rintro e w2 ⟨rfl, hb2⟩
  have r2 := row_on (unhide R1) hb2
  have c2 : w2.cell? ⟨w.heap.size, 1, none⟩ = some (.string ⟨#[]⟩) := row_cell r2 1
  have f2 := row_free r2 1
  have B2 := hide ((Below.then (unhide B1) hb2).setCell (p := ⟨w.heap.size, 1, none⟩) (Nat.le_refl _) (D (a / 65536 % 256)))
  have R2 : Hid (Row _ w.heap.size #[D (a / 16777216), D (a / 65536 % 256), .string ⟨#[]⟩, .string ⟨#[]⟩]) := hide (row_set r2 1 (D (a / 65536 % 256)))
  have E2 : Env _ := hE.on (unhide B2)
  clear hb2 r2 R1 B1 E1
  go_wp2_with fail
  rw [rounds_succ]
  go_wp2_with fail
  refine (itoa_b _ _ (by omega) (by omega) E2).mono ?_
  rintro e w3 ⟨rfl, hb3⟩
  have r3 := row_on (unhide R2) hb3
  have c3 : w3.cell? ⟨w.heap.size, 2, none⟩ = some (.string ⟨#[]⟩) := row_cell r3 2
  have f3 := row_free r3 2
  have B3 := hide ((Below.then (unhide B2) hb3).setCell (p := ⟨w.heap.size, 2, none⟩) (Nat.le_refl _) (D (a / 256 % 256)))
  have R3 : Hid (Row _ w.heap.size #[D (a / 16777216), D (a / 65536 % 256), D (a / 256 % 256), .string ⟨#[]⟩]) := hide (row_set r3 2 (D (a / 256 % 256)))
  have E3 : Env _ := hE.on (unhide B3)
  clear hb3 r3 R2 B2 E2
  go_wp2_with fail
  rw [rounds_succ]
  go_wp2_with fail
  refine (itoa_b _ _ (by omega) (by omega) E3).mono ?_
  rintro e w4 ⟨rfl, hb4⟩
  have r4 := row_on (unhide R3) hb4
  have c4 : w4.cell? ⟨w.heap.size, 3, none⟩ = some (.string ⟨#[]⟩) := row_cell r4 3
  have f4 := row_free r4 3
  have B4 := hide ((Below.then (unhide B3) hb4).setCell (p := ⟨w.heap.size, 3, none⟩) (Nat.le_refl _) (D (a % 256)))
  have R4 : Hid (Row _ w.heap.size #[D (a / 16777216), D (a / 65536 % 256), D (a / 256 % 256), D (a % 256)]) := hide (row_set r4 3 (D (a % 256)))
  have E4 : Env _ := hE.on (unhide B4)
  clear hb4 r4 R3 B3 E3
  go_wp2_with fail
  rw [rounds_succ]
  go_wp2_with fail
  refine (join4 _ _ _ _ _ _ (unhide R4) (Ad.dig_hi _ (by omega)) (Ad.dig_hi _ (by omega)) (Ad.dig_hi _ (by omega)) (Ad.dig_hi _ (by omega))).mono ?_
  rintro e w5 ⟨rfl, hb5⟩
  go_wp2_with fail
  go_ret
  refine ⟨ret_str ?_, Below.then (unhide B4) hb5⟩
  rw [Ad.txt, show (a / 16777216).toNat = a.toNat / 16777216 from by omega, show (a / 65536 % 256).toNat = a.toNat / 65536 % 256 from by omega, show (a / 256 % 256).toNat = a.toNat / 256 % 256 from by omega, show (a % 256).toNat = a.toNat % 256 from by omega]
end Go.Proofs.YtnnhkjjnolhaoaaDoor
