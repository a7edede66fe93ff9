/- The fixed part of a header: its twelve numbers, where they lie, the five words that they are, and what fields answers. -/
import Derived.Test.YtfppjpcolohmfaaIpIter
import Derived.Test.YtfppjpcolohmfaaCkFold
import Derived.Test.YtfppjpcolohmfaaAny
namespace Go.Proofs.Ytfppjpcolohmfaa
open Go.ChangeShapes Go.WideShapes Go.ChangeAt Go.RowKit

/-- The numbers of a fixed part lie at the head of block b. -/
def FixAt (W : World) (b : Nat) (F : Nat → Int) : Prop := ∀ k, k < 12 → W.cell? ⟨b, k, none⟩ = some (.int .i64 (F k))

theorem FixAt.on {W W' : World} {b B : Nat} {F : Nat → Int} (h : FixAt W b F) (hb : Below B W W') (hB : b < B) : FixAt W' b F := fun k hk => (hb.cell (p := ⟨b, k, none⟩) hB).trans (h k hk)
theorem FixAt.set {W : World} {b : Nat} {F : Nat → Int} (h : FixAt W b F) {p : Addr} (hp : p.block ≠ b) (u : Value) : FixAt (W.setCell p u) b F := fun k hk => by
  rw [World.cell?_of_block (w := W) (a := ⟨b, k, none⟩) (Below.heap_setCell _ _ _ _ (by simpa using fun e => hp e.symm))]; exact h k hk

/-- Each number has room. -/
def Fits12 (F : Nat → Int) : Prop := ∀ k, k < 12 → 0 ≤ F k ∧ F k < 2 ^ (fbits k).toNat

theorem fit0 {F : Nat → Int} (h : Fits12 F) : 0 ≤ F 0 ∧ F 0 < 16 := by have := h 0 (by decide); simpa [fbits] using this
theorem fit1 {F : Nat → Int} (h : Fits12 F) : 0 ≤ F 1 ∧ F 1 < 16 := by have := h 1 (by decide); simpa [fbits] using this
theorem fit2 {F : Nat → Int} (h : Fits12 F) : 0 ≤ F 2 ∧ F 2 < 256 := by have := h 2 (by decide); simpa [fbits] using this
theorem fit3 {F : Nat → Int} (h : Fits12 F) : 0 ≤ F 3 ∧ F 3 < 65536 := by have := h 3 (by decide); simpa [fbits] using this
theorem fit4 {F : Nat → Int} (h : Fits12 F) : 0 ≤ F 4 ∧ F 4 < 65536 := by have := h 4 (by decide); simpa [fbits] using this
theorem fit5 {F : Nat → Int} (h : Fits12 F) : 0 ≤ F 5 ∧ F 5 < 8 := by have := h 5 (by decide); simpa [fbits] using this
theorem fit6 {F : Nat → Int} (h : Fits12 F) : 0 ≤ F 6 ∧ F 6 < 8192 := by have := h 6 (by decide); simpa [fbits] using this
theorem fit7 {F : Nat → Int} (h : Fits12 F) : 0 ≤ F 7 ∧ F 7 < 256 := by have := h 7 (by decide); simpa [fbits] using this
theorem fit8 {F : Nat → Int} (h : Fits12 F) : 0 ≤ F 8 ∧ F 8 < 256 := by have := h 8 (by decide); simpa [fbits] using this
theorem fit9 {F : Nat → Int} (h : Fits12 F) : 0 ≤ F 9 ∧ F 9 < 65536 := by have := h 9 (by decide); simpa [fbits] using this
theorem fit10 {F : Nat → Int} (h : Fits12 F) : 0 ≤ F 10 ∧ F 10 < 4294967296 := by have := h 10 (by decide); simpa [fbits] using this
theorem fit11 {F : Nat → Int} (h : Fits12 F) : 0 ≤ F 11 ∧ F 11 < 4294967296 := by have := h 11 (by decide); simpa [fbits] using this

/-- The five words. -/
def fw0 (F : Nat → Int) : Int := ((F 0 * 16 + F 1) * 256 + F 2) * 65536 + F 3
def fw1 (F : Nat → Int) : Int := (F 4 * 8 + F 5) * 8192 + F 6
def fw2 (F : Nat → Int) : Int := (F 7 * 256 + F 8) * 65536 + F 9

/-- The word under way behind k fields, how many bits there were, and what was written. -/
def facc (F : Nat → Int) : Nat → Int
  | 1 => F 0 | 2 => F 0 * 16 + F 1 | 3 => (F 0 * 16 + F 1) * 256 + F 2
  | 5 => F 4 | 6 => F 4 * 8 + F 5
  | 8 => F 7 | 9 => F 7 * 256 + F 8
  | _ => 0
def fat : Nat → Int
  | 0 => 0 | 1 => 4 | 2 => 8 | 3 => 16 | 4 => 32 | 5 => 48 | 6 => 51 | 7 => 64 | 8 => 72 | 9 => 80 | 10 => 96 | 11 => 128 | _ => 160
def b4 (n : Int) : ByteArray := ⟨(Oct.be 4 n.toNat).toArray⟩
def fout (F : Nat → Int) : Nat → ByteArray
  | 0 => ⟨#[]⟩ | 1 => ⟨#[]⟩ | 2 => ⟨#[]⟩ | 3 => ⟨#[]⟩
  | 4 => b4 (fw0 F) | 5 => b4 (fw0 F) | 6 => b4 (fw0 F)
  | 7 => b4 (fw0 F) ++ b4 (fw1 F) | 8 => b4 (fw0 F) ++ b4 (fw1 F) | 9 => b4 (fw0 F) ++ b4 (fw1 F)
  | 10 => b4 (fw0 F) ++ b4 (fw1 F) ++ b4 (fw2 F)
  | 11 => b4 (fw0 F) ++ b4 (fw1 F) ++ b4 (fw2 F) ++ b4 (F 10)
  | _ => b4 (fw0 F) ++ b4 (fw1 F) ++ b4 (fw2 F) ++ b4 (F 10) ++ b4 (F 11)
/-- A fixed part as it stands in a packet. -/
def ftext (F : Nat → Int) : ByteArray := fout F 12
theorem b4_size (n : Int) : (b4 n).size = 4 := by unfold b4; rw [Oct.mk_size, Oct.be_length]
theorem ftext_size (F : Nat → Int) : (ftext F).size = 20 := by simp only [ftext, fout, ByteArray.size_append, b4_size]

theorem put4_any (n : Int) (w : World) (h0 : 0 ≤ n) (h1 : n < 4294967296) :
    Calls Try.prog 41 #[.int .i64 4, .int .i64 n] w fun e w' => e = .returned (.tuple #[.string (b4 n), .bool true]) ∧ Below w.heap.size w w' := put4 n w h0 h1

theorem Above.of_below {B : Nat} {W W' : World} (h : Below W.heap.size W W') : Above B W W' := ⟨h.size, fun k _ hk => h.block k hk⟩

set_option maxHeartbeats 400000 in
theorem fields_any (p : Addr) (w : World) :
    Calls Try.prog 29 #[.pointer (some p)] w fun e w' => e = .returned (.func (.func 43) #[] #[.pointer (some ⟨w.heap.size, 0, none⟩)]) ∧ w' = w.alloc (.cells #[.pointer (some p)] 78) := by
  go_enter Try.func29, Try.ntmps29
  go_wp2
  go_ret
  exact ⟨rfl, rfl⟩

set_option maxHeartbeats 400000 in
theorem size_any (b : Nat) (F : Nat → Int) (w : World) (h : FixAt w b F) (h0 : 0 ≤ F 1) (h1 : F 1 ≤ 1000) :
    Calls Try.prog 24 #[.pointer (some ⟨b, 0, none⟩)] w fun e w' => e = .returned (.int .i64 (F 1 * 4)) ∧ w' = w := by
  have hc := h 1 (by decide)
  go_enter Try.func24, Try.ntmps24
  go_wp2
  go_ret
  exact ⟨rfl, rfl⟩
end Go.Proofs.Ytfppjpcolohmfaa
