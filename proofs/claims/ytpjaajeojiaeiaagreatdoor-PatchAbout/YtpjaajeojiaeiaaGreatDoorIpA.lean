/- Contracts and mathematics of the layers below (IpIter, IpFix, IpText, IpSet, IpRead). -/
import Derived.Test.YtpjaajeojiaeiaaGreatDoorChecked
import Derived.Test.YtpjaajeojiaeiaaGreatDoorCk
import Derived.Shelf.RegionOpen
import Derived.OpenShut
import Derived.WalkSpells
import Derived.WalkLawsBesides
import Derived.Handy
import Derived.Below
import Derived.Test.YtpjaajeojiaeiaaGreatDoorBs
import Derived.RegionIn
import Derived.Laws.BitsLemmas
import Derived.Test.YtpjaajeojiaeiaaGreatDoorRg
/- The fields of a header, which are ranged over: what fields hands on. -/
namespace Go.Proofs.YtpjaajeojiaeiaaGreatDoor.Ip
open Go.ChangeShapes Go.WideShapes Go.ChangeAt Go.RowKit Go.Shelf
attribute [local go_sem] Oper.semAt_some
theorem wide_fn (f : FuncId) : Fence.wide.fn f = True := rfl
attribute [local go_sem] wide_fn

/-- How many bits a field has. -/
def fbits : Nat → Int
 | 0 => 4 | 1 => 4 | 2 => 8 | 3 => 16 | 4 => 16 | 5 => 3 | 6 => 13 | 7 => 8 | 8 => 8 | 9 => 16 | 10 => 32 | _ => 32

set_option maxRecDepth 100000 in
set_option maxHeartbeats 20000000 in
theorem fields1_gives (Bs Bf B0 : Nat) (W0 : World) (hB : B0 ≤ Bs) (hc : W0.cell? ⟨Bs, 0, none⟩ = some (.pointer (some ⟨Bf, 0, none⟩))) :
  Gives Tryz.prog 153 #[.pointer (some ⟨Bs, 0, none⟩)] (fun k => #[.int .i64 (fbits k), .pointer (some ⟨Bf, k, none⟩)]) 12 B0 W0 := by
 intro l J Jx hl hJ hJx hY h0
 refine callsIn_of_wp Tryz.func153 rfl trivial ?_ rfl
 simp only [Tryz.ntmps153, List.size_toArray, List.length_cons, List.length_nil, Nat.reduceAdd, Nat.reduceSub, Array.replicate_succ, Array.replicate_zero, List.push_toArray, List.append_toArray, List.nil_append, List.cons_append]
 obtain ⟨fn0, tmps0, assign0, body0, hy0, hR0⟩ := hY 0 W0 (by decide) h0
 simp only [fbits] at hy0
 gi_wp2
 clear hy0
 refine ⟨rfl, hR0.mono ?_⟩
 clear hR0
 rintro e W1 (⟨rfl, hJ0, hA0⟩ | ⟨rfl, hJx0, hA0⟩)
 case inr =>
  gi_wp2
  go_end0
  exact ⟨⟨_, rfl⟩, .inr ⟨1, by decide, hJx0⟩⟩
 have hc0 := hA0.cell (p := ⟨Bs, 0, none⟩) hB hc
 clear hA0
 obtain ⟨fn1, tmps1, assign1, body1, hy1, hR1⟩ := hY 1 W1 (by decide) hJ0
 simp only [fbits] at hy1
 gi_wp2
 clear hy1
 refine ⟨rfl, hR1.mono ?_⟩
 clear hR1
 rintro e W2 (⟨rfl, hJ1, hA1⟩ | ⟨rfl, hJx1, hA1⟩)
 case inr =>
  gi_wp2
  go_end0
  exact ⟨⟨_, rfl⟩, .inr ⟨2, by decide, hJx1⟩⟩
 have hc1 := hA1.cell (p := ⟨Bs, 0, none⟩) hB hc0
 clear hA1
 obtain ⟨fn2, tmps2, assign2, body2, hy2, hR2⟩ := hY 2 W2 (by decide) hJ1
 simp only [fbits] at hy2
 gi_wp2
 clear hy2
 refine ⟨rfl, hR2.mono ?_⟩
 clear hR2
 rintro e W3 (⟨rfl, hJ2, hA2⟩ | ⟨rfl, hJx2, hA2⟩)
 case inr =>
  gi_wp2
  go_end0
  exact ⟨⟨_, rfl⟩, .inr ⟨3, by decide, hJx2⟩⟩
 have hc2 := hA2.cell (p := ⟨Bs, 0, none⟩) hB hc1
 clear hA2
 obtain ⟨fn3, tmps3, assign3, body3, hy3, hR3⟩ := hY 3 W3 (by decide) hJ2
 simp only [fbits] at hy3
 gi_wp2
 clear hy3
 refine ⟨rfl, hR3.mono ?_⟩
 clear hR3
 rintro e W4 (⟨rfl, hJ3, hA3⟩ | ⟨rfl, hJx3, hA3⟩)
 case inr =>
  gi_wp2
  go_end0
  exact ⟨⟨_, rfl⟩, .inr ⟨4, by decide, hJx3⟩⟩
 have hc3 := hA3.cell (p := ⟨Bs, 0, none⟩) hB hc2
 clear hA3
 obtain ⟨fn4, tmps4, assign4, body4, hy4, hR4⟩ := hY 4 W4 (by decide) hJ3
 simp only [fbits] at hy4
 gi_wp2
 clear hy4
 refine ⟨rfl, hR4.mono ?_⟩
 clear hR4
 rintro e W5 (⟨rfl, hJ4, hA4⟩ | ⟨rfl, hJx4, hA4⟩)
 case inr =>
  gi_wp2
  go_end0
  exact ⟨⟨_, rfl⟩, .inr ⟨5, by decide, hJx4⟩⟩
 have hc4 := hA4.cell (p := ⟨Bs, 0, none⟩) hB hc3
 clear hA4
 obtain ⟨fn5, tmps5, assign5, body5, hy5, hR5⟩ := hY 5 W5 (by decide) hJ4
 simp only [fbits] at hy5
 gi_wp2
 clear hy5
 refine ⟨rfl, hR5.mono ?_⟩
 clear hR5
 rintro e W6 (⟨rfl, hJ5, hA5⟩ | ⟨rfl, hJx5, hA5⟩)
 case inr =>
  gi_wp2
  go_end0
  exact ⟨⟨_, rfl⟩, .inr ⟨6, by decide, hJx5⟩⟩
 have hc5 := hA5.cell (p := ⟨Bs, 0, none⟩) hB hc4
 clear hA5
 obtain ⟨fn6, tmps6, assign6, body6, hy6, hR6⟩ := hY 6 W6 (by decide) hJ5
 simp only [fbits] at hy6
 gi_wp2
 clear hy6
 refine ⟨rfl, hR6.mono ?_⟩
 clear hR6
 rintro e W7 (⟨rfl, hJ6, hA6⟩ | ⟨rfl, hJx6, hA6⟩)
 case inr =>
  gi_wp2
  go_end0
  exact ⟨⟨_, rfl⟩, .inr ⟨7, by decide, hJx6⟩⟩
 have hc6 := hA6.cell (p := ⟨Bs, 0, none⟩) hB hc5
 clear hA6
 obtain ⟨fn7, tmps7, assign7, body7, hy7, hR7⟩ := hY 7 W7 (by decide) hJ6
 simp only [fbits] at hy7
 gi_wp2
 clear hy7
 refine ⟨rfl, hR7.mono ?_⟩
 clear hR7
 rintro e W8 (⟨rfl, hJ7, hA7⟩ | ⟨rfl, hJx7, hA7⟩)
 case inr =>
  gi_wp2
  go_end0
  exact ⟨⟨_, rfl⟩, .inr ⟨8, by decide, hJx7⟩⟩
 have hc7 := hA7.cell (p := ⟨Bs, 0, none⟩) hB hc6
 clear hA7
 obtain ⟨fn8, tmps8, assign8, body8, hy8, hR8⟩ := hY 8 W8 (by decide) hJ7
 simp only [fbits] at hy8
 gi_wp2
 clear hy8
 refine ⟨rfl, hR8.mono ?_⟩
 clear hR8
 rintro e W9 (⟨rfl, hJ8, hA8⟩ | ⟨rfl, hJx8, hA8⟩)
 case inr =>
  gi_wp2
  go_end0
  exact ⟨⟨_, rfl⟩, .inr ⟨9, by decide, hJx8⟩⟩
 have hc8 := hA8.cell (p := ⟨Bs, 0, none⟩) hB hc7
 clear hA8
 obtain ⟨fn9, tmps9, assign9, body9, hy9, hR9⟩ := hY 9 W9 (by decide) hJ8
 simp only [fbits] at hy9
 gi_wp2
 clear hy9
 refine ⟨rfl, hR9.mono ?_⟩
 clear hR9
 rintro e W10 (⟨rfl, hJ9, hA9⟩ | ⟨rfl, hJx9, hA9⟩)
 case inr =>
  gi_wp2
  go_end0
  exact ⟨⟨_, rfl⟩, .inr ⟨10, by decide, hJx9⟩⟩
 have hc9 := hA9.cell (p := ⟨Bs, 0, none⟩) hB hc8
 clear hA9
 obtain ⟨fn10, tmps10, assign10, body10, hy10, hR10⟩ := hY 10 W10 (by decide) hJ9
 simp only [fbits] at hy10
 gi_wp2
 clear hy10
 refine ⟨rfl, hR10.mono ?_⟩
 clear hR10
 rintro e W11 (⟨rfl, hJ10, hA10⟩ | ⟨rfl, hJx10, hA10⟩)
 case inr =>
  gi_wp2
  go_end0
  exact ⟨⟨_, rfl⟩, .inr ⟨11, by decide, hJx10⟩⟩
 have hc10 := hA10.cell (p := ⟨Bs, 0, none⟩) hB hc9
 clear hA10
 obtain ⟨fn11, tmps11, assign11, body11, hy11, hR11⟩ := hY 11 W11 (by decide) hJ10
 simp only [fbits] at hy11
 gi_wp2
 clear hy11
 refine ⟨rfl, hR11.mono ?_⟩
 clear hR11
 rintro e W12 (⟨rfl, hJ11, hA11⟩ | ⟨rfl, hJx11, hA11⟩)
 case inr =>
  gi_wp2
  go_end0
  exact ⟨⟨_, rfl⟩, .inr ⟨12, by decide, hJx11⟩⟩
 gi_wp2
 go_end0
 exact ⟨⟨_, rfl⟩, .inl hJ11⟩
end Go.Proofs.YtpjaajeojiaeiaaGreatDoor.Ip

/- The fixed part of a header: its twelve numbers, where they lie, the five words that they are, and what fields answers. -/
namespace Go.Proofs.YtpjaajeojiaeiaaGreatDoor.Ip
open Go.ChangeShapes Go.WideShapes Go.ChangeAt Go.RowKit

/-- The numbers of a fixed part lie at the head of block b. -/
def FixAt (W : World) (b : Nat) (F : Nat → Int) : Prop := ∀ k, k < 12 → W.cell? ⟨b, k, none⟩ = some (.int .i64 (F k))

theorem FixAt.on {W W' : World} {b B : Nat} {F : Nat → Int} (h : FixAt W b F) (hb : Below B W W') (hB : b < B) : FixAt W' b F := fun k hk => (hb.cell (p := ⟨b, k, none⟩) hB).trans (h k hk)
theorem FixAt.set {W : World} {b : Nat} {F : Nat → Int} (h : FixAt W b F) {p : Addr} (hp : p.block ≠ b) (u : Value) : FixAt (W.setCell p u) b F := fun k hk => by
 rw [World.cell?_of_block (w := W) (a := ⟨b, k, none⟩) (Below.heap_setCell _ _ _ _ (by simpa using fun e => hp e.symm))]; exact h k hk

/-- Each number has room. -/
def Fits12 (F : Nat → Int) : Prop := ∀ k, k < 12 → 0 ≤ F k ∧ F k < 2 ^ (fbits k).toNat

theorem fit0 {F : Nat → Int} (h : Fits12 F) : 0 ≤ F 0 ∧ F 0 < 16 := by have := h 0 (by decide); simpa [fbits] using this
theorem fit1 {F : Nat → Int} (h : Fits12 F) : 0 ≤ F 1 ∧ F 1 < 16 := by have := h 1 (by decide); simpa [fbits] using this
theorem fit2 {F : Nat → Int} (h : Fits12 F) : 0 ≤ F 2 ∧ F 2 < 256 := by have := h 2 (by decide); simpa [fbits] using this
theorem fit3 {F : Nat → Int} (h : Fits12 F) : 0 ≤ F 3 ∧ F 3 < 65536 := by have := h 3 (by decide); simpa [fbits] using this
theorem fit4 {F : Nat → Int} (h : Fits12 F) : 0 ≤ F 4 ∧ F 4 < 65536 := by have := h 4 (by decide); simpa [fbits] using this
theorem fit5 {F : Nat → Int} (h : Fits12 F) : 0 ≤ F 5 ∧ F 5 < 8 := by have := h 5 (by decide); simpa [fbits] using this
theorem fit6 {F : Nat → Int} (h : Fits12 F) : 0 ≤ F 6 ∧ F 6 < 8192 := by have := h 6 (by decide); simpa [fbits] using this
theorem fit7 {F : Nat → Int} (h : Fits12 F) : 0 ≤ F 7 ∧ F 7 < 256 := by have := h 7 (by decide); simpa [fbits] using this
theorem fit8 {F : Nat → Int} (h : Fits12 F) : 0 ≤ F 8 ∧ F 8 < 256 := by have := h 8 (by decide); simpa [fbits] using this
theorem fit9 {F : Nat → Int} (h : Fits12 F) : 0 ≤ F 9 ∧ F 9 < 65536 := by have := h 9 (by decide); simpa [fbits] using this
theorem fit10 {F : Nat → Int} (h : Fits12 F) : 0 ≤ F 10 ∧ F 10 < 4294967296 := by have := h 10 (by decide); simpa [fbits] using this
theorem fit11 {F : Nat → Int} (h : Fits12 F) : 0 ≤ F 11 ∧ F 11 < 4294967296 := by have := h 11 (by decide); simpa [fbits] using this

/-- The five words. -/
def fw0 (F : Nat → Int) : Int := ((F 0 * 16 + F 1) * 256 + F 2) * 65536 + F 3
def fw1 (F : Nat → Int) : Int := (F 4 * 8 + F 5) * 8192 + F 6
def fw2 (F : Nat → Int) : Int := (F 7 * 256 + F 8) * 65536 + F 9

/-- The word under way behind k fields, how many bits there were, and what was written. -/
def facc (F : Nat → Int) : Nat → Int
 | 1 => F 0 | 2 => F 0 * 16 + F 1 | 3 => (F 0 * 16 + F 1) * 256 + F 2
 | 5 => F 4 | 6 => F 4 * 8 + F 5
 | 8 => F 7 | 9 => F 7 * 256 + F 8
 | _ => 0
def fat : Nat → Int
 | 0 => 0 | 1 => 4 | 2 => 8 | 3 => 16 | 4 => 32 | 5 => 48 | 6 => 51 | 7 => 64 | 8 => 72 | 9 => 80 | 10 => 96 | 11 => 128 | _ => 160
def b4 (n : Int) : ByteArray := ⟨(Oct.be 4 n.toNat).toArray⟩
def fout (F : Nat → Int) : Nat → ByteArray
 | 0 => ⟨#[]⟩ | 1 => ⟨#[]⟩ | 2 => ⟨#[]⟩ | 3 => ⟨#[]⟩
 | 4 => b4 (fw0 F) | 5 => b4 (fw0 F) | 6 => b4 (fw0 F)
 | 7 => b4 (fw0 F) ++ b4 (fw1 F) | 8 => b4 (fw0 F) ++ b4 (fw1 F) | 9 => b4 (fw0 F) ++ b4 (fw1 F)
 | 10 => b4 (fw0 F) ++ b4 (fw1 F) ++ b4 (fw2 F)
 | 11 => b4 (fw0 F) ++ b4 (fw1 F) ++ b4 (fw2 F) ++ b4 (F 10)
 | _ => b4 (fw0 F) ++ b4 (fw1 F) ++ b4 (fw2 F) ++ b4 (F 10) ++ b4 (F 11)
/-- A fixed part as it stands in a packet. -/
def ftext (F : Nat → Int) : ByteArray := fout F 12
theorem b4_size (n : Int) : (b4 n).size = 4 := by unfold b4; rw [Oct.mk_size, Oct.be_length]
theorem ftext_size (F : Nat → Int) : (ftext F).size = 20 := by simp only [ftext, fout, ByteArray.size_append, b4_size]

set_option maxHeartbeats 400000 in
theorem fields_any (p : Addr) (w : World) :
  Calls Tryz.prog 136 #[.pointer (some p)] w fun e w' => e = .returned (.func (.func 153) #[] #[.pointer (some ⟨w.heap.size, 0, none⟩)]) ∧ w' = w.alloc (.cells #[.pointer (some p)] 149) := by
 go_enter Tryz.func136, Tryz.ntmps136
 go_wp2
 go_ret
 exact ⟨rfl, rfl⟩

set_option maxHeartbeats 400000 in
theorem size_any (b : Nat) (F : Nat → Int) (w : World) (h : FixAt w b F) (h0 : 0 ≤ F 1) (h1 : F 1 ≤ 1000) :
  Calls Tryz.prog 65 #[.pointer (some ⟨b, 0, none⟩)] w fun e w' => e = .returned (.int .i64 (F 1 * 4)) ∧ w' = w := by
 have hc := h 1 (by decide)
 go_enter Tryz.func65, Tryz.ntmps65
 go_wp2
 go_ret
 exact ⟨rfl, rfl⟩
end Go.Proofs.YtpjaajeojiaeiaaGreatDoor.Ip

/- What (*fixed).text computes: the five words of a fixed part, one behind the other. -/
namespace Go.Proofs.YtpjaajeojiaeiaaGreatDoor.Ip
open Go.ChangeShapes Go.WideShapes Go.ChangeAt Go.RowKit Go.Shelf
attribute [local go_sem] Oper.semAt_some

/-- What lies behind k fields. -/
structure TextI (w : World) (b : Nat) (F : Nat → Int) (k : Nat) (W : World) : Prop where
 oc : W.cell? ⟨w.heap.size, 0, none⟩ = some (.string (fout F k))
 of : W.frozen? ⟨w.heap.size, 0, none⟩ = false
 wc : W.cell? ⟨w.heap.size + 1, 0, none⟩ = some (.int .i64 (facc F k))
 wf : W.frozen? ⟨w.heap.size + 1, 0, none⟩ = false
 ac : W.cell? ⟨w.heap.size + 1 + 1, 0, none⟩ = some (.int .i64 (fat k))
 af : W.frozen? ⟨w.heap.size + 1 + 1, 0, none⟩ = false
 fix : FixAt W b F
 below : Below w.heap.size w W

theorem TextI.on {w : World} {b : Nat} {F : Nat → Int} {k B : Nat} {W W' : World} (h : TextI w b F k W) (hb : Below B W W') (hB : w.heap.size + 3 ≤ B) (hbw : b < w.heap.size) : TextI w b F k W' :=
 ⟨(hb.cell (p := ⟨w.heap.size, 0, none⟩) (by simp <;> omega)).trans h.oc, (hb.frozen (p := ⟨w.heap.size, 0, none⟩) (by simp <;> omega)).trans h.of,
  (hb.cell (p := ⟨w.heap.size + 1, 0, none⟩) (by simp <;> omega)).trans h.wc, (hb.frozen (p := ⟨w.heap.size + 1, 0, none⟩) (by simp <;> omega)).trans h.wf,
  (hb.cell (p := ⟨w.heap.size + 1 + 1, 0, none⟩) (by simp <;> omega)).trans h.ac, (hb.frozen (p := ⟨w.heap.size + 1 + 1, 0, none⟩) (by simp <;> omega)).trans h.af,
  h.fix.on hb (by omega), h.below.trans (hb.mono (by omega))⟩

structure TextM (w : World) (b : Nat) (F : Nat → Int) (o : ByteArray) (x y : Int) (W : World) : Prop where
 oc : W.cell? ⟨w.heap.size, 0, none⟩ = some (.string o)
 of : W.frozen? ⟨w.heap.size, 0, none⟩ = false
 wc : W.cell? ⟨w.heap.size + 1, 0, none⟩ = some (.int .i64 x)
 wf : W.frozen? ⟨w.heap.size + 1, 0, none⟩ = false
 ac : W.cell? ⟨w.heap.size + 1 + 1, 0, none⟩ = some (.int .i64 y)
 af : W.frozen? ⟨w.heap.size + 1 + 1, 0, none⟩ = false
 fix : FixAt W b F
 below : Below w.heap.size w W
theorem TextM.on {w : World} {b : Nat} {F : Nat → Int} {o : ByteArray} {x y : Int} {B : Nat} {W W' : World} (h : TextM w b F o x y W) (hb : Below B W W') (hB : w.heap.size + 3 ≤ B) (hbw : b < w.heap.size) : TextM w b F o x y W' :=
 ⟨(hb.cell (p := ⟨w.heap.size, 0, none⟩) (by simp; omega)).trans h.oc, (hb.frozen (p := ⟨w.heap.size, 0, none⟩) (by simp; omega)).trans h.of,
  (hb.cell (p := ⟨w.heap.size + 1, 0, none⟩) (by simp; omega)).trans h.wc, (hb.frozen (p := ⟨w.heap.size + 1, 0, none⟩) (by simp; omega)).trans h.wf,
  (hb.cell (p := ⟨w.heap.size + 1 + 1, 0, none⟩) (by simp; omega)).trans h.ac, (hb.frozen (p := ⟨w.heap.size + 1 + 1, 0, none⟩) (by simp; omega)).trans h.af,
  h.fix.on hb (by omega), h.below.trans (hb.mono (by omega))⟩
theorem TextI.lt {w : World} {b : Nat} {F : Nat → Int} {k : Nat} {W : World} (h : TextI w b F k W) : w.heap.size + 3 ≤ W.heap.size := by have := block_lt_of_cell h.ac; simp at this; omega
end Go.Proofs.YtpjaajeojiaeiaaGreatDoor.Ip

/- Twelve numbers stored at the head of a block, and what lies there then. -/
namespace Go.Proofs.YtpjaajeojiaeiaaGreatDoor.Ip
open Go.RowKit

/-- Twelve numbers are stored at the head of a block. -/
def set12 (W : World) (b : Nat) (F : Nat → Int) : World := (((((((((((W.setCell ⟨b, 0, none⟩ (.int .i64 (F 0))).setCell ⟨b, 1, none⟩ (.int .i64 (F 1))).setCell ⟨b, 2, none⟩ (.int .i64 (F 2))).setCell ⟨b, 3, none⟩ (.int .i64 (F 3))).setCell ⟨b, 4, none⟩ (.int .i64 (F 4))).setCell ⟨b, 5, none⟩ (.int .i64 (F 5))).setCell ⟨b, 6, none⟩ (.int .i64 (F 6))).setCell ⟨b, 7, none⟩ (.int .i64 (F 7))).setCell ⟨b, 8, none⟩ (.int .i64 (F 8))).setCell ⟨b, 9, none⟩ (.int .i64 (F 9))).setCell ⟨b, 10, none⟩ (.int .i64 (F 10))).setCell ⟨b, 11, none⟩ (.int .i64 (F 11))
theorem set12_heap (W : World) (b : Nat) (F : Nat → Int) (k : Nat) (h : k ≠ b) : (set12 W b F).heap[k]? = W.heap[k]? := by
 unfold set12
 rw [Below.heap_setCell _ _ _ _ h, Below.heap_setCell _ _ _ _ h, Below.heap_setCell _ _ _ _ h, Below.heap_setCell _ _ _ _ h, Below.heap_setCell _ _ _ _ h, Below.heap_setCell _ _ _ _ h, Below.heap_setCell _ _ _ _ h, Below.heap_setCell _ _ _ _ h, Below.heap_setCell _ _ _ _ h, Below.heap_setCell _ _ _ _ h, Below.heap_setCell _ _ _ _ h, Below.heap_setCell _ _ _ _ h]
theorem set12_below {B : Nat} {U W : World} (h : Below B U W) (b : Nat) (F : Nat → Int) (hb : B ≤ b) : Below B U (set12 W b F) :=
 ((((((((((((h).setCell (p := ⟨b, 0, none⟩) hb _).setCell (p := ⟨b, 1, none⟩) hb _).setCell (p := ⟨b, 2, none⟩) hb _).setCell (p := ⟨b, 3, none⟩) hb _).setCell (p := ⟨b, 4, none⟩) hb _).setCell (p := ⟨b, 5, none⟩) hb _).setCell (p := ⟨b, 6, none⟩) hb _).setCell (p := ⟨b, 7, none⟩) hb _).setCell (p := ⟨b, 8, none⟩) hb _).setCell (p := ⟨b, 9, none⟩) hb _).setCell (p := ⟨b, 10, none⟩) hb _).setCell (p := ⟨b, 11, none⟩) hb _
theorem fix_step {W : World} {b : Nat} {F G : Nat → Int} (j : Nat) (h : FixAt W b fun i => if i < j then F i else G i) : FixAt (W.setCell ⟨b, j, none⟩ (.int .i64 (F j))) b fun i => if i < j + 1 then F i else G i := by
 intro i hi
 by_cases e : i = j
 ·subst e
  simp only [show i < i + 1 from Nat.lt_succ_self i, if_true]
  exact World.cell?_setCell_same _ _ _ (h i hi)
 ·rw [World.cell?_setCell_other _ _ _ _ (fun h => by cases h; omega), h i hi]
  by_cases h1 : i < j
  ·simp only [h1, show i < j + 1 from by omega, if_true]
  ·simp only [h1, show ¬ i < j + 1 from by omega, if_false]
theorem set12_fix {W : World} {b : Nat} {G : Nat → Int} (F : Nat → Int) (h : FixAt W b G) : FixAt (set12 W b F) b F := by
 have h0 : FixAt W b fun i => if i < 0 then F i else G i := fun i hi => by simpa using h i hi
 have := fix_step 11 (fix_step 10 (fix_step 9 (fix_step 8 (fix_step 7 (fix_step 6 (fix_step 5 (fix_step 4 (fix_step 3 (fix_step 2 (fix_step 1 (fix_step 0 h0)))))))))))
 intro i hi
 have e := this i hi
 simp only [show i < 11 + 1 from by omega, if_true] at e
 exact e
theorem cell_putObj {W : World} {l : Nat} {o : Obj} {p : Addr} (h : p.block ≠ l) : (W.putObj l o).cell? p = W.cell? p := World.cell?_of_block (w := W) (World.putObj_heap_other h)
theorem FixAt.putObj {W : World} {b l : Nat} {F : Nat → Int} (h : FixAt W b F) (hl : b ≠ l) (o : Obj) : FixAt (W.putObj l o) b F := fun k hk => (cell_putObj hl).trans (h k hk)

end Go.Proofs.YtpjaajeojiaeiaaGreatDoor.Ip

/- What read computes: the twelve numbers that the first twenty bytes of a text are. -/
namespace Go.Proofs.YtpjaajeojiaeiaaGreatDoor.Ip
open Go.ChangeShapes Go.WideShapes Go.ChangeAt Go.RowKit Go.Shelf
attribute [local go_sem] Oper.semAt_some

/-- How many bits stand below field k in its word. -/
def fbel (k : Nat) : Int := 32 - fat k % 32 - fbits k
/-- The word that field k stands in, and its number. -/
def fword (s : ByteArray) (k : Nat) : Int := Oct.num ((s.data.toList.drop (fat k / 32 * 4).toNat).take 4)
def fget (s : ByteArray) (k : Nat) : Int := fword s k / 2 ^ (fbel k).toNat % 2 ^ (fbits k).toNat
/-- The numbers behind k fields. -/
def fpart (s : ByteArray) (k j : Nat) : Int := if j < k then fget s j else 0

/-- What lies behind k fields. -/
structure ReadI (w : World) (s : ByteArray) (k : Nat) (W : World) : Prop where
 sc : W.cell? ⟨w.heap.size, 0, none⟩ = some (.string s)
 rf : ∀ j, W.frozen? ⟨w.heap.size + 1, j, none⟩ = false
 rc : ∀ j, j < 12 → W.cell? ⟨w.heap.size + 1, j, none⟩ = some (.int .i64 0)
 fc : FixAt W (w.heap.size + 1 + 1) (fpart s k)
 ff : ∀ j, W.frozen? ⟨w.heap.size + 1 + 1, j, none⟩ = false
 ac : W.cell? ⟨w.heap.size + 1 + 1 + 1, 0, none⟩ = some (.int .i64 (fat k))
 af : W.frozen? ⟨w.heap.size + 1 + 1 + 1, 0, none⟩ = false
 below : Below w.heap.size w W

theorem ReadI.on {w : World} {s : ByteArray} {k B : Nat} {W W' : World} (h : ReadI w s k W) (hb : Below B W W') (hB : w.heap.size + 4 ≤ B) : ReadI w s k W' :=
 ⟨(hb.cell (p := ⟨w.heap.size, 0, none⟩) (by simp; omega)).trans h.sc,
  fun j => (hb.frozen (p := ⟨w.heap.size + 1, j, none⟩) (by simp; omega)).trans (h.rf j), fun j hj => (hb.cell (p := ⟨w.heap.size + 1, j, none⟩) (by simp; omega)).trans (h.rc j hj),
  h.fc.on hb (by omega), fun j => (hb.frozen (p := ⟨w.heap.size + 1 + 1, j, none⟩) (by simp; omega)).trans (h.ff j),
  (hb.cell (p := ⟨w.heap.size + 1 + 1 + 1, 0, none⟩) (by simp; omega)).trans h.ac, (hb.frozen (p := ⟨w.heap.size + 1 + 1 + 1, 0, none⟩) (by simp; omega)).trans h.af,
  h.below.trans (hb.mono (by omega))⟩

theorem twelve {k : Nat} (h : k < 12) : k = 0 ∨ k = 1 ∨ k = 2 ∨ k = 3 ∨ k = 4 ∨ k = 5 ∨ k = 6 ∨ k = 7 ∨ k = 8 ∨ k = 9 ∨ k = 10 ∨ k = 11 := by omega
theorem fword_lo (s : ByteArray) (k : Nat) : 0 ≤ fword s k := Int.natCast_nonneg _
theorem fword_hi (s : ByteArray) (k : Nat) : fword s k < 4294967296 := by
 unfold fword
 have h1 : ((s.data.toList.drop (fat k / 32 * 4).toNat).take 4).length ≤ 4 := by rw [List.length_take]; omega
 have h2 := Oct.num_lt _ ((s.data.toList.drop (fat k / 32 * 4).toNat).take 4) rfl
 have h3 : 256 ^ ((s.data.toList.drop (fat k / 32 * 4).toNat).take 4).length ≤ 256 ^ 4 := Nat.pow_le_pow_right (by decide) h1
 omega
/-- What one more field does. -/
structure ReadS (s : ByteArray) (k : Nat) : Prop where
 b0 : 0 ≤ fbits k
 b1 : fbits k ≤ 32
 a0 : 0 ≤ fat k
 a1 : fat k + fbits k = fat (k + 1)
 a2 : fat (k + 1) ≤ 160
 p0 : 0 ≤ fat k / 32 * 4
 p1 : fat k / 32 * 4 ≤ 16
 e0 : 0 ≤ 32 - fat k % 32 - fbits k
 e1 : 32 - fat k % 32 - fbits k ≤ 32
 hand : bits .and .i64 (fword s k / 2 ^ (32 - fat k % 32 - fbits k).toNat) (IntKind.i64.wrap (2 ^ (fbits k).toNat) - 1) = fget s k
 m1 : IntKind.i64.wrap (IntKind.i64.wrap (2 ^ (fbits k).toNat) - 1) = IntKind.i64.wrap (2 ^ (fbits k).toNat) - 1
theorem read_step (s : ByteArray) (k : Nat) (hk : k < 12) : ReadS s k := by
 have hb : 0 ≤ fbits k ∧ fbits k ≤ 32 ∧ 0 ≤ fat k ∧ fat k + fbits k = fat (k + 1) ∧ fat (k + 1) ≤ 160 ∧ 0 ≤ fat k / 32 * 4 ∧ fat k / 32 * 4 ≤ 16 ∧ 0 ≤ 32 - fat k % 32 - fbits k ∧ 32 - fat k % 32 - fbits k ≤ 32 := by
  rcases twelve hk with rfl | rfl | rfl | rfl | rfl | rfl | rfl | rfl | rfl | rfl | rfl | rfl <;> decide
 obtain ⟨b0, b1, a0, a1, a2, p0, p1, e0, e1⟩ := hb
 have hp : (2 : Int) ^ (fbits k).toNat ≤ 4294967296 ∧ 1 ≤ (2 : Int) ^ (fbits k).toNat := by
  rcases twelve hk with rfl | rfl | rfl | rfl | rfl | rfl | rfl | rfl | rfl | rfl | rfl | rfl <;> decide
 have hw : IntKind.i64.wrap (2 ^ (fbits k).toNat) = 2 ^ (fbits k).toNat := Oct.wraps_i64 _ (by omega) (by omega)
 refine ⟨b0, b1, a0, a1, a2, p0, p1, e0, e1, ?_, ?_⟩
 ·rw [hw]
  have h0 : 0 ≤ fword s k / 2 ^ (32 - fat k % 32 - fbits k).toNat := Int.ediv_nonneg (fword_lo s k) (Int.le_of_lt (Int.pow_pos (by decide)))
  have h1 : fword s k / 2 ^ (32 - fat k % 32 - fbits k).toNat ≤ fword s k := Int.ediv_le_self _ (fword_lo s k)
  have h2 := fword_hi s k
  exact bits_mask .i64 40 (by decide) Oct.wraps_i64 (fbits k).toNat (by omega) _ h0 (by omega)
 ·rw [hw]; exact Oct.wraps_i64 _ (by omega) (by omega)
theorem fpart_zero (s : ByteArray) : fpart s 0 = fun _ => 0 := by funext j; simp [fpart]
theorem fpart_same (s : ByteArray) (k : Nat) : fpart s (k + 1) k = fget s k := by unfold fpart; rw [if_pos (by omega)]
theorem fpart_other (s : ByteArray) (k j : Nat) (h : j ≠ k) : fpart s (k + 1) j = fpart s k j := by unfold fpart; by_cases hj : j < k <;> simp [hj] <;> omega
theorem fpart_all (s : ByteArray) (j : Nat) (h : j < 12) : fpart s 12 j = fget s j := by unfold fpart; rw [if_pos h]
theorem ReadI.lt {w : World} {s : ByteArray} {k : Nat} {W : World} (h : ReadI w s k W) : w.heap.size + 4 ≤ W.heap.size := by have := block_lt_of_cell h.ac; simp at this; omega
theorem get_word (s : ByteArray) (k : Nat) (w : World) (hk : k < 12) (h20 : 20 ≤ s.size) (hs : s.size ≤ 281474976710656) :
  Calls Tryz.prog 84 #[.string s, .int .i64 (fat k / 32 * 4), .int .i64 4] w fun e w' => e = .returned (.tuple #[.int .i64 (fword s k), .bool true]) ∧ w' = w := by
 have st := read_step s k hk
 exact get_yes s (fat k / 32 * 4) 4 w (by unfold maxLen; omega) (by omega) (by omega) st.p0 (by have := st.p1; omega)
theorem cell_other {W : World} {p q : Addr} {v : Value} (h : p ≠ q) : (W.setCell p v).cell? q = W.cell? q := World.cell?_setCell_other W p q v h
theorem cell_same {W : World} {p : Addr} {u v : Value} (h : W.cell? p = some u) : (W.setCell p v).cell? p = some v := World.cell?_setCell_same W p v h
theorem setCell_twice (W : World) (p : Addr) (v : Value) : (W.setCell p v).setCell p v = W.setCell p v := by
 unfold World.setCell
 congr 1
 apply Array.ext
 ·simp
 ·intro i h1 h2
  simp only [Array.getElem_modify]
  split
  ·cases W.heap[i]'(by simpa using h2) <;> first | rfl | (simp; done) | (simp only; split <;> simp)
  ·rfl
theorem ne_addr {b b' o o' : Nat} (h : b ≠ b' ∨ o ≠ o') : (⟨b, o, none⟩ : Addr) ≠ ⟨b', o', none⟩ := fun e => by cases e; omega
theorem read_more {w : World} {s : ByteArray} {k : Nat} {W : World} (h : ReadI w s k W) (hk : k < 12) :
  Above (w.heap.size + 4) W (((W.drew.setCell ⟨w.heap.size + 1 + 1, k, none⟩ (.int .i64 (fget s k))).setCell ⟨w.heap.size + 1 + 1 + 1, 0, none⟩ (.int .i64 (fat (k + 1))))) ∧
  ReadI w s (k + 1) (((W.drew.setCell ⟨w.heap.size + 1 + 1, k, none⟩ (.int .i64 (fget s k))).setCell ⟨w.heap.size + 1 + 1 + 1, 0, none⟩ (.int .i64 (fat (k + 1))))) := by
 refine ⟨((((Above.refl _ _).drew).setCell (p := ⟨w.heap.size + 1 + 1, k, none⟩) (by simp) _).setCell (p := ⟨w.heap.size + 1 + 1 + 1, 0, none⟩) (by simp) _), ?_⟩
 have hd : ∀ (V : World) (a : Addr), V.drew.cell? a = V.cell? a := fun _ _ => rfl
 have hd2 : ∀ (V : World) (a : Addr), V.drew.frozen? a = V.frozen? a := fun _ _ => rfl
 refine ⟨?_, ?_, ?_, ?_, ?_, ?_, ?_, ?_⟩
 ·rw [cell_other (ne_addr (by omega)), cell_other (ne_addr (by omega)), hd]; exact h.sc
 ·intro j; rw [World.frozen?_setCell, World.frozen?_setCell, hd2]; exact h.rf j
 ·intro j hj; rw [cell_other (ne_addr (by omega)), cell_other (ne_addr (by omega)), hd]; exact h.rc j hj
 ·intro j hj
  rw [cell_other (ne_addr (by omega))]
  by_cases e : j = k
  ·subst e; rw [fpart_same]; exact cell_same (W := W.drew) (h.fc j hj)
  ·rw [cell_other (ne_addr (by omega)), fpart_other s k j e, hd]; exact h.fc j hj
 ·intro j; rw [World.frozen?_setCell, World.frozen?_setCell, hd2]; exact h.ff j
 ·exact cell_same (u := .int .i64 (fat k)) (by rw [cell_other (ne_addr (by omega)), hd]; exact h.ac)
 ·rw [World.frozen?_setCell, World.frozen?_setCell, hd2]; exact h.af
 ·exact ((h.below.drew).setCell (p := ⟨w.heap.size + 1 + 1, k, none⟩) (by simp; omega) _).setCell (p := ⟨w.heap.size + 1 + 1 + 1, 0, none⟩) (by simp; omega) _

set_option maxRecDepth 100000 in
set_option maxHeartbeats 4000000 in
theorem read_any (s : ByteArray) (w : World) (h20 : 20 ≤ s.size) (hs : s.size ≤ 281474976710656) :
  Calls Tryz.prog 100 #[.string s] w fun e w' => e = .returned (.agg #[.int .i64 (fget s 0), .int .i64 (fget s 1), .int .i64 (fget s 2), .int .i64 (fget s 3), .int .i64 (fget s 4), .int .i64 (fget s 5), .int .i64 (fget s 6), .int .i64 (fget s 7), .int .i64 (fget s 8), .int .i64 (fget s 9), .int .i64 (fget s 10), .int .i64 (fget s 11)]) ∧ Below w.heap.size w w' := by
 refine (callsIn_wide (n := 0)).1 ?_
 refine callsIn_of_wp_marks Tryz.func100 rfl trivial ?_ rfl
 simp only [Tryz.ntmps100, List.size_toArray, List.length_cons, List.length_nil, Nat.reduceAdd, Nat.reduceSub, Array.replicate_succ, Array.replicate_zero, List.push_toArray, List.append_toArray, List.nil_append, List.cons_append]
 gi_wp2
 refine ⟨trivial, rfl, (callsIn_wide.2 (fields_any _ _)).mono ?_⟩
 rintro e w' ⟨rfl, rfl⟩
 gi_wp2
 obtain ⟨V0, hV0⟩ : ∃ V0, ((((w.alloc (.cells #[.string s] 9)).alloc (.cells #[.int .i64 0, .int .i64 0, .int .i64 0, .int .i64 0, .int .i64 0, .int .i64 0, .int .i64 0, .int .i64 0, .int .i64 0, .int .i64 0, .int .i64 0, .int .i64 0] 113)).alloc (.cells #[.int .i64 0, .int .i64 0, .int .i64 0, .int .i64 0, .int .i64 0, .int .i64 0, .int .i64 0, .int .i64 0, .int .i64 0, .int .i64 0, .int .i64 0, .int .i64 0] 113)).alloc (.cells #[.int .i64 0] 3)).alloc (.cells #[.pointer (some ⟨w.heap.size + 1 + 1, 0, none⟩)] 149) = V0 := ⟨_, rfl⟩
 have hsz : V0.heap.size = w.heap.size + 5 := by rw [← hV0]; simp
 have hB0 : Below w.heap.size w V0 := by rw [← hV0]; exact (((((Below.refl _ w).alloc (Nat.le_refl _) _).alloc (by simp) _).alloc (by simp <;> omega) _).alloc (by simp <;> omega) _).alloc (by simp <;> omega) _
 have hI0 : ReadI w s 0 V0 := by
  refine ⟨by rw [← hV0]; simp [go_sem], fun j => by rw [← hV0]; simp [go_sem], ?_, ?_, fun j => by rw [← hV0]; simp [go_sem], by rw [← hV0]; simp [go_sem, fat], by rw [← hV0]; simp [go_sem], hB0⟩
  ·intro j hj
   rw [← hV0]
   rcases twelve hj with rfl | rfl | rfl | rfl | rfl | rfl | rfl | rfl | rfl | rfl | rfl | rfl <;> simp [go_sem]
  ·intro j hj
   rw [← hV0, fpart_zero]
   rcases twelve hj with rfl | rfl | rfl | rfl | rfl | rfl | rfl | rfl | rfl | rfl | rfl | rfl <;> simp [go_sem]
 have hsc : V0.cell? ⟨w.heap.size + 1 + 1 + 1 + 1, 0, none⟩ = some (.pointer (some ⟨w.heap.size + 1 + 1, 0, none⟩)) := by rw [← hV0]; simp [go_sem]
 rw [hV0]
 clear hV0 hB0
 refine wpIn_gives (gf := 153) (lb := #[.pointer (some ⟨w.heap.size + 1 + 1 + 1 + 1, 0, none⟩)]) (enc := fun k => #[.int .i64 (fbits k), .pointer (some ⟨w.heap.size + 1 + 1, k, none⟩)]) (N := 12) (B0 := w.heap.size + 4) rfl (enters_of Tryz.func153 (by kernel_rfl) rfl)
  (fun W1 hb1 hs1 => fields1_gives (w.heap.size + 1 + 1 + 1 + 1) (w.heap.size + 1 + 1) (w.heap.size + 4) W1 (by omega) ((hb1.cell (p := ⟨w.heap.size + 1 + 1 + 1 + 1, 0, none⟩) (by simp; omega)).trans hsc)) (by omega) (fun _ => rfl)
  (ReadI w s) (fun _ _ _ => False) (fun k W W' h hb' => h.on hb' (by omega)) (fun c k W W' h hb => h) hI0
  (fun k => { tmps := #[.string s, .pointer (some ⟨w.heap.size, 0, none⟩), .pointer (some ⟨w.heap.size + 1, 0, none⟩), .pointer (some ⟨w.heap.size + 1 + 1, 0, none⟩), .pointer (some ⟨w.heap.size + 1 + 1 + 1, 0, none⟩), .int .i64 (fbits k), .pointer (some ⟨w.heap.size + 1 + 1, k, none⟩), undef, undef, undef, .func (.func 153) #[] #[.pointer (some ⟨w.heap.size + 1 + 1 + 1 + 1, 0, none⟩)], .int .i64 (fbits k), .pointer (some ⟨w.heap.size + 1 + 1, k, none⟩), undef, undef, undef, undef, undef, undef, undef, undef, undef, undef, undef, undef, undef, undef, undef, undef, undef, undef, undef, undef, undef, undef, undef, undef, undef, undef], defers := [] })
  ?assign ?body ?done ?stop
 case assign =>
  intro l' k W K hK
  gi_wp2
  exact hK
 case done =>
  rintro W hI hK
  obtain ⟨hsc, hrf, hrc, hfc, hff, hac, haf, hbl⟩ := hI
  have f0 := hfc 0 (by decide)
  have f1 := hfc 1 (by decide)
  have f2 := hfc 2 (by decide)
  have f3 := hfc 3 (by decide)
  have f4 := hfc 4 (by decide)
  have f5 := hfc 5 (by decide)
  have f6 := hfc 6 (by decide)
  have f7 := hfc 7 (by decide)
  have f8 := hfc 8 (by decide)
  have f9 := hfc 9 (by decide)
  have f10 := hfc 10 (by decide)
  have f11 := hfc 11 (by decide)
  rw [fpart_all s _ (by decide)] at f0 f1 f2 f3 f4 f5 f6 f7 f8 f9 f10 f11
  have r0 := hrc 0 (by decide)
  have r1 := hrc 1 (by decide)
  have r2 := hrc 2 (by decide)
  have r3 := hrc 3 (by decide)
  have r4 := hrc 4 (by decide)
  have r5 := hrc 5 (by decide)
  have r6 := hrc 6 (by decide)
  have r7 := hrc 7 (by decide)
  have r8 := hrc 8 (by decide)
  have r9 := hrc 9 (by decide)
  have r10 := hrc 10 (by decide)
  have r11 := hrc 11 (by decide)
  have HR : Hid (FixAt W (w.heap.size + 1) fun _ => 0) := fun j hj => hrc j hj
  have HS : Hid (V0.heap.size = w.heap.size + 5) := hsz
  clear hfc hff hac haf hsc hrc hI0
  gi_wp2
  have hfx := set12_fix (fget s) HR.out
  have hbz := set12_below (b := w.heap.size + 1) (F := fget s) hbl (by omega)
  have hkz := (set12_heap W (w.heap.size + 1) (fget s) V0.heap.size (by rw [HS.out]; omega)).trans hK
  unfold set12 at hfx hbz hkz
  refine ⟨by simp, .inl ⟨_, _, rfl, run_takeDeferred hkz, ?_⟩⟩
  have hfy := hfx.putObj (l := V0.heap.size) (by rw [HS.out]; omega) (.deferred none)
  have g0 := hfy 0 (by decide)
  have g1 := hfy 1 (by decide)
  have g2 := hfy 2 (by decide)
  have g3 := hfy 3 (by decide)
  have g4 := hfy 4 (by decide)
  have g5 := hfy 5 (by decide)
  have g6 := hfy 6 (by decide)
  have g7 := hfy 7 (by decide)
  have g8 := hfy 8 (by decide)
  have g9 := hfy 9 (by decide)
  have g10 := hfy 10 (by decide)
  have g11 := hfy 11 (by decide)
  have hby := below_put hbz (l := V0.heap.size) (by rw [HS.out]; omega) (.deferred none)
  clear hfx hfy f0 f1 f2 f3 f4 f5 f6 f7 f8 f9 f10 f11 r0 r1 r2 r3 r4 r5 r6 r7 r8 r9 r10 r11 hrf hbl hK HR HS
  refine ⟨_, ?_, rfl, hby⟩
  simp [results, Tryz.results100, go_sem, g0, g1, g2, g3, g4, g5, g6, g7, g8, g9, g10, g11]
 case stop =>
  rintro c k W hk h hK
  exact h.elim
 rintro l' k W hk hI
 have HI := hide hI
 obtain ⟨hsc, hrf, hrc, hfc, hff, hac, haf, hbl⟩ := hI
 clear hsz hI0 hrf hrc hbl
 have hmx : Tryz.prog.follows .mixedOrders = true := by kernel_rfl
 obtain ⟨b0, b1, a0, a1, a2, p0, p1, e0, e1, hand, m1⟩ := read_step s k hk
 have hfk := hff k
 have hck := hfc k hk
 have w0 := fword_lo s k
 have w1 := fword_hi s k
 have hg := fun u => get_word s k u hk h20 hs
 have HK := hide hk
 clear hfc hff hk
 gi_wp2
 refine ⟨trivial, rfl, (CallsIn.inRound l' (callsIn_wide.2 (hg _))).mono ?_⟩
 rintro e w2 ⟨rfl, rfl⟩
 gi_wp2
 have hck2 : (w2.drew.setCell ⟨w.heap.size + 1 + 1, k, none⟩ (.int .i64 (fget s k))).cell? ⟨w.heap.size + 1 + 1, k, none⟩ = some (.int .i64 (fget s k)) := cell_same (W := w2.drew) hck
 have hfk2 : (w2.drew.setCell ⟨w.heap.size + 1 + 1, k, none⟩ (.int .i64 (fget s k))).frozen? ⟨w.heap.size + 1 + 1, k, none⟩ = false := by rw [World.frozen?_setCell]; exact hfk
 have hck1 : w2.drew.cell? ⟨w.heap.size + 1 + 1, k, none⟩ = some (.int .i64 (fpart s k k)) := hck
 have hfk1 : w2.drew.frozen? ⟨w.heap.size + 1 + 1, k, none⟩ = false := hfk
 have hac1 : (w2.drew.setCell ⟨w.heap.size + 1 + 1, k, none⟩ (.int .i64 (fget s k))).cell? ⟨w.heap.size + 1 + 1 + 1, 0, none⟩ = some (.int .i64 (fat k)) := (cell_other (ne_addr (by omega))).trans hac
 have haf1 : (w2.drew.setCell ⟨w.heap.size + 1 + 1, k, none⟩ (.int .i64 (fget s k))).frozen? ⟨w.heap.size + 1 + 1 + 1, 0, none⟩ = false := by rw [World.frozen?_setCell]; exact haf
 have HM := hide (read_more (unhide HI) (unhide HK))
 have htw := setCell_twice w2.drew ⟨w.heap.size + 1 + 1, k, none⟩ (.int .i64 (fget s k))
 generalize hu1 : w2.drew.setCell ⟨w.heap.size + 1 + 1, k, none⟩ (.int .i64 (fget s k)) = u1 at *
 generalize hu0 : w2.drew = u0 at *
 refine region_store_in hmx [.pointer (some ⟨w.heap.size + 1 + 1, k, none⟩), .int .i64 (fword s k), .int .i64 (32 - fat k % 32 - fbits k), .int .i64 (fword s k / 2 ^ (32 - fat k % 32 - fbits k).toNat), .int .i64 (fbits k), .int .i64 (IntKind.i64.wrap (2 ^ (fbits k).toNat)), .int .i64 (IntKind.i64.wrap (2 ^ (fbits k).toNat) - 1), .int .i64 (fget s k), .pointer (some ⟨w.heap.size + 1 + 1, k, none⟩), undef] 9 u1 (by kernel_rfl) (by kernel_rfl) ?op (by decide) rfl ?fin
 case op =>
  intro i o b u ho hu hold hdeps
  match i, ho with
  | 0, ho =>
   obtain rfl := Option.some.inj ho
   have d6 : b.tmps.getD 6 undef = .pointer (some ⟨w.heap.size + 1 + 1, k, none⟩) := hold 6 (base_of (by kernel_rfl))
   refine ⟨rfl, ?_⟩
   rw [if_neg (by decide)]
   simp [execOp, Act.eval, d6]
  | 1, ho =>
   obtain rfl := Option.some.inj ho
   have d7 : b.tmps.getD 7 undef = .int .i64 (fword s k) := hold 7 (base_of (by kernel_rfl))
   refine ⟨rfl, ?_⟩
   rw [if_neg (by decide)]
   simp [execOp, Act.eval, d7]
  | 2, ho =>
   obtain rfl := Option.some.inj ho
   have d9 : b.tmps.getD 9 undef = .int .i64 (32 - fat k % 32 - fbits k) := hold 9 (base_of (by kernel_rfl))
   refine ⟨rfl, ?_⟩
   rw [if_neg (by decide)]
   simp [execOp, Act.eval, d9]
  | 3, ho =>
   obtain rfl := Option.some.inj ho
   have d27 : b.tmps.getD 27 undef = .int .i64 (fword s k) := hdeps 1 27 (by kernel_rfl) (by kernel_rfl)
   have d28 : b.tmps.getD 28 undef = .int .i64 (32 - fat k % 32 - fbits k) := hdeps 2 28 (by kernel_rfl) (by kernel_rfl)
   refine ⟨rfl, ?_⟩
   rw [if_neg (by decide)]
   simp [execOp, Act.eval, d27, d28, go_sem]
  | 4, ho =>
   obtain rfl := Option.some.inj ho
   have d5 : b.tmps.getD 5 undef = .int .i64 (fbits k) := hold 5 (base_of (by kernel_rfl))
   refine ⟨rfl, ?_⟩
   rw [if_neg (by decide)]
   simp [execOp, Act.eval, d5]
  | 5, ho =>
   obtain rfl := Option.some.inj ho
   have d30 : b.tmps.getD 30 undef = .int .i64 (fbits k) := hdeps 4 30 (by kernel_rfl) (by kernel_rfl)
   refine ⟨rfl, ?_⟩
   rw [if_neg (by decide)]
   simp [execOp, Act.eval, d30, go_sem]
  | 6, ho =>
   obtain rfl := Option.some.inj ho
   have d31 : b.tmps.getD 31 undef = .int .i64 (IntKind.i64.wrap (2 ^ (fbits k).toNat)) := hdeps 5 31 (by kernel_rfl) (by kernel_rfl)
   refine ⟨rfl, ?_⟩
   rw [if_neg (by decide)]
   simp [execOp, Act.eval, d31, go_sem, m1]
  | 7, ho =>
   obtain rfl := Option.some.inj ho
   have d29 : b.tmps.getD 29 undef = .int .i64 (fword s k / 2 ^ (32 - fat k % 32 - fbits k).toNat) := hdeps 3 29 (by kernel_rfl) (by kernel_rfl)
   have d32 : b.tmps.getD 32 undef = .int .i64 (IntKind.i64.wrap (2 ^ (fbits k).toNat) - 1) := hdeps 6 32 (by kernel_rfl) (by kernel_rfl)
   refine ⟨rfl, ?_⟩
   rw [if_neg (by decide)]
   simp [execOp, Act.eval, d29, d32, go_sem, hand]
  | 8, ho =>
   obtain rfl := Option.some.inj ho
   have d26 : b.tmps.getD 26 undef = .pointer (some ⟨w.heap.size + 1 + 1, k, none⟩) := hdeps 0 26 (by kernel_rfl) (by kernel_rfl)
   refine ⟨rfl, ?_⟩
   rw [if_neg (by decide)]
   simp [execOp, Act.eval, d26]
  | 9, ho =>
   obtain rfl := Option.some.inj ho
   have d34 : b.tmps.getD 34 undef = .pointer (some ⟨w.heap.size + 1 + 1, k, none⟩) := hdeps 8 34 (by kernel_rfl) (by kernel_rfl)
   have d33 : b.tmps.getD 33 undef = .int .i64 (fget s k) := hdeps 7 33 (by kernel_rfl) (by kernel_rfl)
   refine ⟨rfl, ?_⟩
   rw [if_pos rfl]
   rw [hu0] at hu
   rcases hu with rfl | rfl
   ·simp [execOp, Act.eval, d34, d33, go_sem, hck1, hfk1, hu1]
   ·simp [execOp, Act.eval, d34, d33, go_sem, hck2, hfk2, htw]
  | n + 10, ho => exact absurd ho (by simp)
 case fin =>
  simp [putAll, dstAt, Act.put]
  clear hck1 hck2 hfk1 hfk2 htw hand m1 hg w0 w1 e0 e1 p0 p1
  gi_wp2
  exact unhide HM
end Go.Proofs.YtpjaajeojiaeiaaGreatDoor.Ip
