/- What (*fixed).header computes: the fields of a fixed part as a header. -/
import Derived.Test.YtfppjpcolohmfaaIpSetH
import Derived.Test.YtfppjpcolohmfaaIpGrow
namespace Go.Proofs.Ytfppjpcolohmfaa
open Go.ChangeShapes Go.WideShapes Go.ChangeAt Go.RowKit

/-- The header that a fixed part says, with these options. -/
def fhead (F : Nat → Int) (opts : ByteArray) : Hd := ⟨F 2, F 4, F 5, F 6, F 7, F 8, F 10, F 11, opts⟩
theorem NewHd.drew {W : World} {b : Nat} {h : Hd} (hh : NewHd W b h) : NewHd W.drew b h := ⟨hh.at_, hh.free⟩
theorem FixAt.drew {W : World} {b : Nat} {F : Nat → Int} (hh : FixAt W b F) : FixAt W.drew b F := hh
theorem hcell_of {V u : World} {b k B : Nat} {v : Value} (hb : Below B V.drew u) (h : b < B) (hc : V.cell? ⟨b, k, none⟩ = some v) : u.cell? ⟨b, k, none⟩ = some v := (hb.cell (p := ⟨b, k, none⟩) h).trans hc

set_option maxRecDepth 100000 in
set_option maxHeartbeats 4000000 in
theorem header_any (b : Nat) (F : Nat → Int) (opts : ByteArray) (w : World) (h : FixAt w b F) (hb : b < w.heap.size) (h10 : 0 ≤ F 10 ∧ F 10 ≤ 4294967295) (h11 : 0 ≤ F 11 ∧ F 11 ≤ 4294967295) :
    Calls Try.prog 33 #[.pointer (some ⟨b, 0, none⟩), .string opts] w fun e w' => e = .returned (fhead F opts).val ∧ Below w.heap.size w w' := by
  have hal : Below w.heap.size w (w.alloc (.cells #[.int .i64 0, .int .i64 0, .int .i64 0, .int .i64 0, .int .i64 0, .int .i64 0, .int .u32 0, .int .u32 0, .string ⟨#[]⟩] 24)) := (Below.refl _ _).alloc (Nat.le_refl _) _
  have hnew := newHd w zeroHd 24
  simp only [zeroHd] at hnew
  have h := h.on hal hb
  have c2 := h 2 (by decide)
  have c4 := h 4 (by decide)
  have c5 := h 5 (by decide)
  have c6 := h 6 (by decide)
  have c7 := h 7 (by decide)
  have c8 := h 8 (by decide)
  have c10 := h 10 (by decide)
  have c11 := h 11 (by decide)
  unfold fhead
  clear h
  generalize F 2 = x2 at *
  generalize F 4 = x4 at *
  generalize F 5 = x5 at *
  generalize F 6 = x6 at *
  generalize F 7 = x7 at *
  generalize F 8 = x8 at *
  generalize F 10 = x10 at *
  generalize F 11 = x11 at *
  obtain ⟨a0, a1⟩ := h10
  obtain ⟨b0, b1⟩ := h11
  have e10 : x10 % 4294967296 = x10 := by omega
  have e11 : x11 % 4294967296 = x11 := by omega
  go_enter Try.func33, Try.ntmps33
  go_wp2
  generalize hV : w.alloc (.cells #[.int .i64 0, .int .i64 0, .int .i64 0, .int .i64 0, .int .i64 0, .int .i64 0, .int .u32 0, .int .u32 0, .string ⟨#[]⟩] 24) = V at *
  have hVs : V.heap.size = w.heap.size + 1 := by rw [← hV]; simp
  have hb1 : b < V.heap.size := by omega
  refine wp_region_grow_store (by kernel_rfl) [.pointer (some ⟨b, 0, none⟩), .pointer (some ⟨b, 0, none⟩), .pointer (some ⟨b, 2, none⟩), .int .i64 x2, .pointer (some ⟨b, 0, none⟩), .pointer (some ⟨b, 0, none⟩), .pointer (some ⟨b, 4, none⟩), .int .i64 x4, .pointer (some ⟨b, 0, none⟩), .pointer (some ⟨b, 0, none⟩), .pointer (some ⟨b, 5, none⟩), .int .i64 x5, .pointer (some ⟨b, 0, none⟩), .pointer (some ⟨b, 0, none⟩), .pointer (some ⟨b, 6, none⟩), .int .i64 x6, .pointer (some ⟨b, 0, none⟩), .pointer (some ⟨b, 0, none⟩), .pointer (some ⟨b, 7, none⟩), .int .i64 x7, .pointer (some ⟨b, 0, none⟩), .pointer (some ⟨b, 0, none⟩), .pointer (some ⟨b, 8, none⟩), .int .i64 x8, .pointer (some ⟨b, 0, none⟩), .pointer (some ⟨b, 0, none⟩), .pointer (some ⟨b, 10, none⟩), .int .i64 x10, .int .u32 x10, .pointer (some ⟨b, 0, none⟩), .pointer (some ⟨b, 0, none⟩), .pointer (some ⟨b, 11, none⟩), .int .i64 x11, .int .u32 x11, .string opts, .agg #[.int .i64 x2, .int .i64 x4, .int .i64 x5, .int .i64 x6, .int .i64 x7, .int .i64 x8, .int .u32 x10, .int .u32 x11, .string opts], undef] 36 (fun v => setHd v w.heap.size ⟨x2, x4, x5, x6, x7, x8, x10, x11, opts⟩) (by kernel_rfl) (by decide) rfl ?op ?store ?fin
  case op =>
    intro i o bx u ho hne hbel hS
    match i, ho with
    | 0, ho =>
      obtain rfl := Option.some.inj ho
      have d0 : bx.tmps.getD 0 undef = .pointer (some ⟨b, 0, none⟩) := hS.base 0 (by kernel_rfl)
      refine .inl ⟨rfl, ends_value (c := .pointer (some ⟨b, 0, none⟩)) ?_⟩
      simp [execOp, Act.eval, d0]
    | 1, ho =>
      obtain rfl := Option.some.inj ho
      have d5 : bx.tmps.getD 5 undef = .pointer (some ⟨b, 0, none⟩) := hS.dep 0 5 (by kernel_rfl) (by kernel_rfl)
      refine .inl ⟨rfl, ends_value (c := .pointer (some ⟨b, 0, none⟩)) ?_⟩
      simp [execOp, Act.eval, d5]
    | 2, ho =>
      obtain rfl := Option.some.inj ho
      have d6 : bx.tmps.getD 6 undef = .pointer (some ⟨b, 0, none⟩) := hS.dep 1 6 (by kernel_rfl) (by kernel_rfl)
      refine .inl ⟨rfl, ends_value (c := .pointer (some ⟨b, 2, none⟩)) ?_⟩
      simp [Act.eval, d6, go_sem]
    | 3, ho =>
      obtain rfl := Option.some.inj ho
      have d7 : bx.tmps.getD 7 undef = .pointer (some ⟨b, 2, none⟩) := hS.dep 2 7 (by kernel_rfl) (by kernel_rfl)
      have hl := hcell_of (hbel (by kernel_rfl)) hb1 c2
      refine .inl ⟨rfl, ends_value (c := .int .i64 x2) ?_⟩
      simp [Act.eval, d7, go_sem, hl]
    | 4, ho =>
      obtain rfl := Option.some.inj ho
      have d0 : bx.tmps.getD 0 undef = .pointer (some ⟨b, 0, none⟩) := hS.base 0 (by kernel_rfl)
      refine .inl ⟨rfl, ends_value (c := .pointer (some ⟨b, 0, none⟩)) ?_⟩
      simp [execOp, Act.eval, d0]
    | 5, ho =>
      obtain rfl := Option.some.inj ho
      have d9 : bx.tmps.getD 9 undef = .pointer (some ⟨b, 0, none⟩) := hS.dep 4 9 (by kernel_rfl) (by kernel_rfl)
      refine .inl ⟨rfl, ends_value (c := .pointer (some ⟨b, 0, none⟩)) ?_⟩
      simp [execOp, Act.eval, d9]
    | 6, ho =>
      obtain rfl := Option.some.inj ho
      have d10 : bx.tmps.getD 10 undef = .pointer (some ⟨b, 0, none⟩) := hS.dep 5 10 (by kernel_rfl) (by kernel_rfl)
      refine .inl ⟨rfl, ends_value (c := .pointer (some ⟨b, 4, none⟩)) ?_⟩
      simp [Act.eval, d10, go_sem]
    | 7, ho =>
      obtain rfl := Option.some.inj ho
      have d11 : bx.tmps.getD 11 undef = .pointer (some ⟨b, 4, none⟩) := hS.dep 6 11 (by kernel_rfl) (by kernel_rfl)
      have hl := hcell_of (hbel (by kernel_rfl)) hb1 c4
      refine .inl ⟨rfl, ends_value (c := .int .i64 x4) ?_⟩
      simp [Act.eval, d11, go_sem, hl]
    | 8, ho =>
      obtain rfl := Option.some.inj ho
      have d0 : bx.tmps.getD 0 undef = .pointer (some ⟨b, 0, none⟩) := hS.base 0 (by kernel_rfl)
      refine .inl ⟨rfl, ends_value (c := .pointer (some ⟨b, 0, none⟩)) ?_⟩
      simp [execOp, Act.eval, d0]
    | 9, ho =>
      obtain rfl := Option.some.inj ho
      have d13 : bx.tmps.getD 13 undef = .pointer (some ⟨b, 0, none⟩) := hS.dep 8 13 (by kernel_rfl) (by kernel_rfl)
      refine .inl ⟨rfl, ends_value (c := .pointer (some ⟨b, 0, none⟩)) ?_⟩
      simp [execOp, Act.eval, d13]
    | 10, ho =>
      obtain rfl := Option.some.inj ho
      have d14 : bx.tmps.getD 14 undef = .pointer (some ⟨b, 0, none⟩) := hS.dep 9 14 (by kernel_rfl) (by kernel_rfl)
      refine .inl ⟨rfl, ends_value (c := .pointer (some ⟨b, 5, none⟩)) ?_⟩
      simp [Act.eval, d14, go_sem]
    | 11, ho =>
      obtain rfl := Option.some.inj ho
      have d15 : bx.tmps.getD 15 undef = .pointer (some ⟨b, 5, none⟩) := hS.dep 10 15 (by kernel_rfl) (by kernel_rfl)
      have hl := hcell_of (hbel (by kernel_rfl)) hb1 c5
      refine .inl ⟨rfl, ends_value (c := .int .i64 x5) ?_⟩
      simp [Act.eval, d15, go_sem, hl]
    | 12, ho =>
      obtain rfl := Option.some.inj ho
      have d0 : bx.tmps.getD 0 undef = .pointer (some ⟨b, 0, none⟩) := hS.base 0 (by kernel_rfl)
      refine .inl ⟨rfl, ends_value (c := .pointer (some ⟨b, 0, none⟩)) ?_⟩
      simp [execOp, Act.eval, d0]
    | 13, ho =>
      obtain rfl := Option.some.inj ho
      have d17 : bx.tmps.getD 17 undef = .pointer (some ⟨b, 0, none⟩) := hS.dep 12 17 (by kernel_rfl) (by kernel_rfl)
      refine .inl ⟨rfl, ends_value (c := .pointer (some ⟨b, 0, none⟩)) ?_⟩
      simp [execOp, Act.eval, d17]
    | 14, ho =>
      obtain rfl := Option.some.inj ho
      have d18 : bx.tmps.getD 18 undef = .pointer (some ⟨b, 0, none⟩) := hS.dep 13 18 (by kernel_rfl) (by kernel_rfl)
      refine .inl ⟨rfl, ends_value (c := .pointer (some ⟨b, 6, none⟩)) ?_⟩
      simp [Act.eval, d18, go_sem]
    | 15, ho =>
      obtain rfl := Option.some.inj ho
      have d19 : bx.tmps.getD 19 undef = .pointer (some ⟨b, 6, none⟩) := hS.dep 14 19 (by kernel_rfl) (by kernel_rfl)
      have hl := hcell_of (hbel (by kernel_rfl)) hb1 c6
      refine .inl ⟨rfl, ends_value (c := .int .i64 x6) ?_⟩
      simp [Act.eval, d19, go_sem, hl]
    | 16, ho =>
      obtain rfl := Option.some.inj ho
      have d0 : bx.tmps.getD 0 undef = .pointer (some ⟨b, 0, none⟩) := hS.base 0 (by kernel_rfl)
      refine .inl ⟨rfl, ends_value (c := .pointer (some ⟨b, 0, none⟩)) ?_⟩
      simp [execOp, Act.eval, d0]
    | 17, ho =>
      obtain rfl := Option.some.inj ho
      have d21 : bx.tmps.getD 21 undef = .pointer (some ⟨b, 0, none⟩) := hS.dep 16 21 (by kernel_rfl) (by kernel_rfl)
      refine .inl ⟨rfl, ends_value (c := .pointer (some ⟨b, 0, none⟩)) ?_⟩
      simp [execOp, Act.eval, d21]
    | 18, ho =>
      obtain rfl := Option.some.inj ho
      have d22 : bx.tmps.getD 22 undef = .pointer (some ⟨b, 0, none⟩) := hS.dep 17 22 (by kernel_rfl) (by kernel_rfl)
      refine .inl ⟨rfl, ends_value (c := .pointer (some ⟨b, 7, none⟩)) ?_⟩
      simp [Act.eval, d22, go_sem]
    | 19, ho =>
      obtain rfl := Option.some.inj ho
      have d23 : bx.tmps.getD 23 undef = .pointer (some ⟨b, 7, none⟩) := hS.dep 18 23 (by kernel_rfl) (by kernel_rfl)
      have hl := hcell_of (hbel (by kernel_rfl)) hb1 c7
      refine .inl ⟨rfl, ends_value (c := .int .i64 x7) ?_⟩
      simp [Act.eval, d23, go_sem, hl]
    | 20, ho =>
      obtain rfl := Option.some.inj ho
      have d0 : bx.tmps.getD 0 undef = .pointer (some ⟨b, 0, none⟩) := hS.base 0 (by kernel_rfl)
      refine .inl ⟨rfl, ends_value (c := .pointer (some ⟨b, 0, none⟩)) ?_⟩
      simp [execOp, Act.eval, d0]
    | 21, ho =>
      obtain rfl := Option.some.inj ho
      have d25 : bx.tmps.getD 25 undef = .pointer (some ⟨b, 0, none⟩) := hS.dep 20 25 (by kernel_rfl) (by kernel_rfl)
      refine .inl ⟨rfl, ends_value (c := .pointer (some ⟨b, 0, none⟩)) ?_⟩
      simp [execOp, Act.eval, d25]
    | 22, ho =>
      obtain rfl := Option.some.inj ho
      have d26 : bx.tmps.getD 26 undef = .pointer (some ⟨b, 0, none⟩) := hS.dep 21 26 (by kernel_rfl) (by kernel_rfl)
      refine .inl ⟨rfl, ends_value (c := .pointer (some ⟨b, 8, none⟩)) ?_⟩
      simp [Act.eval, d26, go_sem]
    | 23, ho =>
      obtain rfl := Option.some.inj ho
      have d27 : bx.tmps.getD 27 undef = .pointer (some ⟨b, 8, none⟩) := hS.dep 22 27 (by kernel_rfl) (by kernel_rfl)
      have hl := hcell_of (hbel (by kernel_rfl)) hb1 c8
      refine .inl ⟨rfl, ends_value (c := .int .i64 x8) ?_⟩
      simp [Act.eval, d27, go_sem, hl]
    | 24, ho =>
      obtain rfl := Option.some.inj ho
      have d0 : bx.tmps.getD 0 undef = .pointer (some ⟨b, 0, none⟩) := hS.base 0 (by kernel_rfl)
      refine .inl ⟨rfl, ends_value (c := .pointer (some ⟨b, 0, none⟩)) ?_⟩
      simp [execOp, Act.eval, d0]
    | 25, ho =>
      obtain rfl := Option.some.inj ho
      have d29 : bx.tmps.getD 29 undef = .pointer (some ⟨b, 0, none⟩) := hS.dep 24 29 (by kernel_rfl) (by kernel_rfl)
      refine .inl ⟨rfl, ends_value (c := .pointer (some ⟨b, 0, none⟩)) ?_⟩
      simp [execOp, Act.eval, d29]
    | 26, ho =>
      obtain rfl := Option.some.inj ho
      have d30 : bx.tmps.getD 30 undef = .pointer (some ⟨b, 0, none⟩) := hS.dep 25 30 (by kernel_rfl) (by kernel_rfl)
      refine .inl ⟨rfl, ends_value (c := .pointer (some ⟨b, 10, none⟩)) ?_⟩
      simp [Act.eval, d30, go_sem]
    | 27, ho =>
      obtain rfl := Option.some.inj ho
      have d31 : bx.tmps.getD 31 undef = .pointer (some ⟨b, 10, none⟩) := hS.dep 26 31 (by kernel_rfl) (by kernel_rfl)
      have hl := hcell_of (hbel (by kernel_rfl)) hb1 c10
      refine .inl ⟨rfl, ends_value (c := .int .i64 x10) ?_⟩
      simp [Act.eval, d31, go_sem, hl]
    | 28, ho =>
      obtain rfl := Option.some.inj ho
      have d32 : bx.tmps.getD 32 undef = .int .i64 x10 := hS.dep 27 32 (by kernel_rfl) (by kernel_rfl)
      refine .inl ⟨rfl, ends_value (c := .int .u32 x10) ?_⟩
      simp [Act.eval, d32, go_sem, e10, IntKind.wrap_u32]
    | 29, ho =>
      obtain rfl := Option.some.inj ho
      have d0 : bx.tmps.getD 0 undef = .pointer (some ⟨b, 0, none⟩) := hS.base 0 (by kernel_rfl)
      refine .inl ⟨rfl, ends_value (c := .pointer (some ⟨b, 0, none⟩)) ?_⟩
      simp [execOp, Act.eval, d0]
    | 30, ho =>
      obtain rfl := Option.some.inj ho
      have d34 : bx.tmps.getD 34 undef = .pointer (some ⟨b, 0, none⟩) := hS.dep 29 34 (by kernel_rfl) (by kernel_rfl)
      refine .inl ⟨rfl, ends_value (c := .pointer (some ⟨b, 0, none⟩)) ?_⟩
      simp [execOp, Act.eval, d34]
    | 31, ho =>
      obtain rfl := Option.some.inj ho
      have d35 : bx.tmps.getD 35 undef = .pointer (some ⟨b, 0, none⟩) := hS.dep 30 35 (by kernel_rfl) (by kernel_rfl)
      refine .inl ⟨rfl, ends_value (c := .pointer (some ⟨b, 11, none⟩)) ?_⟩
      simp [Act.eval, d35, go_sem]
    | 32, ho =>
      obtain rfl := Option.some.inj ho
      have d36 : bx.tmps.getD 36 undef = .pointer (some ⟨b, 11, none⟩) := hS.dep 31 36 (by kernel_rfl) (by kernel_rfl)
      have hl := hcell_of (hbel (by kernel_rfl)) hb1 c11
      refine .inl ⟨rfl, ends_value (c := .int .i64 x11) ?_⟩
      simp [Act.eval, d36, go_sem, hl]
    | 33, ho =>
      obtain rfl := Option.some.inj ho
      have d37 : bx.tmps.getD 37 undef = .int .i64 x11 := hS.dep 32 37 (by kernel_rfl) (by kernel_rfl)
      refine .inl ⟨rfl, ends_value (c := .int .u32 x11) ?_⟩
      simp [Act.eval, d37, go_sem, e11, IntKind.wrap_u32]
    | 34, ho =>
      obtain rfl := Option.some.inj ho
      have d1 : bx.tmps.getD 1 undef = .string opts := hS.base 1 (by kernel_rfl)
      refine .inl ⟨rfl, ends_value (c := .string opts) ?_⟩
      simp [execOp, Act.eval, d1]
    | 35, ho =>
      obtain rfl := Option.some.inj ho
      have d8 : bx.tmps.getD 8 undef = .int .i64 x2 := hS.dep 3 8 (by kernel_rfl) (by kernel_rfl)
      have q8 : bx.tmps[8]?.getD undef = .int .i64 x2 := by rw [← Array.getD_eq_getD_getElem?]; exact d8
      have d12 : bx.tmps.getD 12 undef = .int .i64 x4 := hS.dep 7 12 (by kernel_rfl) (by kernel_rfl)
      have q12 : bx.tmps[12]?.getD undef = .int .i64 x4 := by rw [← Array.getD_eq_getD_getElem?]; exact d12
      have d16 : bx.tmps.getD 16 undef = .int .i64 x5 := hS.dep 11 16 (by kernel_rfl) (by kernel_rfl)
      have q16 : bx.tmps[16]?.getD undef = .int .i64 x5 := by rw [← Array.getD_eq_getD_getElem?]; exact d16
      have d20 : bx.tmps.getD 20 undef = .int .i64 x6 := hS.dep 15 20 (by kernel_rfl) (by kernel_rfl)
      have q20 : bx.tmps[20]?.getD undef = .int .i64 x6 := by rw [← Array.getD_eq_getD_getElem?]; exact d20
      have d24 : bx.tmps.getD 24 undef = .int .i64 x7 := hS.dep 19 24 (by kernel_rfl) (by kernel_rfl)
      have q24 : bx.tmps[24]?.getD undef = .int .i64 x7 := by rw [← Array.getD_eq_getD_getElem?]; exact d24
      have d28 : bx.tmps.getD 28 undef = .int .i64 x8 := hS.dep 23 28 (by kernel_rfl) (by kernel_rfl)
      have q28 : bx.tmps[28]?.getD undef = .int .i64 x8 := by rw [← Array.getD_eq_getD_getElem?]; exact d28
      have d33 : bx.tmps.getD 33 undef = .int .u32 x10 := hS.dep 28 33 (by kernel_rfl) (by kernel_rfl)
      have q33 : bx.tmps[33]?.getD undef = .int .u32 x10 := by rw [← Array.getD_eq_getD_getElem?]; exact d33
      have d38 : bx.tmps.getD 38 undef = .int .u32 x11 := hS.dep 33 38 (by kernel_rfl) (by kernel_rfl)
      have q38 : bx.tmps[38]?.getD undef = .int .u32 x11 := by rw [← Array.getD_eq_getD_getElem?]; exact d38
      have d39 : bx.tmps.getD 39 undef = .string opts := hS.dep 34 39 (by kernel_rfl) (by kernel_rfl)
      have q39 : bx.tmps[39]?.getD undef = .string opts := by rw [← Array.getD_eq_getD_getElem?]; exact d39
      refine .inl ⟨rfl, ends_value (c := .agg #[.int .i64 x2, .int .i64 x4, .int .i64 x5, .int .i64 x6, .int .i64 x7, .int .i64 x8, .int .u32 x10, .int .u32 x11, .string opts]) ?_⟩
      simp [Act.eval, q8, q12, q16, q20, q24, q28, q33, q38, q39, go_sem]
    | 36, _ => exact absurd rfl hne
    | n + 37, ho => exact absurd ho (by simp)
  case store =>
    intro o bx u ho hbel hS
    obtain rfl := Option.some.inj ho
    have d4 : bx.tmps.getD 4 undef = .pointer (some ⟨w.heap.size, 0, none⟩) := hS.base 4 (by kernel_rfl)
    have d40 : bx.tmps.getD 40 undef = .agg #[.int .i64 x2, .int .i64 x4, .int .i64 x5, .int .i64 x6, .int .i64 x7, .int .i64 x8, .int .u32 x10, .int .u32 x11, .string opts] := hS.dep 35 40 (by kernel_rfl) (by kernel_rfl)
    have hn := hnew.drew.on hbel (by omega)
    have r0 := hn.at_ 0 (by decide)
    have r1 := hn.at_ 1 (by decide)
    have r2 := hn.at_ 2 (by decide)
    have r3 := hn.at_ 3 (by decide)
    have r4 := hn.at_ 4 (by decide)
    have r5 := hn.at_ 5 (by decide)
    have r6 := hn.at_ 6 (by decide)
    have r7 := hn.at_ 7 (by decide)
    have r8 := hn.at_ 8 (by decide)
    simp only [hcell] at r0 r1 r2 r3 r4 r5 r6 r7 r8
    have rf := hn.free
    unfold setHd
    refine ⟨rfl, ?_⟩
    simp [Act.eval, d4, d40, go_sem, r0, r1, r2, r3, r4, r5, r6, r7, r8, rf]
  case fin =>
    intro u hbel
    simp [putAll, dstAt, Act.put]
    have hn := hnew.drew.on hbel (by omega)
    have hz := setHd_at ⟨x2, x4, x5, x6, x7, x8, x10, x11, opts⟩ hn.at_
    have hbz := setHd_below (hal.drew.trans (hbel.mono (by omega))) w.heap.size ⟨x2, x4, x5, x6, x7, x8, x10, x11, opts⟩ (Nat.le_refl _)
    generalize setHd u w.heap.size ⟨x2, x4, x5, x6, x7, x8, x10, x11, opts⟩ = z at *
    go_wp2_with fail
    have g0 := hz 0 (by decide)
    have g1 := hz 1 (by decide)
    have g2 := hz 2 (by decide)
    have g3 := hz 3 (by decide)
    have g4 := hz 4 (by decide)
    have g5 := hz 5 (by decide)
    have g6 := hz 6 (by decide)
    have g7 := hz 7 (by decide)
    have g8 := hz 8 (by decide)
    simp only [hcell] at g0 g1 g2 g3 g4 g5 g6 g7 g8
    refine bodyPost_ret (v := .agg #[.int .i64 x2, .int .i64 x4, .int .i64 x5, .int .i64 x6, .int .i64 x7, .int .i64 x8, .int .u32 x10, .int .u32 x11, .string opts]) ?_ rfl ⟨rfl, hbz⟩
    simp [results, Try.results33, go_sem, g0, g1, g2, g3, g4, g5, g6, g7, g8]
end Go.Proofs.Ytfppjpcolohmfaa
