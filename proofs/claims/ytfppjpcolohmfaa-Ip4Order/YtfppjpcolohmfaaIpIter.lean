/- The fields of a header, which are ranged over: what fields hands on. -/
import Derived.Test.YtfppjpcolohmfaaChecked
import Derived.Test.YtfppjpcolohmfaaCkIter
import Derived.Shelf.RegionOpen
import Derived.OpenShut
import Derived.WalkSpells
import Derived.WalkLawsBesides
import Derived.Handy
import Derived.Below
namespace Go.Proofs.Ytfppjpcolohmfaa
open Go.ChangeShapes Go.WideShapes Go.ChangeAt Go.RowKit Go.Shelf
attribute [local go_sem] Oper.semAt_some
theorem wide_fn (f : FuncId) : Fence.wide.fn f = True := rfl
attribute [local go_sem] wide_fn

/-- How many bits a field has. -/
def fbits : Nat → Int
  | 0 => 4 | 1 => 4 | 2 => 8 | 3 => 16 | 4 => 16 | 5 => 3 | 6 => 13 | 7 => 8 | 8 => 8 | 9 => 16 | 10 => 32 | _ => 32

set_option maxRecDepth 100000 in
set_option maxHeartbeats 20000000 in
theorem fields1_gives (Bs Bf B0 : Nat) (W0 : World) (hB : B0 ≤ Bs) (hc : W0.cell? ⟨Bs, 0, none⟩ = some (.pointer (some ⟨Bf, 0, none⟩))) :
    Gives Try.prog 43 #[.pointer (some ⟨Bs, 0, none⟩)] (fun k => #[.int .i64 (fbits k), .pointer (some ⟨Bf, k, none⟩)]) 12 B0 W0 := by
  intro l J Jx hl hJ hJx hY h0
  refine callsIn_of_wp Try.func43 rfl trivial ?_ rfl
  simp only [Try.ntmps43, List.size_toArray, List.length_cons, List.length_nil, Nat.reduceAdd, Nat.reduceSub, Array.replicate_succ, Array.replicate_zero, List.push_toArray, List.append_toArray, List.nil_append, List.cons_append]
  obtain ⟨fn0, tmps0, assign0, body0, hy0, hR0⟩ := hY 0 W0 (by decide) h0
  simp only [fbits] at hy0
  gi_wp2
  clear hy0
  refine ⟨rfl, hR0.mono ?_⟩
  clear hR0
  rintro e W1 (⟨rfl, hJ0, hA0⟩ | ⟨rfl, hJx0, hA0⟩)
  case inr =>
    gi_wp2
    go_end0
    exact ⟨⟨_, rfl⟩, .inr ⟨1, by decide, hJx0⟩⟩
  have hc0 := hA0.cell (p := ⟨Bs, 0, none⟩) hB hc
  clear hA0
  obtain ⟨fn1, tmps1, assign1, body1, hy1, hR1⟩ := hY 1 W1 (by decide) hJ0
  simp only [fbits] at hy1
  gi_wp2
  clear hy1
  refine ⟨rfl, hR1.mono ?_⟩
  clear hR1
  rintro e W2 (⟨rfl, hJ1, hA1⟩ | ⟨rfl, hJx1, hA1⟩)
  case inr =>
    gi_wp2
    go_end0
    exact ⟨⟨_, rfl⟩, .inr ⟨2, by decide, hJx1⟩⟩
  have hc1 := hA1.cell (p := ⟨Bs, 0, none⟩) hB hc0
  clear hA1
  obtain ⟨fn2, tmps2, assign2, body2, hy2, hR2⟩ := hY 2 W2 (by decide) hJ1
  simp only [fbits] at hy2
  gi_wp2
  clear hy2
  refine ⟨rfl, hR2.mono ?_⟩
  clear hR2
  rintro e W3 (⟨rfl, hJ2, hA2⟩ | ⟨rfl, hJx2, hA2⟩)
  case inr =>
    gi_wp2
    go_end0
    exact ⟨⟨_, rfl⟩, .inr ⟨3, by decide, hJx2⟩⟩
  have hc2 := hA2.cell (p := ⟨Bs, 0, none⟩) hB hc1
  clear hA2
  obtain ⟨fn3, tmps3, assign3, body3, hy3, hR3⟩ := hY 3 W3 (by decide) hJ2
  simp only [fbits] at hy3
  gi_wp2
  clear hy3
  refine ⟨rfl, hR3.mono ?_⟩
  clear hR3
  rintro e W4 (⟨rfl, hJ3, hA3⟩ | ⟨rfl, hJx3, hA3⟩)
  case inr =>
    gi_wp2
    go_end0
    exact ⟨⟨_, rfl⟩, .inr ⟨4, by decide, hJx3⟩⟩
  have hc3 := hA3.cell (p := ⟨Bs, 0, none⟩) hB hc2
  clear hA3
  obtain ⟨fn4, tmps4, assign4, body4, hy4, hR4⟩ := hY 4 W4 (by decide) hJ3
  simp only [fbits] at hy4
  gi_wp2
  clear hy4
  refine ⟨rfl, hR4.mono ?_⟩
  clear hR4
  rintro e W5 (⟨rfl, hJ4, hA4⟩ | ⟨rfl, hJx4, hA4⟩)
  case inr =>
    gi_wp2
    go_end0
    exact ⟨⟨_, rfl⟩, .inr ⟨5, by decide, hJx4⟩⟩
  have hc4 := hA4.cell (p := ⟨Bs, 0, none⟩) hB hc3
  clear hA4
  obtain ⟨fn5, tmps5, assign5, body5, hy5, hR5⟩ := hY 5 W5 (by decide) hJ4
  simp only [fbits] at hy5
  gi_wp2
  clear hy5
  refine ⟨rfl, hR5.mono ?_⟩
  clear hR5
  rintro e W6 (⟨rfl, hJ5, hA5⟩ | ⟨rfl, hJx5, hA5⟩)
  case inr =>
    gi_wp2
    go_end0
    exact ⟨⟨_, rfl⟩, .inr ⟨6, by decide, hJx5⟩⟩
  have hc5 := hA5.cell (p := ⟨Bs, 0, none⟩) hB hc4
  clear hA5
  obtain ⟨fn6, tmps6, assign6, body6, hy6, hR6⟩ := hY 6 W6 (by decide) hJ5
  simp only [fbits] at hy6
  gi_wp2
  clear hy6
  refine ⟨rfl, hR6.mono ?_⟩
  clear hR6
  rintro e W7 (⟨rfl, hJ6, hA6⟩ | ⟨rfl, hJx6, hA6⟩)
  case inr =>
    gi_wp2
    go_end0
    exact ⟨⟨_, rfl⟩, .inr ⟨7, by decide, hJx6⟩⟩
  have hc6 := hA6.cell (p := ⟨Bs, 0, none⟩) hB hc5
  clear hA6
  obtain ⟨fn7, tmps7, assign7, body7, hy7, hR7⟩ := hY 7 W7 (by decide) hJ6
  simp only [fbits] at hy7
  gi_wp2
  clear hy7
  refine ⟨rfl, hR7.mono ?_⟩
  clear hR7
  rintro e W8 (⟨rfl, hJ7, hA7⟩ | ⟨rfl, hJx7, hA7⟩)
  case inr =>
    gi_wp2
    go_end0
    exact ⟨⟨_, rfl⟩, .inr ⟨8, by decide, hJx7⟩⟩
  have hc7 := hA7.cell (p := ⟨Bs, 0, none⟩) hB hc6
  clear hA7
  obtain ⟨fn8, tmps8, assign8, body8, hy8, hR8⟩ := hY 8 W8 (by decide) hJ7
  simp only [fbits] at hy8
  gi_wp2
  clear hy8
  refine ⟨rfl, hR8.mono ?_⟩
  clear hR8
  rintro e W9 (⟨rfl, hJ8, hA8⟩ | ⟨rfl, hJx8, hA8⟩)
  case inr =>
    gi_wp2
    go_end0
    exact ⟨⟨_, rfl⟩, .inr ⟨9, by decide, hJx8⟩⟩
  have hc8 := hA8.cell (p := ⟨Bs, 0, none⟩) hB hc7
  clear hA8
  obtain ⟨fn9, tmps9, assign9, body9, hy9, hR9⟩ := hY 9 W9 (by decide) hJ8
  simp only [fbits] at hy9
  gi_wp2
  clear hy9
  refine ⟨rfl, hR9.mono ?_⟩
  clear hR9
  rintro e W10 (⟨rfl, hJ9, hA9⟩ | ⟨rfl, hJx9, hA9⟩)
  case inr =>
    gi_wp2
    go_end0
    exact ⟨⟨_, rfl⟩, .inr ⟨10, by decide, hJx9⟩⟩
  have hc9 := hA9.cell (p := ⟨Bs, 0, none⟩) hB hc8
  clear hA9
  obtain ⟨fn10, tmps10, assign10, body10, hy10, hR10⟩ := hY 10 W10 (by decide) hJ9
  simp only [fbits] at hy10
  gi_wp2
  clear hy10
  refine ⟨rfl, hR10.mono ?_⟩
  clear hR10
  rintro e W11 (⟨rfl, hJ10, hA10⟩ | ⟨rfl, hJx10, hA10⟩)
  case inr =>
    gi_wp2
    go_end0
    exact ⟨⟨_, rfl⟩, .inr ⟨11, by decide, hJx10⟩⟩
  have hc10 := hA10.cell (p := ⟨Bs, 0, none⟩) hB hc9
  clear hA10
  obtain ⟨fn11, tmps11, assign11, body11, hy11, hR11⟩ := hY 11 W11 (by decide) hJ10
  simp only [fbits] at hy11
  gi_wp2
  clear hy11
  refine ⟨rfl, hR11.mono ?_⟩
  clear hR11
  rintro e W12 (⟨rfl, hJ11, hA11⟩ | ⟨rfl, hJx11, hA11⟩)
  case inr =>
    gi_wp2
    go_end0
    exact ⟨⟨_, rfl⟩, .inr ⟨12, by decide, hJx11⟩⟩
  gi_wp2
  go_end0
  exact ⟨⟨_, rfl⟩, .inl hJ11⟩
end Go.Proofs.Ytfppjpcolohmfaa
