/- The chapter's examples hold: what each statement asks first. -/
import Derived.Test.YteijemjbpfkghaaUdParse
namespace Go.Proofs.Yteijemjbpfkghaa
open Go.ChangeShapes Go.WideShapes Go.ChangeAt Go.RowKit

theorem exP1 : inP 1 = true := by decide
theorem exP2 : inP 2 = true := by decide
theorem exL (n : Int) (h : inP n = true) : laid 2 n = ⟨(Oct.be 2 n.toNat).toArray⟩ := by unfold laid; rw [laidB_two, if_pos h]; rfl
theorem exS : built 1 2 ⟨#[120]⟩ = ⟨#[0, 1, 0, 2, 0, 9, 0, 0, 120]⟩ := by
  have e : (8 + ((ByteArray.mk #[120]).size : Int)) = 9 := rfl
  unfold built
  rw [e, exL 1 (by decide), exL 2 (by decide), exL 9 (by decide), exL 0 (by decide)]
  decide +kernel

set_option maxRecDepth 100000 in
set_option maxHeartbeats 1000000 in
theorem examples_ok (w : World) : Calls Try.prog 9 #[] w fun e w' => e = .returned (.bool true) ∧ Below w.heap.size w w' := by
  have hB : (ByteArray.mk #[120]).size ≤ 1492 := by decide
  have HS := hide (exS)
  obtain ⟨p0, p1, p2, p3, p4⟩ := parse_built exP1 exP2 hB ⟨#[109, 111, 114, 101]⟩
  obtain ⟨q0, q1⟩ := parse_alone exP1 exP2 hB
  have hz := built_size exP1 exP2 hB
  have hbe := buildE_of exP1 exP2 hB
  have hbS := buildS_of hbe
  have HBC : Hid (∀ u, Calls Try.prog 10 #[.int .i64 1, .int .i64 2, .string ⟨#[120]⟩] u fun e u' => e = .returned (.tuple #[.string (built 1 2 ⟨#[120]⟩), .int .i64 0]) ∧ Below u.heap.size u u') := fun u => by
    have := build_any 1 2 ⟨#[120]⟩ u (by decide)
    rw [hbe, hbS] at this
    exact this
  have z9 : (built 1 2 ⟨#[120]⟩).size = 9 := hz
  have HPC : Hid (∀ u, Calls Try.prog 12 #[.string (built 1 2 ⟨#[120]⟩ ++ ⟨#[109, 111, 114, 101]⟩)] u fun e u' => e = .returned (.tuple #[.int .i64 1, .int .i64 2, .string ⟨#[120]⟩, .int .i64 0]) ∧ Below u.heap.size u u') := fun u => by
    have := parse_any (built 1 2 ⟨#[120]⟩ ++ ⟨#[109, 111, 114, 101]⟩) u (by rw [ByteArray.size_append, z9]; decide)
    rw [p0, p2, p3, p4] at this
    exact this
  have HSC : Hid (∀ u, Calls Try.prog 14 #[.string (built 1 2 ⟨#[120]⟩)] u fun e u' => e = .returned (.tuple #[.int .i64 9, .bool true]) ∧ u' = u) := fun u => by
    have := size_any (built 1 2 ⟨#[120]⟩) u (by rw [z9]; decide)
    rw [q0, q1] at this
    exact this
  have ha := add_run (built 1 2 ⟨#[120]⟩) ⟨#[109, 111, 114, 101]⟩ (by rw [z9]; decide) (by decide)
  clear p0 p1 p2 p3 p4 q0 q1 hz hbe hbS hB z9
  generalize built 1 2 ⟨#[120]⟩ = s at *
  generalize s ++ ⟨#[109, 111, 114, 101]⟩ = sm at *
  go_enter Try.func9, Try.ntmps9
  go_wp2_with fail
  refine (HBC.out _).mono ?_
  rintro e w1 ⟨rfl, hb1⟩
  have HB := hide hb1
  clear hb1 HBC
  go_wp2_with fail
  refine (HPC.out _).mono ?_
  rintro e w2 ⟨rfl, hb2⟩
  have HB := hide (Below.then (unhide HB) hb2)
  clear hb2 HPC
  go_wp2_with fail
  refine (HSC.out _).mono ?_
  rintro e w3 ⟨rfl, rfl⟩
  have hs := unhide HS
  go_wp2_with fail
  go_ret
  exact ⟨rfl, unhide HB⟩
end Go.Proofs.Yteijemjbpfkghaa
