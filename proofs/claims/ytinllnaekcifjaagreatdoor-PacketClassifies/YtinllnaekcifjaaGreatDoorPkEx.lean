/- The law's examples answer true. -/
import Derived.Test.YtinllnaekcifjaaGreatDoorPkFrm
import Derived.Test.YtinllnaekcifjaaGreatDoorPkTell
namespace Go.Proofs.YtinllnaekcifjaaGreatDoor
open Go.ChangeShapes Go.WideShapes Go.ChangeAt Go.RowKit

def exA : Mk := ⟨0, 1, 2, 3, 4, 2, 9, ⟨#[]⟩, false, 0, 0⟩
def exB : Mk := ⟨3, 1, 2, 3, 4, 2, 9, ⟨#[]⟩, false, 0, 0⟩
theorem exA_wf : exA.Wf := ⟨by decide, by decide, by decide, by decide, by decide, by decide, by decide, by decide, by decide, by decide⟩
theorem exB_wf : exB.Wf := ⟨by decide, by decide, by decide, by decide, by decide, by decide, by decide, by decide, by decide, by decide⟩
theorem exA_tells : clsE (frameS exA) = 0 ∧ clsP (frameS exA) = ⟨1, 20, (frameS exA).size, ⟨6, 1, 2, 3, 4⟩, 2, 9, 1, 2, 0, 0⟩ := by
  have h := tells_plain exA_wf (by decide) ⟨#[]⟩
  rw [Ps.app_nil] at h
  exact h
theorem exB_tells : clsE (frameS exB) = 0 ∧ clsP (frameS exB) = ⟨2, 20, (frameS exB).size, ⟨17, 1, 2, 3, 4⟩, 0, 9, 0, 0, 28, 48⟩ := by
  have h := tells_about exB_wf (by decide) ⟨#[]⟩
  rw [Ps.app_nil] at h
  exact h
theorem cls_nil : clsE ⟨#[]⟩ = 2 ∧ clsP ⟨#[]⟩ = zeroPk := by
  have hm : Ip.measE ⟨#[]⟩ = 2 := if_pos (by decide)
  have h : Ip.parseE ⟨#[]⟩ = 2 := by unfold Ip.parseE; rw [hm]; rfl
  exact ⟨by unfold clsE; rw [first1 (by rw [h]; decide), h], by unfold clsP; rw [if_neg (by rw [h]; decide)]⟩

set_option maxRecDepth 100000 in
set_option maxHeartbeats 4000000 in
theorem examples_any (w : World) (hE : Ic.Env w) :
    Calls Tryz.prog 4 #[] w fun e w' => e = .returned (.bool true) ∧ Below w.heap.size w w' := by
  have sA := (frame_size exA_wf).2
  have sB := (frame_size exB_wf).2
  have FA := hide (fun u => frame_any exA u exA_wf)
  have FB := hide (fun u => frame_any exB u exB_wf)
  have CA := hide (fun u h => classify_any (frameS exA) u (by omega) h)
  have CB := hide (fun u h => classify_any (frameS exB) u (by omega) h)
  have CN := hide (fun u h => classify_any ⟨#[]⟩ u (by decide) h)
  rw [exA_tells.1, exA_tells.2] at CA
  rw [exB_tells.1, exB_tells.2] at CB
  rw [cls_nil.1, cls_nil.2] at CN
  generalize ((frameS exA).size : Int) = nA at *
  generalize ((frameS exB).size : Int) = nB at *
  generalize frameS exA = A at *
  generalize frameS exB = B at *
  clear sA sB
  simp only [exA, exB] at FA FB
  have HE := hide hE
  clear hE
  have r0 := row_new w (Mk.cells ⟨0, 1, 2, 3, 4, 2, 9, ⟨#[]⟩, false, 0, 0⟩) 25
  have b0 := alloc_on w (.cells (Mk.cells ⟨0, 1, 2, 3, 4, 2, 9, ⟨#[]⟩, false, 0, 0⟩).toArray 25)
  have HR := hide (And.intro r0 b0)
  clear r0 b0
  go_enter Tryz.func4, Tryz.ntmps4
  go_wp2_with fail
  refine (unhide FA _).mono ?_
  rintro e w1 ⟨rfl, hb⟩
  obtain ⟨r0, b0⟩ := unhide HR
  have r1 := r0.on' hb
  have b1 := Below.then b0 hb
  have HR := hide (And.intro r1 b1)
  clear r0 b0 r1 b1 hb
  go_wp2_with fail
  refine (unhide CA _ ((unhide HE).on (unhide HR).2)).mono ?_
  rintro e w2 ⟨rfl, hb⟩
  obtain ⟨r1, b1⟩ := unhide HR
  have nP := alloc_on w2 (.cells #[.int .i64 1, .int .i64 20, .int .i64 nA, .int .i64 6, .int .u32 1, .int .u32 2, .int .i64 3, .int .i64 4, .int .i64 2, .int .i64 9, .int .u32 1, .int .u32 2, .int .i64 0, .int .i64 0] 32)
  have rp := row_new w2 [.int .i64 1, .int .i64 20, .int .i64 nA, .int .i64 6, .int .u32 1, .int .u32 2, .int .i64 3, .int .i64 4, .int .i64 2, .int .i64 9, .int .u32 1, .int .u32 2, .int .i64 0, .int .i64 0] 32
  have r2 := (r1.on' hb).on' nP
  have b2 := Below.then (Below.then b1 hb) nP
  have hlt : w.heap.size < w2.heap.size := Nat.lt_of_lt_of_le r1.lt hb.size
  have c0 := r2.cell 0 _ rfl
  have f0 := r2.free 0
  have r3 := r2.set 0 (.int .u8 3)
  have p3 := rp.other (b := w.heap.size) (by omega) 0 (.int .u8 3)
  have b3 := b2.setCell (p := ⟨w.heap.size, 0, none⟩) (Nat.le_refl _) (.int .u8 3)
  obtain ⟨W3, e3⟩ : ∃ V, (w2.alloc (.cells #[.int .i64 1, .int .i64 20, .int .i64 nA, .int .i64 6, .int .u32 1, .int .u32 2, .int .i64 3, .int .i64 4, .int .i64 2, .int .i64 9, .int .u32 1, .int .u32 2, .int .i64 0, .int .i64 0] 32)).setCell ⟨w.heap.size, 0, none⟩ (.int .u8 3) = V := ⟨_, rfl⟩
  rw [e3] at r3 p3 b3
  replace r3 : Row W3 w.heap.size (Mk.cells ⟨3, 1, 2, 3, 4, 2, 9, ⟨#[]⟩, false, 0, 0⟩) := r3
  have d0 := r3.cell 0 _ rfl
  have d1 := r3.cell 1 _ rfl
  have d2 := r3.cell 2 _ rfl
  have d3 := r3.cell 3 _ rfl
  have d4 := r3.cell 4 _ rfl
  have d5 := r3.cell 5 _ rfl
  have d6 := r3.cell 6 _ rfl
  have d7 := r3.cell 7 _ rfl
  have d8 := r3.cell 8 _ rfl
  have d9 := r3.cell 9 _ rfl
  have d10 := r3.cell 10 _ rfl
  have HR := hide (And.intro r3 (And.intro p3 b3))
  clear r1 b1 nP rp r2 b2 r3 p3 b3 hb hlt
  go_wp2_with fail
  refine (unhide FB _).mono ?_
  rintro e w4 ⟨rfl, hb⟩
  obtain ⟨r3, p3, b3⟩ := unhide HR
  have p4 := p3.on' hb
  have b4 := Below.then b3 hb
  have HR := hide (And.intro p4 b4)
  clear r3 p3 b3 p4 b4 hb d0 d1 d2 d3 d4 d5 d6 d7 d8 d9 d10 c0 f0 e3
  go_wp2_with fail
  refine (unhide CB _ ((unhide HE).on (unhide HR).2)).mono ?_
  rintro e w5 ⟨rfl, hb⟩
  obtain ⟨p4, b4⟩ := unhide HR
  have nQ := alloc_on w5 (.cells #[.int .i64 2, .int .i64 20, .int .i64 nB, .int .i64 17, .int .u32 1, .int .u32 2, .int .i64 3, .int .i64 4, .int .i64 0, .int .i64 9, .int .u32 0, .int .u32 0, .int .i64 28, .int .i64 48] 32)
  have rq := row_new w5 [.int .i64 2, .int .i64 20, .int .i64 nB, .int .i64 17, .int .u32 1, .int .u32 2, .int .i64 3, .int .i64 4, .int .i64 0, .int .i64 9, .int .u32 0, .int .u32 0, .int .i64 28, .int .i64 48] 32
  have p5 := (p4.on' hb).on' nQ
  have b5 := Below.then (Below.then b4 hb) nQ
  have HR := hide (And.intro p5 (And.intro rq b5))
  clear p4 b4 nQ rq p5 b5 hb
  go_wp2_with fail
  refine (unhide CN _ ((unhide HE).on (unhide HR).2.2)).mono ?_
  rintro e w6 ⟨rfl, hb⟩
  obtain ⟨p5, rq, b5⟩ := unhide HR
  have nZ := alloc_on w6 (.cells #[.int .i64 0, .int .i64 0, .int .i64 0, .int .i64 0, .int .u32 0, .int .u32 0, .int .i64 0, .int .i64 0, .int .i64 0, .int .i64 0, .int .u32 0, .int .u32 0, .int .i64 0, .int .i64 0] 32)
  have p6 := p5.on' hb
  have q6 := rq.on' hb
  have h26 : w2.heap.size < w6.heap.size := p6.lt
  have h56 : w5.heap.size < w6.heap.size := q6.lt
  have n26 : w2.heap.size ≠ w6.heap.size := by omega
  have n56 : w5.heap.size ≠ w6.heap.size := by omega
  have HB := hide (Below.then (Below.then b5 hb) nZ)
  have x0 := p6.cell 0 _ rfl
  have x3 := p6.cell 3 _ rfl
  have x4 := p6.cell 4 _ rfl
  have x5 := p6.cell 5 _ rfl
  have x6 := p6.cell 6 _ rfl
  have x7 := p6.cell 7 _ rfl
  have x8 := p6.cell 8 _ rfl
  have y0 := q6.cell 0 _ rfl
  have y3 := q6.cell 3 _ rfl
  have y12 := q6.cell 12 _ rfl
  have y13 := q6.cell 13 _ rfl
  clear p5 rq b5 nZ p6 q6 hb HR
  go_wp2_with fail
  go_ret
  exact ⟨rfl, unhide HB⟩
end Go.Proofs.YtinllnaekcifjaaGreatDoor
