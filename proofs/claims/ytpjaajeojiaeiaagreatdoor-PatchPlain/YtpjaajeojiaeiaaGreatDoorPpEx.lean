/- The law's examples answer true. -/
import Derived.Test.YtpjaajeojiaeiaaGreatDoorPkFrm
import Derived.Test.YtpjaajeojiaeiaaGreatDoorPpMade
namespace Go.Proofs.YtpjaajeojiaeiaaGreatDoor
open Go.ChangeShapes Go.WideShapes Go.ChangeAt Go.RowKit

def exM : Mk := ⟨0, 1, 2, 3, 4, 0, 9, ⟨#[]⟩, false, 0, 0⟩
def exN : Mk := ⟨0, 5, 6, 7, 8, 0, 8, ⟨#[]⟩, false, 0, 0⟩
def exO : Mk := ⟨0, 1, 2, 3, 4, 0, 1, ⟨#[]⟩, false, 0, 0⟩
theorem exM_wf : exM.Wf := ⟨by decide, by decide, by decide, by decide, by decide, by decide, by decide, by decide, by decide, by decide⟩
theorem exN_wf : exN.Wf := ⟨by decide, by decide, by decide, by decide, by decide, by decide, by decide, by decide, by decide, by decide⟩
theorem exO_wf : exO.Wf := ⟨by decide, by decide, by decide, by decide, by decide, by decide, by decide, by decide, by decide, by decide⟩
theorem exM_turned : alwE (frameS exM) 1 ⟨5, 6, 7, 8⟩ = 0 ∧ plainS (frameS exM) ⟨5, 6, 7, 8⟩ = frameS exN := by
  have h := plain_made exM_wf (by decide) (t := ⟨5, 6, 7, 8⟩) ⟨⟨by decide, by decide⟩, ⟨by decide, by decide⟩, by decide, by decide⟩ (by decide) ⟨#[]⟩
  rw [Ps.app_nil] at h
  exact h
theorem cls_nil : clsE ⟨#[]⟩ = 2 := by
  have hm : Ip.measE ⟨#[]⟩ = 2 := if_pos (by decide)
  have h : Ip.parseE ⟨#[]⟩ = 2 := by unfold Ip.parseE; rw [hm]; rfl
  unfold clsE; rw [first1 (by rw [h]; decide), h]
theorem ex_nil : alwE ⟨#[]⟩ 1 ⟨0, 0, 0, 0⟩ = 2 ∧ plainS ⟨#[]⟩ ⟨0, 0, 0, 0⟩ = ⟨#[]⟩ := by
  have h : alwE ⟨#[]⟩ 1 ⟨0, 0, 0, 0⟩ = 2 := by rw [alw_err (by rw [cls_nil]; decide), cls_nil]
  exact ⟨h, plainS_no (by rw [h]; decide)⟩
theorem exO_old : alwE (frameS exO) 1 ⟨0, 0, 0, 0⟩ = 11 ∧ plainS (frameS exO) ⟨0, 0, 0, 0⟩ = ⟨#[]⟩ := by
  have h := tells_plain exO_wf (by decide) ⟨#[]⟩
  rw [Ps.app_nil] at h
  have h2 : alwE (frameS exO) 1 ⟨0, 0, 0, 0⟩ = 11 := by
    rw [alw_told h.1 h.2, if_neg (by decide), if_neg (by rw [(prtB_iff _).2 ⟨by decide, by decide⟩]; decide), if_neg (by rw [(prtB_iff _).2 ⟨by decide, by decide⟩]; decide), if_pos (by decide)]
  exact ⟨h2, plainS_no (by rw [h2]; decide)⟩

set_option maxRecDepth 100000 in
set_option maxHeartbeats 8000000 in
theorem examples_any (w : World) (hE : Ic.Env w) :
    Calls Tryz.prog 10 #[] w fun e w' => e = .returned (.bool true) ∧ Below w.heap.size w w' := by
  have FA := hide (fun u => frame_any exM u exM_wf)
  have FB := hide (fun u => frame_any exO u exO_wf)
  have FC := hide (fun u => frame_any exN u exN_wf)
  have PA := hide (fun u h => plain_any (frameS exM) ⟨5, 6, 7, 8⟩ u (by have := (frame_size exM_wf).2; omega) ⟨⟨by decide, by decide⟩, ⟨by decide, by decide⟩⟩ h)
  have PB := hide (fun u h => plain_any ⟨#[]⟩ ⟨0, 0, 0, 0⟩ u (by decide) ⟨⟨by decide, by decide⟩, ⟨by decide, by decide⟩⟩ h)
  have PC := hide (fun u h => plain_any (frameS exO) ⟨0, 0, 0, 0⟩ u (by have := (frame_size exO_wf).2; omega) ⟨⟨by decide, by decide⟩, ⟨by decide, by decide⟩⟩ h)
  rw [exM_turned.1, exM_turned.2] at PA
  rw [ex_nil.1, ex_nil.2] at PB
  rw [exO_old.1, exO_old.2] at PC
  generalize frameS exM = A at *
  generalize frameS exO = O at *
  generalize frameS exN = B at *
  simp only [exM, exO, exN] at FA FB FC
  have rm := (row_new w (Mk.cells ⟨0, 1, 2, 3, 4, 0, 9, ⟨#[]⟩, false, 0, 0⟩) 25).on' (alloc_on' _ (.cells (Mk.cells ⟨0, 5, 6, 7, 8, 0, 8, ⟨#[]⟩, false, 0, 0⟩).toArray 25))
  have rn := row_new (w.alloc (.cells (Mk.cells ⟨0, 1, 2, 3, 4, 0, 9, ⟨#[]⟩, false, 0, 0⟩).toArray 25)) (Mk.cells ⟨0, 5, 6, 7, 8, 0, 8, ⟨#[]⟩, false, 0, 0⟩) 25
  have bel := Below.then (alloc_on' w (.cells (Mk.cells ⟨0, 1, 2, 3, 4, 0, 9, ⟨#[]⟩, false, 0, 0⟩).toArray 25)) (alloc_on' _ (.cells (Mk.cells ⟨0, 5, 6, 7, 8, 0, 8, ⟨#[]⟩, false, 0, 0⟩).toArray 25))
  rw [show (w.alloc (.cells (Mk.cells ⟨0, 1, 2, 3, 4, 0, 9, ⟨#[]⟩, false, 0, 0⟩).toArray 25)).heap.size = w.heap.size + 1 by simp] at rn
  go_enter Tryz.func10, Tryz.ntmps10
  have rmc0 := rm.cell 0 _ rfl
  have rmc1 := rm.cell 1 _ rfl
  have rmc2 := rm.cell 2 _ rfl
  have rmc3 := rm.cell 3 _ rfl
  have rmc4 := rm.cell 4 _ rfl
  have rmc5 := rm.cell 5 _ rfl
  have rmc6 := rm.cell 6 _ rfl
  have rmc7 := rm.cell 7 _ rfl
  have rmc8 := rm.cell 8 _ rfl
  have rmc9 := rm.cell 9 _ rfl
  have rmc10 := rm.cell 10 _ rfl
  go_wp2_with fail
  refine (unhide FA _).mono ?_
  rintro e v1 ⟨rfl, hb⟩
  replace rm := rm.on' hb
  replace rn := rn.on' hb
  replace bel := Below.then bel hb
  clear rmc0 rmc1 rmc2 rmc3 rmc4 rmc5 rmc6 rmc7 rmc8 rmc9 rmc10
  clear hb
  go_wp2_with fail
  refine (unhide PA _ (hE.on bel)).mono ?_
  rintro e v2 ⟨rfl, hb⟩
  replace rm := rm.on' hb
  replace rn := rn.on' hb
  replace bel := Below.then bel hb
  clear hb
  go_wp2_with fail
  refine (unhide PB _ (hE.on bel)).mono ?_
  rintro e v3 ⟨rfl, hb⟩
  replace rm := rm.on' hb
  replace rn := rn.on' hb
  replace bel := Below.then bel hb
  clear hb
  have srmc := rm.cell 6 _ rfl
  have srmf := rm.free 6
  replace rn := rn.other (b := w.heap.size) (by omega) 6 (.int .u8 1)
  replace rm := rm.set 6 (.int .u8 1)
  replace bel := bel.setCell (p := ⟨w.heap.size, 6, none⟩) (show w.heap.size ≤ w.heap.size by omega) (.int .u8 1)
  obtain ⟨V4, eV4⟩ : ∃ V, v3.setCell ⟨w.heap.size, 6, none⟩ (.int .u8 1) = V := ⟨_, rfl⟩
  rw [eV4] at rm rn bel
  replace rm : Row V4 w.heap.size ((Mk.cells ⟨0, 1, 2, 3, 4, 0, 1, ⟨#[]⟩, false, 0, 0⟩)) := rm
  have rmc0 := rm.cell 0 _ rfl
  have rmc1 := rm.cell 1 _ rfl
  have rmc2 := rm.cell 2 _ rfl
  have rmc3 := rm.cell 3 _ rfl
  have rmc4 := rm.cell 4 _ rfl
  have rmc5 := rm.cell 5 _ rfl
  have rmc6 := rm.cell 6 _ rfl
  have rmc7 := rm.cell 7 _ rfl
  have rmc8 := rm.cell 8 _ rfl
  have rmc9 := rm.cell 9 _ rfl
  have rmc10 := rm.cell 10 _ rfl
  go_wp2_with fail
  refine (unhide FB _).mono ?_
  rintro e v5 ⟨rfl, hb⟩
  replace rm := rm.on' hb
  replace rn := rn.on' hb
  replace bel := Below.then bel hb
  clear srmc srmf eV4 rmc0 rmc1 rmc2 rmc3 rmc4 rmc5 rmc6 rmc7 rmc8 rmc9 rmc10
  clear hb
  go_wp2_with fail
  refine (unhide PC _ (hE.on bel)).mono ?_
  rintro e v6 ⟨rfl, hb⟩
  replace rm := rm.on' hb
  replace rn := rn.on' hb
  replace bel := Below.then bel hb
  clear hb
  have rnc0 := rn.cell 0 _ rfl
  have rnc1 := rn.cell 1 _ rfl
  have rnc2 := rn.cell 2 _ rfl
  have rnc3 := rn.cell 3 _ rfl
  have rnc4 := rn.cell 4 _ rfl
  have rnc5 := rn.cell 5 _ rfl
  have rnc6 := rn.cell 6 _ rfl
  have rnc7 := rn.cell 7 _ rfl
  have rnc8 := rn.cell 8 _ rfl
  have rnc9 := rn.cell 9 _ rfl
  have rnc10 := rn.cell 10 _ rfl
  go_wp2_with fail
  refine (unhide FC _).mono ?_
  rintro e v7 ⟨rfl, hb⟩
  replace rm := rm.on' hb
  replace rn := rn.on' hb
  replace bel := Below.then bel hb
  clear rnc0 rnc1 rnc2 rnc3 rnc4 rnc5 rnc6 rnc7 rnc8 rnc9 rnc10
  clear hb
  go_wp2_with fail
  go_ret
  exact ⟨rfl, bel⟩
end Go.Proofs.YtpjaajeojiaeiaaGreatDoor
