/- addr.Parse at every text. -/
import Derived.Test.YtnnhkjjnolhaoaaDoorAdGuess
namespace Go.Proofs.YtnnhkjjnolhaoaaDoor
open Go.ChangeShapes Go.WideShapes Go.ChangeAt Go.RowKit

set_option maxHeartbeats 400000 in
theorem parse_yes (s : ByteArray) (w : World) (hs : s.size ≤ 140737488355328) (hE : Env w) (h : Ad.IsAddr s.data.toList) :
    Calls Tryd.prog 11 #[.string s] w fun e w' => e = .returned (.tuple #[.int .u32 (Ad.gs s.data.toList), .bool true]) ∧ Below w.heap.size w w' := by
  have hg := Ad.gs_lt s.data.toList
  have ht : (Ad.txt (Ad.gs s.data.toList) == s.toList) = true := by rw [tl_eq, Ad.gs_is h]; simp
  go_enter Tryd.func11, Tryd.ntmps11
  go_wp2_with fail
  refine (guess_any s w hs hE).mono ?_
  rintro e w1 ⟨rfl, hb1⟩
  go_wp2_with fail
  refine (text_any _ _ (by omega) (by omega) (hE.on hb1)).mono ?_
  rintro e w2 ⟨rfl, hb2⟩
  go_wp2_with fail
  go_ret2
  exact ⟨rfl, Below.then hb1 hb2⟩
set_option maxHeartbeats 400000 in
theorem parse_no (s : ByteArray) (w : World) (hs : s.size ≤ 140737488355328) (hE : Env w) (h : ¬ Ad.IsAddr s.data.toList) :
    Calls Tryd.prog 11 #[.string s] w fun e w' => e = .returned (.tuple #[.int .u32 0, .bool false]) ∧ Below w.heap.size w w' := by
  have hg := Ad.gs_lt s.data.toList
  have ht : (Ad.txt (Ad.gs s.data.toList) == s.toList) = false := by
    rw [tl_eq]
    exact beq_eq_false_iff_ne.2 fun e => h (Ad.is_of_gs e)
  go_enter Tryd.func11, Tryd.ntmps11
  go_wp2_with fail
  refine (guess_any s w hs hE).mono ?_
  rintro e w1 ⟨rfl, hb1⟩
  go_wp2_with fail
  refine (text_any _ _ (by omega) (by omega) (hE.on hb1)).mono ?_
  rintro e w2 ⟨rfl, hb2⟩
  go_wp2_with fail
  go_ret2
  exact ⟨rfl, Below.then hb1 hb2⟩
/-- At the text of an address. -/
theorem parse_txt (a : Nat) (s : ByteArray) (w : World) (ha : a < 4294967296) (hs : s.data.toList = Ad.txt a) (hE : Env w) :
    Calls Tryd.prog 11 #[.string s] w fun e w' => e = .returned (.tuple #[.int .u32 a, .bool true]) ∧ Below w.heap.size w w' := by
  have hl := (Ad.txt_length a ha).2
  rw [← hs, len_eq] at hl
  have := parse_yes s w (by omega) hE ⟨a, ha, hs.symm⟩
  rw [hs, Ad.gs_txt a ha] at this
  exact this
end Go.Proofs.YtnnhkjjnolhaoaaDoor
