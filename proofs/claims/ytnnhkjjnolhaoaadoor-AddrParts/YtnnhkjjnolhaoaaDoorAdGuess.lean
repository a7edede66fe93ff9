/- addr.guess at every text. -/
import Derived.Test.YtnnhkjjnolhaoaaDoorAdText
namespace Go.Proofs.YtnnhkjjnolhaoaaDoor
open Go.ChangeShapes Go.WideShapes Go.ChangeAt Go.RowKit

set_option maxHeartbeats 1000000 in
theorem guess_any (s : ByteArray) (w : World) (hs : s.size ≤ 140737488355328) (hE : Env w) :
    Calls Tryd.prog 23 #[.string s] w fun e w' => e = .returned (.int .u32 (Ad.gs s.data.toList)) ∧ Below w.heap.size w w' := by
  go_enter Tryd.func23, Tryd.ntmps23
  go_wp2_with fail
  refine (split_any s w hs).mono ?_
  rintro e w1 ⟨xs, c, arr, rfl, rfl, hx4, hcell, hp, hz⟩
  have HC := hide hcell; have HP := hide hp; have HZ := hide hz; clear hcell hp hz
  go_wp2_with fail
  go_loopw [3, 11] (fun acc i W => ∃ k : Nat, k ≤ xs.length ∧ i = .int .i64 k ∧ acc = .int .u32 (Ad.gfold ((xs.map (·.data.toList)).take k)) ∧ Row W w.heap.size arr ∧ Below w.heap.size w W) (fun _ i _ => xs.length - (intOf i).toNat)
  case atStart => exact ⟨0, Nat.zero_le _, rfl, rfl, row_alloc _ _, (Below.refl _ _).alloc (Nat.le_refl _) _⟩
  case round =>
    obtain ⟨k, hk, rfl, rfl, hr, hb⟩ := hrel
    have hg0 := Ad.gfold_lt ((xs.map (·.data.toList)).take k)
    obtain ⟨g, hg⟩ : ∃ g : Nat, Ad.gfold ((xs.map (·.data.toList)).take k) = g := ⟨_, rfl⟩
    rw [hg] at hg0 ⊢
    have HG := hide hg; clear hg
    by_cases hlt : k < xs.length
    · obtain ⟨x, hx⟩ : ∃ x, xs[k]? = some x := ⟨xs[k], List.getElem?_eq_getElem hlt⟩
      have hc : wr.cell? ⟨w.heap.size, k, none⟩ = some (.string x) := by rw [row_cell hr]; exact HC.out k x hx
      have hsz := HZ.out x (List.mem_of_getElem? hx)
      have hpv := Ad.pv_lt x.data.toList
      obtain ⟨v, hv⟩ : ∃ v : Nat, Ad.pv x.data.toList = v := ⟨_, rfl⟩
      have HPU := pu_any x wr (by omega) (hE.on hb)
      rw [hv] at hpv HPU
      have hor := join_u32 g v (by omega) (by omega)
      have hstep : Ad.gfold ((xs.map (·.data.toList)).take (k + 1)) = (g * 256 + v) % 4294967296 := by
        rw [List.take_succ_eq_append_getElem (by simpa using hlt), Ad.gfold_snoc, HG.out]
        congr 2
        rw [← hv]
        have : xs[k] = x := by rw [List.getElem?_eq_getElem hlt] at hx; exact Option.some.inj hx
        simp [this]
      have HS := hide hstep; have HR := hide hr; have HB := hide hb; have HX := hide hx; have HV := hide hv; have HQ := hide HPU
      clear hstep hr hb hx hv HPU HC HP HZ
      go_wp2_with fail
      refine (unhide HQ).mono ?_
      rintro e w2 ⟨he, hb2⟩
      rcases he with rfl | ⟨t, p, rfl⟩
      all_goals
        go_wp2_with fail
        go_roundw
        case rel => exact ⟨k + 1, by omega, by go_num, by rw [unhide HS]; go_num, row_on (unhide HR) hb2, Below.then (unhide HB) hb2⟩
        case measure => simp [intOf]; omega
    · go_wp2_with fail
      go_ret
      have hkk : k = xs.length := by omega
      refine ⟨?_, hb⟩
      have e : Ad.gs s.data.toList = g := by
        rw [← HG.out, List.take_of_length_le (by simp; omega), HP.out, Ad.gs, len_eq]
      rw [e]
      rfl
end Go.Proofs.YtnnhkjjnolhaoaaDoor
