/- The law AnchorMoves returns true for every room, whatever has gone, whichever is removed and all keys, and changes nothing that was there before; no condition but the form's own. -/
import Derived.Test.YtmmaglhilghofaaRows
import Derived.OpenShut
import Derived.ShutString
import Derived.ChangeOld
import Derived.Below
import Derived.SizedLaws
import Derived.Test.YtmmaglhilghofaaAnMov
namespace Go.Proofs.Ytmmaglhilghofaa.anchorMoves
open Go.ChangeShapes Go.WideShapes Go.ChangeAt Go.RowKit
open Go.ChangeMaps (open_string shut_string)
set_option linter.unusedVariables false
/-- A slice of integers that came in: nil, or a row of cells. -/
def IsRow (k : IntKind) (w : World) (a : Option Addr) (len cap : Nat) (zs : List Int) : Prop :=
  (a = none ∧ len = 0 ∧ cap = 0 ∧ zs = []) ∨
  ∃ x, a = some x ∧ len ≤ cap ∧ cap ≤ maxLen ∧ zs.length = cap ∧ (∀ i, i < zs.length → w.cell? (x.add i) = some (.int k (zs.getD i 0))) ∧ ∀ n ∈ zs, (Lit.int k n).wf = true
open An Sp Go.Shelf
attribute [local go_sem] Oper.semAt_some
theorem sl_of {k : IntKind} {w : World} {a : Option Addr} {len cap : Nat} {zs : List Int} {hi : Int} (h : IsRow k w a len cap zs) (hb : ∀ n, (Lit.int k n).wf = true → 0 ≤ n ∧ n < hi) : Sl k w a len zs hi := by
  rcases h with ⟨_, h2, _, _⟩ | ⟨x, h1, h2, h3, h4, h5, h6⟩
  · intro i hi; omega
  · intro i hi
    refine ⟨x, h1, h5 i (by omega), ?_⟩
    rw [List.getD_eq_getElem?_getD, List.getElem?_eq_getElem (by omega)]
    exact hb _ (h6 _ (List.getElem_mem (by omega)))
set_option maxRecDepth 100000 in
set_option maxHeartbeats 16000000 in
theorem moves_some (q p : Nat) (hq : q ≤ 255) (hp : p ≤ 255) (a : Option Addr) (len cap : Nat) (zs : List Int) (w : World) (hs : Sl .u8 w a len zs 256) (x : Addr) (lk ck : Nat) (hlc : lk ≤ ck) (ks : List Int) (hk : Sl .u64 w (some x) lk ks 18446744073709551616) :
    Calls Try.prog 4 #[.int .u8 (q : Int), .slice a len cap, .int .u8 (p : Int), .slice (some x) lk ck] w fun e w' => e = .returned (.bool true) ∧ Below w.heap.size w w' := by
  obtain ⟨m, hmin⟩ : ∃ m : Nat, min (lk : Int) 60 = m := ⟨min lk 60, by omega⟩
  have hml : m ≤ lk := by omega
  have HM60 : Shut (m ≤ 60 ∧ m ≤ lk) := ⟨by omega, hml⟩
  have hmc : (m : Int) ≤ ck := by omega
  have hmk : (m : Int) ≤ lk := by omega
  clear hlc hml
  have hsome := fun (u : World) (h : Below w.heap.size w u) => some_any q hq a len cap zs u (hs.on h)
  obtain ⟨r, hre⟩ : ∃ r, 2 + q % 39 = r := ⟨_, rfl⟩
  rw [hre] at hsome
  have HR2 : Shut (2 ≤ r ∧ r ≤ 40) := ⟨by omega⟩
  have hri : (2 : Int) + (q : Int) % 39 = (r : Int) := by omega
  have hq1 : (q : Int) ≤ 255 := by omega
  have hp1 : (p : Int) ≤ 255 := by omega
  have hkr : (p : Int).tmod (r : Int) = ((p % r : Nat) : Int) := by rw [← Int.ofNat_tmod]
  have HKR : Shut (p % r < r) := ⟨Nat.mod_lt _ (by omega)⟩
  obtain ⟨κ, hκ⟩ : ∃ κ, p % r = κ := ⟨_, rfl⟩
  rw [hκ] at hkr HKR
  have hr0 : ¬ (r : Int) = 0 := by omega
  clear hre hs hq hp hκ
  go_enter Try.func4, Try.ntmps4
  go_wp2_with fail
  refine (examples_any _).mono ?_
  rintro e w1 ⟨rfl, hb1⟩
  have hso := hsome _ hb1
  have HW : Shut _ := ⟨hb1⟩
  clear hb1 hsome
  go_wp2_with fail
  refine hso.mono ?_
  rintro e w2 ⟨bk, v, s, rfl, hA, hR, hb⟩
  have hbk : Below w.heap.size w w2 := Below.then HW.out hb
  have HM0 : Shut (Mov w w1.heap.size r w2 bk v s (.slice none 0 0) s ks 0) := ⟨⟨hA, hR, World.ownsRow_nil _ _ _ _, fun _ _ h => (by cases h), hbk, HW.out.size⟩⟩
  clear hA hR hb hbk hso HW
  go_wp2_with fail
  go_loopw [11, 12, 13] (fun vw y _ W => ∃ (i : Nat), y = .int .i64 (i : Int) ∧ i ≤ m ∧ Shut (Mov w w1.heap.size r W bk v s vw s ks i)) (fun _ y _ _ => m - (intOf y).toNat)
  case atStart => exact ⟨0, rfl, Nat.zero_le _, HM0⟩
  case round =>
    obtain ⟨i, rfl, hi, HM⟩ := hrel
    clear HM0
    by_cases hlt : i < m
    · have hlt1 : (i : Int) < m := by omega
      obtain ⟨xx, hxx, hc, z0, z1⟩ := hk.on HM.out.below i (by have := HM60.out; omega)
      obtain rfl := Option.some.inj hxx
      rw [← keyAt_nn ks i z0 z1] at hc
      clear z0 z1 hxx
      have hbu : Calls Try.prog 14 #[.pointer (some ⟨bk.p, 0, none⟩), .int .u64 (nn (keyAt ks i))] wr fun e w' => e = .returned (.int .i64 (toldAt s ks i : Int)) ∧ w' = wr := bucket_any HM.out.at_ HM.out.reach.wf (by have := HM.out.reach.room; have := HR2.out; omega) (keyAt ks i)
      have hwk := works_any HM.out.at_ (by have := HM.out.reach.room; have := HR2.out; omega) (toldAt s ks i)
      rw [decide_eq_true (show Works s (toldAt s ks i) from bucket_works HM.out.reach.wf _)] at hwk
      have hib : (i : Int) ≤ 1000000 := by have := HM60.out; omega
      go_wp2_with fail
      refine hbu.mono ?_
      rintro e w3 ⟨rfl, hw3⟩
      obtain rfl := hw3.symm
      clear hw3 hbu
      go_wp2_with fail
      refine hwk.mono ?_
      rintro e w3 ⟨rfl, hb3⟩
      have hM3 := HM.out.on hb3
      have hown := hM3.own
      have HI60 : Shut (i ≤ 60) := ⟨by have := HM60.out; omega⟩
      have HS : Shut (w.heap.size ≤ w3.heap.size) := ⟨hM3.below.size⟩
      have HM3 : Shut _ := ⟨hM3⟩
      clear hb3 hM3 HM hwk hc
      obtain ⟨i0, hi0, hz0, hz1, hz2⟩ := info_parts info_int
      go_wp2_with (at_builtin; refine wpList_append_own_at _ rfl _ _ 41 rfl w.heap.size 3 i0 (.int .i64 0) 1 8 Try.underlying41 hi0 hz0 hz1 hz2 rfl (by decide) _ _ _ rfl (hown.alloc _) ⟨w3.heap.size, 0, none⟩ 1 1 [.int .i64 (toldAt s ks i : Int)] rfl rfl cell_one ?c2 ?c3 ?c4 ?c5 ?_)
      case c2 => first | rfl | (intro u hu; simp at hu; subst hu; rfl)
      case c3 => have := HI60.out; unfold maxLen; omega
      case c4 => have := HI60.out; omega
      case c5 => have := HS.out; first | omega | (simp; omega)
      intro v' w4 hown' hgrow _ hor
      have HM4 : Shut _ := ⟨HM3.out.push hgrow hown' (by first | exact hor | (rw [World.size_alloc] at hor; exact hor))⟩
      clear hown hown' hgrow hor HM3
      go_wp2_with fail
      go_roundw
      case rel => exact ⟨i + 1, by go_num, by omega, HM4⟩
      case measure => simp [intOf]; omega
    · have hd : decide ((i : Int) < m) = false := by simp; omega
      have hd2 : decide (i < m) = false := by simp; omega
      have HMm : Shut (Mov w w1.heap.size r wr bk v s u11 s ks m) := ⟨(show i = m by omega) ▸ HM.out⟩
      clear HM hlt
      have hrem := remove_any HMm.out.at_ HMm.out.reach (by have := HR2.out; omega) (κ : Int)
      rcases rem_cases HMm.out.reach κ HKR.out with ⟨hw, e1, e2⟩ | ⟨hw, hn, e1, e2⟩ | ⟨hw, hn, e1, e2⟩
      · rw [e1, e2] at hrem
        have HWK : Shut (¬ Works s κ) := ⟨hw⟩
        have HRe : Shut (An.Reach r s) := ⟨by rw [← e2]; exact reach_rem HMm.out.reach _⟩
        clear e1 e2 hw
        go_wp2_with fail
        refine hrem.mono ?_
        rintro e w3 ⟨rfl, v3, hA3, hw3⟩
        have HM3 : Shut _ := ⟨HMm.out.went hA3 hw3 HRe.out⟩
        have HRs : Shut (An.Reach r s) := ⟨HMm.out.reach⟩
        clear hA3 hw3 hrem HMm
        go_wp2_with fail
        go_loopw [16, 17] (fun y _ W => ∃ (i : Nat), y = .int .i64 (i : Int) ∧ i ≤ m ∧ Shut (Mov w w1.heap.size r W bk v3 s u11 s ks m)) (fun y _ _ => m - (intOf y).toNat)
        case atStart => exact ⟨0, rfl, Nat.zero_le _, HM3⟩
        case round =>
          clear hd hd2 hi
          obtain ⟨i, rfl, hi, HM⟩ := hrel
          clear HM3
          by_cases hlt : i < m
          · have hlt1 : (i : Int) < m := by omega
            have hib : (i : Int) ≤ 1000000 := by have := HM60.out; omega
            obtain ⟨xx, hxx, hc, z0, z1⟩ := hk.on HM.out.below i (by have := HM60.out; omega)
            obtain rfl := Option.some.inj hxx
            rw [← keyAt_nn ks i z0 z1] at hc
            clear z0 z1 hxx
            have hbu : Calls Try.prog 14 #[.pointer (some ⟨bk.p, 0, none⟩), .int .u64 (nn (keyAt ks i))] wr fun e w' => e = .returned (.int .i64 (toldAt s ks i : Int)) ∧ w' = wr := bucket_any HM.out.at_ HM.out.reach.wf (by have := HM.out.reach.room; have := HR2.out; omega) (keyAt ks i)
            have hwk := works_any HM.out.at_ (by have := HM.out.reach.room; have := HR2.out; omega) (toldAt s ks i)
            rw [decide_eq_true (show Works s (toldAt s ks i) from bucket_works HM.out.reach.wf _)] at hwk
            obtain ⟨g, gc, rfl, cc⟩ := HM.out.cell i hlt
            have hTw : Works s (toldAt s ks i) := bucket_works HRs.out.wf _
            have hne : toldAt s ks i ≠ κ := fun e => HWK.out (e ▸ hTw)
            generalize toldAt s ks i = T at *
            clear hTw
            have hn1 : ((T : Int) == (κ : Int)) = false := by rw [beq_eq_false_iff_ne]; omega
            have hn2 : (T == κ) = false := by rw [beq_eq_false_iff_ne]; exact hne
            go_wp2_with fail
            refine hbu.mono ?_
            rintro e w4 ⟨rfl, hw4⟩
            obtain rfl := hw4.symm
            clear hw4 hbu
            go_wp2_with fail
            refine hwk.mono ?_
            rintro e w4 ⟨rfl, hb4⟩
            have HM4 : Shut _ := ⟨HM.out.on hb4⟩
            have cc4 := (hb4.cell (block_lt_of_cell cc)).trans cc
            clear hb4 HM hwk hc cc
            go_wp2_with fail
            go_roundw
            case rel => exact ⟨i + 1, by go_num, by omega, HM4⟩
            case measure => simp [intOf]; omega
          · have hd : decide ((i : Int) < m) = false := by simp; omega
            have hd2 : decide (i < m) = false := by simp; omega
            have HMm : Shut _ := ⟨HM.out⟩
            clear HM hlt
            have hwk := works_any HMm.out.at_ (by have := HMm.out.reach.room; have := HR2.out; omega) κ
            rw [decide_eq_false HWK.out] at hwk
            go_wp2_with fail
            refine hwk.mono ?_
            rintro e w4 ⟨rfl, hb4⟩
            have HB4 : Shut _ := ⟨(HMm.out.on hb4).below⟩
            clear hb4 hwk HMm
            go_wp2_with fail
            go_ret
            exact ⟨rfl, HB4.out⟩
      · rw [e1, e2] at hrem
        have HWK : Shut (Works s κ ∧ s.n = 1) := ⟨⟨hw, hn⟩⟩
        have HRe : Shut (An.Reach r s) := ⟨by rw [← e2]; exact reach_rem HMm.out.reach _⟩
        clear e1 e2 hw hn
        go_wp2_with fail
        refine hrem.mono ?_
        rintro e w3 ⟨rfl, v3, hA3, hw3⟩
        have HM3 : Shut _ := ⟨HMm.out.went hA3 hw3 HRe.out⟩
        have HRs : Shut (An.Reach r s) := ⟨HMm.out.reach⟩
        clear hA3 hw3 hrem HMm
        go_wp2_with fail
        go_loopw [16, 17] (fun y _ W => ∃ (i : Nat), y = .int .i64 (i : Int) ∧ i ≤ m ∧ Shut (Mov w w1.heap.size r W bk v3 s u11 s ks m)) (fun y _ _ => m - (intOf y).toNat)
        case atStart => exact ⟨0, rfl, Nat.zero_le _, HM3⟩
        case round =>
          clear hd hd2 hi
          obtain ⟨i, rfl, hi, HM⟩ := hrel
          clear HM3
          by_cases hlt : i < m
          · have hlt1 : (i : Int) < m := by omega
            have hib : (i : Int) ≤ 1000000 := by have := HM60.out; omega
            obtain ⟨xx, hxx, hc, z0, z1⟩ := hk.on HM.out.below i (by have := HM60.out; omega)
            obtain rfl := Option.some.inj hxx
            rw [← keyAt_nn ks i z0 z1] at hc
            clear z0 z1 hxx
            have hbu : Calls Try.prog 14 #[.pointer (some ⟨bk.p, 0, none⟩), .int .u64 (nn (keyAt ks i))] wr fun e w' => e = .returned (.int .i64 (toldAt s ks i : Int)) ∧ w' = wr := bucket_any HM.out.at_ HM.out.reach.wf (by have := HM.out.reach.room; have := HR2.out; omega) (keyAt ks i)
            have hwk := works_any HM.out.at_ (by have := HM.out.reach.room; have := HR2.out; omega) (toldAt s ks i)
            rw [decide_eq_true (show Works s (toldAt s ks i) from bucket_works HM.out.reach.wf _)] at hwk
            obtain ⟨g, gc, rfl, cc⟩ := HM.out.cell i hlt
            have hTw : Works s (toldAt s ks i) := bucket_works HRs.out.wf _
            have hne : toldAt s ks i = κ := alone HRs.out.wf HWK.out.2 hTw HWK.out.1
            generalize toldAt s ks i = T at *
            clear hTw
            subst hne
            go_wp2_with fail
            refine hbu.mono ?_
            rintro e w4 ⟨rfl, hw4⟩
            obtain rfl := hw4.symm
            clear hw4 hbu
            go_wp2_with fail
            refine hwk.mono ?_
            rintro e w4 ⟨rfl, hb4⟩
            have HM4 : Shut _ := ⟨HM.out.on hb4⟩
            have cc4 := (hb4.cell (block_lt_of_cell cc)).trans cc
            clear hb4 HM hwk hc cc
            go_wp2_with fail
            go_roundw
            case rel => exact ⟨i + 1, by go_num, by omega, HM4⟩
            case measure => simp [intOf]; omega
          · have hd : decide ((i : Int) < m) = false := by simp; omega
            have hd2 : decide (i < m) = false := by simp; omega
            have HMm : Shut _ := ⟨HM.out⟩
            clear HM hlt
            have hwk := works_any HMm.out.at_ (by have := HMm.out.reach.room; have := HR2.out; omega) κ
            rw [decide_eq_true HWK.out.1] at hwk
            go_wp2_with fail
            refine hwk.mono ?_
            rintro e w4 ⟨rfl, hb4⟩
            have HB4 : Shut _ := ⟨(HMm.out.on hb4).below⟩
            clear hb4 hwk HMm
            go_wp2_with fail
            go_ret
            exact ⟨rfl, HB4.out⟩
      · rw [e1, e2] at hrem
        have HWK : Shut (Works s κ ∧ 2 ≤ s.n) := ⟨⟨hw, hn⟩⟩
        have HRe : Shut (An.Reach r (remove s κ)) := ⟨by rw [← e2]; exact reach_rem HMm.out.reach _⟩
        clear e1 e2 hw hn
        go_wp2_with fail
        refine hrem.mono ?_
        rintro e w3 ⟨rfl, v3, hA3, hw3⟩
        have HM3 : Shut _ := ⟨HMm.out.went hA3 hw3 HRe.out⟩
        have HRs : Shut (An.Reach r s) := ⟨HMm.out.reach⟩
        clear hA3 hw3 hrem HMm
        go_wp2_with fail
        go_loopw [16, 17] (fun y _ W => ∃ (i : Nat), y = .int .i64 (i : Int) ∧ i ≤ m ∧ Shut (Mov w w1.heap.size r W bk v3 (remove s κ) u11 s ks m)) (fun y _ _ => m - (intOf y).toNat)
        case atStart => exact ⟨0, rfl, Nat.zero_le _, HM3⟩
        case round =>
          clear hd hd2 hi
          obtain ⟨i, rfl, hi, HM⟩ := hrel
          clear HM3
          by_cases hlt : i < m
          · have hlt1 : (i : Int) < m := by omega
            have hib : (i : Int) ≤ 1000000 := by have := HM60.out; omega
            obtain ⟨xx, hxx, hc, z0, z1⟩ := hk.on HM.out.below i (by have := HM60.out; omega)
            obtain rfl := Option.some.inj hxx
            rw [← keyAt_nn ks i z0 z1] at hc
            clear z0 z1 hxx
            have hbu : Calls Try.prog 14 #[.pointer (some ⟨bk.p, 0, none⟩), .int .u64 (nn (keyAt ks i))] wr fun e w' => e = .returned (.int .i64 (toldAt (remove s κ) ks i : Int)) ∧ w' = wr := bucket_any HM.out.at_ HM.out.reach.wf (by have := HM.out.reach.room; have := HR2.out; omega) (keyAt ks i)
            have hwk := works_any HM.out.at_ (by have := HM.out.reach.room; have := HR2.out; omega) (toldAt (remove s κ) ks i)
            rw [decide_eq_true (show Works (remove s κ) (toldAt (remove s κ) ks i) from bucket_works HM.out.reach.wf _)] at hwk
            obtain ⟨g, gc, rfl, cc⟩ := HM.out.cell i hlt
            have hTw : Works s (toldAt s ks i) := bucket_works HRs.out.wf _
            have hT2 : toldAt (remove s κ) ks i ≠ κ := bucket_gone HRs.out.wf HWK.out.1 HWK.out.2 _
            by_cases hne : toldAt s ks i = κ
            · generalize toldAt (remove s κ) ks i = T2 at *
              generalize toldAt s ks i = T at *
              clear hTw
              have hm1 : ((T2 : Int) == (κ : Int)) = false := by rw [beq_eq_false_iff_ne]; omega
              have hm2 : (T2 == κ) = false := by rw [beq_eq_false_iff_ne]; exact hT2
              subst hne
              go_wp2_with fail
              refine hbu.mono ?_
              rintro e w4 ⟨rfl, hw4⟩
              obtain rfl := hw4.symm
              clear hw4 hbu
              go_wp2_with fail
              refine hwk.mono ?_
              rintro e w4 ⟨rfl, hb4⟩
              have HM4 : Shut _ := ⟨HM.out.on hb4⟩
              have cc4 := (hb4.cell (block_lt_of_cell cc)).trans cc
              clear hb4 HM hwk hc cc
              go_wp2_with fail
              go_roundw
              case rel => exact ⟨i + 1, by go_num, by omega, HM4⟩
              case measure => simp [intOf]; omega
            · have hT3 : toldAt (remove s κ) ks i = toldAt s ks i := bucket_remove HRs.out.wf HWK.out.1 HWK.out.2 _ hne
              rw [hT3] at hbu hwk
              clear hT2 hT3
              generalize toldAt s ks i = T at *
              clear hTw
              have hn1 : ((T : Int) == (κ : Int)) = false := by rw [beq_eq_false_iff_ne]; omega
              have hn2 : (T == κ) = false := by rw [beq_eq_false_iff_ne]; exact hne
              go_wp2_with fail
              refine hbu.mono ?_
              rintro e w4 ⟨rfl, hw4⟩
              obtain rfl := hw4.symm
              clear hw4 hbu
              go_wp2_with fail
              refine hwk.mono ?_
              rintro e w4 ⟨rfl, hb4⟩
              have HM4 : Shut _ := ⟨HM.out.on hb4⟩
              have cc4 := (hb4.cell (block_lt_of_cell cc)).trans cc
              clear hb4 HM hwk hc cc
              go_wp2_with fail
              go_roundw
              case rel => exact ⟨i + 1, by go_num, by omega, HM4⟩
              case measure => simp [intOf]; omega
          · have hd : decide ((i : Int) < m) = false := by simp; omega
            have hd2 : decide (i < m) = false := by simp; omega
            have HMm : Shut _ := ⟨HM.out⟩
            clear HM hlt
            obtain ⟨e1, e2, e3⟩ := add_back HRs.out κ HWK.out.1 HWK.out.2
            have hadd := add_any HMm.out.at_ HMm.out.reach (by have := HR2.out; omega)
            rw [e1, e2, e3] at hadd
            clear e1 e2 e3
            go_wp2_with fail
            refine hadd.mono ?_
            rintro e w4 ⟨rfl, v4, hA4, hw4⟩
            have HM4 : Shut _ := ⟨HMm.out.went hA4 hw4 HRs.out⟩
            clear hA4 hw4 hadd HMm
            go_wp2_with fail
            go_loopw [20] (fun y W => ∃ (i : Nat), y = .int .i64 (i : Int) ∧ i ≤ m ∧ Shut (Mov w w1.heap.size r W bk v4 s u11 s ks m)) (fun y _ => m - (intOf y).toNat)
            case atStart => exact ⟨0, rfl, Nat.zero_le _, HM4⟩
            case round =>
              clear hd hd2 hi
              obtain ⟨i, rfl, hi, HM⟩ := hrel
              clear HM4
              by_cases hlt : i < m
              · have hlt1 : (i : Int) < m := by omega
                have hib : (i : Int) ≤ 1000000 := by have := HM60.out; omega
                obtain ⟨xx, hxx, hc, z0, z1⟩ := hk.on HM.out.below i (by have := HM60.out; omega)
                obtain rfl := Option.some.inj hxx
                rw [← keyAt_nn ks i z0 z1] at hc
                clear z0 z1 hxx
                have hbu : ∀ n, Calls Try.prog 14 #[.pointer (some ⟨bk.p, 0, none⟩), .int .u64 (nn (keyAt ks i))] (wr.drewN n) fun e w' => e = .returned (.int .i64 (toldAt s ks i : Int)) ∧ w' = wr.drewN n := fun n => bucket_any (HM.out.drewN n).at_ HM.out.reach.wf (by have := HM.out.reach.room; have := HR2.out; omega) (keyAt ks i)
                obtain ⟨g, gc, rfl, cc⟩ := HM.out.cell i hlt
                generalize toldAt s ks i = T at *
                have HM5 : ∀ n, Shut (Mov w w1.heap.size r (wr.drewN n) bk v4 s (.slice (some ⟨g, 0, none⟩) m gc) s ks m) := fun n => ⟨HM.out.drewN n⟩
                clear HM
                go_wp2_with fail
                go_quiet (exact (hbu _).mono fun e w' h => ⟨h.1, _, h.2⟩)
                go_wp2_with fail
                go_roundw
                case rel => exact ⟨i + 1, by go_num, by omega, HM5 _⟩
                case measure => simp [intOf]; omega
              · have hd : decide ((i : Int) < m) = false := by simp; omega
                have hd2 : decide (i < m) = false := by simp; omega
                have HB4 : Shut _ := ⟨HM.out.below⟩
                clear HM hlt
                go_wp2_with fail
                go_ret
                exact ⟨rfl, HB4.out⟩
set_option maxRecDepth 100000 in
set_option maxHeartbeats 16000000 in
theorem moves_none (q p : Nat) (hq : q ≤ 255) (hp : p ≤ 255) (a : Option Addr) (len cap : Nat) (zs : List Int) (w : World) (hs : Sl .u8 w a len zs 256) (ks : List Int) :
    Calls Try.prog 4 #[.int .u8 (q : Int), .slice a len cap, .int .u8 (p : Int), .slice none 0 0] w fun e w' => e = .returned (.bool true) ∧ Below w.heap.size w w' := by
  have hsome := fun (u : World) (h : Below w.heap.size w u) => some_any q hq a len cap zs u (hs.on h)
  obtain ⟨r, hre⟩ : ∃ r, 2 + q % 39 = r := ⟨_, rfl⟩
  rw [hre] at hsome
  have HR2 : Shut (2 ≤ r ∧ r ≤ 40) := ⟨by omega⟩
  have hri : (2 : Int) + (q : Int) % 39 = (r : Int) := by omega
  have hq1 : (q : Int) ≤ 255 := by omega
  have hp1 : (p : Int) ≤ 255 := by omega
  have hkr : (p : Int).tmod (r : Int) = ((p % r : Nat) : Int) := by rw [← Int.ofNat_tmod]
  have HKR : Shut (p % r < r) := ⟨Nat.mod_lt _ (by omega)⟩
  obtain ⟨κ, hκ⟩ : ∃ κ, p % r = κ := ⟨_, rfl⟩
  rw [hκ] at hkr HKR
  have hr0 : ¬ (r : Int) = 0 := by omega
  clear hre hs hq hp hκ
  have hmin : min (0 : Int) 60 = 0 := by decide
  go_enter Try.func4, Try.ntmps4
  go_wp2_with fail
  refine (examples_any _).mono ?_
  rintro e w1 ⟨rfl, hb1⟩
  have hso := hsome _ hb1
  have HW : Shut _ := ⟨hb1⟩
  clear hb1 hsome
  go_wp2_with fail
  refine hso.mono ?_
  rintro e w2 ⟨bk, v, s, rfl, hA, hR, hb⟩
  have hbk : Below w.heap.size w w2 := Below.then HW.out hb
  have HM0 : Shut (Mov w w1.heap.size r w2 bk v s (.slice none 0 0) s ks 0) := ⟨⟨hA, hR, World.ownsRow_nil _ _ _ _, fun _ _ h => (by cases h), hbk, HW.out.size⟩⟩
  clear hA hR hb hbk hso HW
  go_wp2_with fail
  have HMm := HM0
  have hrem := remove_any HMm.out.at_ HMm.out.reach (by have := HR2.out; omega) (κ : Int)
  clear HM0
  rcases rem_cases HMm.out.reach κ HKR.out with ⟨hw, e1, e2⟩ | ⟨hw, hn, e1, e2⟩ | ⟨hw, hn, e1, e2⟩
  · rw [e1, e2] at hrem
    have HWK : Shut (¬ Works s κ) := ⟨hw⟩
    have HRe : Shut (An.Reach r s) := ⟨by rw [← e2]; exact reach_rem HMm.out.reach _⟩
    clear e1 e2 hw
    go_loopw [11, 12, 13] (fun vw y _ W => vw = .slice none 0 0 ∧ y = .int .i64 0 ∧ W = w2) (fun _ _ _ _ => 0)
    case atStart => exact ⟨rfl, rfl, rfl⟩
    case round =>
      obtain ⟨rfl, rfl, rfl⟩ := hrel
      go_wp2_with fail
      refine hrem.mono ?_
      rintro e w3 ⟨rfl, v3, hA3, hw3⟩
      have HM3 : Shut _ := ⟨HMm.out.went hA3 hw3 HRe.out⟩
      have HRs : Shut (An.Reach r s) := ⟨HMm.out.reach⟩
      clear hA3 hw3 hrem HMm
      go_wp2_with fail
      go_loopw [16, 17] (fun y _ W => y = .int .i64 0 ∧ Shut (Mov w w1.heap.size r W bk v3 s (.slice none 0 0) s ks 0)) (fun _ _ _ => 0)
      case atStart => exact ⟨rfl, HM3⟩
      case round =>
        obtain ⟨rfl, HMm⟩ := hrel
        clear HM3
        have hwk := works_any HMm.out.at_ (by have := HMm.out.reach.room; have := HR2.out; omega) κ
        rw [decide_eq_false HWK.out] at hwk
        go_wp2_with fail
        refine hwk.mono ?_
        rintro e w4 ⟨rfl, hb4⟩
        have HB4 : Shut _ := ⟨(HMm.out.on hb4).below⟩
        clear hb4 hwk HMm
        go_wp2_with fail
        go_ret
        exact ⟨rfl, HB4.out⟩
  · rw [e1, e2] at hrem
    have HWK : Shut (Works s κ ∧ s.n = 1) := ⟨⟨hw, hn⟩⟩
    have HRe : Shut (An.Reach r s) := ⟨by rw [← e2]; exact reach_rem HMm.out.reach _⟩
    clear e1 e2 hw hn
    go_loopw [11, 12, 13] (fun vw y _ W => vw = .slice none 0 0 ∧ y = .int .i64 0 ∧ W = w2) (fun _ _ _ _ => 0)
    case atStart => exact ⟨rfl, rfl, rfl⟩
    case round =>
      obtain ⟨rfl, rfl, rfl⟩ := hrel
      go_wp2_with fail
      refine hrem.mono ?_
      rintro e w3 ⟨rfl, v3, hA3, hw3⟩
      have HM3 : Shut _ := ⟨HMm.out.went hA3 hw3 HRe.out⟩
      have HRs : Shut (An.Reach r s) := ⟨HMm.out.reach⟩
      clear hA3 hw3 hrem HMm
      go_wp2_with fail
      go_loopw [16, 17] (fun y _ W => y = .int .i64 0 ∧ Shut (Mov w w1.heap.size r W bk v3 s (.slice none 0 0) s ks 0)) (fun _ _ _ => 0)
      case atStart => exact ⟨rfl, HM3⟩
      case round =>
        obtain ⟨rfl, HMm⟩ := hrel
        clear HM3
        have hwk := works_any HMm.out.at_ (by have := HMm.out.reach.room; have := HR2.out; omega) κ
        rw [decide_eq_true HWK.out.1] at hwk
        go_wp2_with fail
        refine hwk.mono ?_
        rintro e w4 ⟨rfl, hb4⟩
        have HB4 : Shut _ := ⟨(HMm.out.on hb4).below⟩
        clear hb4 hwk HMm
        go_wp2_with fail
        go_ret
        exact ⟨rfl, HB4.out⟩
  · rw [e1, e2] at hrem
    have HWK : Shut (Works s κ ∧ 2 ≤ s.n) := ⟨⟨hw, hn⟩⟩
    have HRe : Shut (An.Reach r (remove s κ)) := ⟨by rw [← e2]; exact reach_rem HMm.out.reach _⟩
    clear e1 e2 hw hn
    go_loopw [11, 12, 13] (fun vw y _ W => vw = .slice none 0 0 ∧ y = .int .i64 0 ∧ W = w2) (fun _ _ _ _ => 0)
    case atStart => exact ⟨rfl, rfl, rfl⟩
    case round =>
      obtain ⟨rfl, rfl, rfl⟩ := hrel
      go_wp2_with fail
      refine hrem.mono ?_
      rintro e w3 ⟨rfl, v3, hA3, hw3⟩
      have HM3 : Shut _ := ⟨HMm.out.went hA3 hw3 HRe.out⟩
      have HRs : Shut (An.Reach r s) := ⟨HMm.out.reach⟩
      clear hA3 hw3 hrem HMm
      go_wp2_with fail
      go_loopw [16, 17] (fun y _ W => y = .int .i64 0 ∧ Shut (Mov w w1.heap.size r W bk v3 (remove s κ) (.slice none 0 0) s ks 0)) (fun _ _ _ => 0)
      case atStart => exact ⟨rfl, HM3⟩
      case round =>
        obtain ⟨rfl, HMm⟩ := hrel
        clear HM3
        obtain ⟨e1, e2, e3⟩ := add_back HRs.out κ HWK.out.1 HWK.out.2
        have hadd := add_any HMm.out.at_ HMm.out.reach (by have := HR2.out; omega)
        rw [e1, e2, e3] at hadd
        clear e1 e2 e3
        go_wp2_with fail
        refine hadd.mono ?_
        rintro e w4 ⟨rfl, v4, hA4, hw4⟩
        have HM4 : Shut _ := ⟨HMm.out.went hA4 hw4 HRs.out⟩
        clear hA4 hw4 hadd HMm
        go_wp2_with fail
        go_loopw [20] (fun y W => y = .int .i64 0 ∧ Shut (Below w.heap.size w W)) (fun _ _ => 0)
        case atStart => exact ⟨rfl, ⟨HM4.out.below⟩⟩
        case round =>
          obtain ⟨rfl, HB4⟩ := hrel
          go_wp2_with fail
          go_ret
          exact ⟨rfl, HB4.out⟩
set_option maxHeartbeats 8000000 in
set_option maxRecDepth 100000 in
theorem walk (w : World) (a0 : Int) (a1 : Option Addr) (len1 cap1 : Nat) (z1 : List Int) (a2 : Int) (a3 : Option Addr) (len3 cap3 : Nat) (z3 : List Int) (w0 : (Lit.int .u8 a0).wf = true) (w1 : IsRow .u8 w a1 len1 cap1 z1) (w2 : (Lit.int .u8 a2).wf = true) (w3 : IsRow .u64 w a3 len3 cap3 z3) :
    Calls Try.prog 4 #[.int .u8 a0, .slice a1 len1 cap1, .int .u8 a2, .slice a3 len3 cap3] w fun e w' => e = .returned (.bool true) ∧ Below w.heap.size w w' := by
  obtain ⟨x0, x1⟩ := u8_bounds w0
  obtain ⟨y0, y1⟩ := u8_bounds w2
  obtain ⟨q, rfl⟩ := Int.eq_ofNat_of_zero_le x0
  obtain ⟨p, rfl⟩ := Int.eq_ofNat_of_zero_le y0
  have h1 := sl_of w1 (hi := 256) fun n hn => by have := u8_bounds hn; omega
  have h3 := sl_of w3 (hi := 18446744073709551616) fun n hn => by have := u64_bounds hn; omega
  rcases w3 with ⟨rfl, rfl, rfl, _⟩ | ⟨x, rfl, hlc, _, _, _, _⟩
  · exact moves_none q p (by omega) (by omega) a1 len1 cap1 z1 w h1 z3
  · exact moves_some q p (by omega) (by omega) a1 len1 cap1 z1 w h1 x len3 cap3 hlc z3 h3

theorem own : ownKnob Try.prog.godebug = none := by kernel_rfl
theorem laidOut : laidOutB Try.prog = true := by kernel_rfl
set_option maxRecDepth 100000 in
theorem lifted (os : Os) (started : os.Started) (H : Type) (enc : TypeId × Value → H) :
    ReturnsInHanded {} Try.checked os 4 .any (Rows.anchorMovesSpec.pre6 enc Try.prog Try.f4 Rows.anchorMovesRow.domain false) (Rows.anchorMovesSpec.post enc Try.prog Try.f4 false true false false) := by
  refine returnsInHanded_of_change_sized (C := Try.checked) own started (by kernel_rfl) Try.func4
    (ChangeSpec.witness6 (enc := enc) (C := Try.checked) false ⟨#[], #[.int .u8 0, .slice none 0 0, .int .u8 0, .slice none 0 0], []⟩ 8 (by kernel_rfl) (by kernel_rfl) (by kernel_rfl) (by kernel_rfl)) ?_
  intro W base args ds gs before hval0 hW hcnd hsz _
  have hval : ∀ (j : Nat) t v, Try.f4.params[j]? = some t → args[j]? = some v → Value.okWide Try.prog W .any base t v := hval0
  have hW' := hW
  obtain ⟨p, q, hA0, hV, rfl, hfz, hnd⟩ := hW
  have hA : DataW.TrodAll enc Try.prog W 0 (fun _ => true) true Try.f4.params.toList args.toList ds p := hA0
  rw [Try.params4] at hA hval
  obtain ⟨v0, vs0, d0, ds0, p0, q0, hargs, rfl, rfl, h0, r0⟩ := trodAll_cons hA
  obtain ⟨v1, vs1, d1, ds1, p1, q1, rfl, rfl, rfl, h1, r1⟩ := trodAll_cons r0
  obtain ⟨v2, vs2, d2, ds2, p2, q2, rfl, rfl, rfl, h2, r2⟩ := trodAll_cons r1
  obtain ⟨v3, vs3, d3, ds3, p3, q3, rfl, rfl, rfl, h3, r3⟩ := trodAll_cons r2
  obtain ⟨rfl, rfl, rfl⟩ := trodAll_nil r3
  obtain rfl : args = #[v0, v1, v2, v3] := by cases args; simp_all
  obtain ⟨rfl, rfl⟩ := trodVars_none hV
  obtain ⟨a0, rfl, rfl, rfl, w0⟩ := open_int Try.underlying5 (hval 0 5 v0 rfl rfl) h0
  obtain ⟨a1, len1, cap1, rfl⟩ := okWide_slice Try.underlying48 (hval 1 48 v1 rfl rfl)
  have k1 := h1
  have lt1 : ∀ x ∈ p1, x.block < W.heap.size := by obtain ⟨m, hm⟩ := k1; exact DataW.trod_lt m _ _ _ hm
  obtain ⟨z1, w1⟩ : ∃ zs, IsRow .u8 W a1 len1 cap1 zs := by
    obtain ⟨fuel, hf⟩ := h1
    rcases open_ints Try.underlying48 Try.underlying5 (by kernel_rfl) hf with ⟨hcs, _⟩ | ⟨x, l, c, zs, hcs, _, hl, hm, hz, _, hcell, hwz⟩
    · simp [Value.cells] at hcs
      obtain ⟨rfl, rfl, rfl⟩ := hcs
      exact ⟨[], .inl ⟨rfl, rfl, rfl, rfl⟩⟩
    · simp [Value.cells] at hcs
      obtain ⟨rfl, rfl, rfl⟩ := hcs
      exact ⟨zs, .inr ⟨_, rfl, hl, hm, by simpa using hz, hcell, hwz⟩⟩
  obtain ⟨a2, rfl, rfl, rfl, w2⟩ := open_int Try.underlying5 (hval 2 5 v2 rfl rfl) h2
  obtain ⟨a3, len3, cap3, rfl⟩ := okWide_slice Try.underlying49 (hval 3 49 v3 rfl rfl)
  have k3 := h3
  have lt3 : ∀ x ∈ p3, x.block < W.heap.size := by obtain ⟨m, hm⟩ := k3; exact DataW.trod_lt m _ _ _ hm
  obtain ⟨z3, w3⟩ : ∃ zs, IsRow .u64 W a3 len3 cap3 zs := by
    obtain ⟨fuel, hf⟩ := h3
    rcases open_ints Try.underlying49 Try.underlying30 (by kernel_rfl) hf with ⟨hcs, _⟩ | ⟨x, l, c, zs, hcs, _, hl, hm, hz, _, hcell, hwz⟩
    · simp [Value.cells] at hcs
      obtain ⟨rfl, rfl, rfl⟩ := hcs
      exact ⟨[], .inl ⟨rfl, rfl, rfl, rfl⟩⟩
    · simp [Value.cells] at hcs
      obtain ⟨rfl, rfl, rfl⟩ := hcs
      exact ⟨zs, .inr ⟨_, rfl, hl, hm, by simpa using hz, hcell, hwz⟩⟩
  clear hA0 hval0
  refine (walk W a0 a1 len1 cap1 z1 a2 a3 len3 cap3 z3 w0 w1 w2 w3).mono fun e W' ⟨he, bel⟩ => ?_
  subst he
  exact ⟨_, rfl, _, _, _, [], _, [], hW', trodAll_mk1 (shut_bool Try.underlying4 _), (trodAll_cons_mk (shut_int Try.underlying5 w0) (trodAll_cons_mk (Below.trod laidOut (by kernel_rfl) (of_decide_eq_true (by kernel_rfl)) k1 bel lt1) (trodAll_cons_mk (shut_int Try.underlying5 w2) (trodAll_cons_mk (Below.trod laidOut (by kernel_rfl) (of_decide_eq_true (by kernel_rfl)) k3 bel lt3) trodAll_mk0)))), rfl, bel.frame _, fun h => by cases h⟩

theorem over : Rows.anchorMovesRow.holds Try.pinned (OpenSpec.ofChange Rows.anchorMovesSpec) :=
  OpenClaim.holds_of_wide 4 Try.f4 rfl rfl rfl rfl rfl rfl rfl ⟨rfl, rfl, rfl, rfl, rfl⟩ rfl rfl rfl rfl rfl (by kernel_rfl) Try.func4 (by kernel_rfl)
    (of_decide_eq_true (by kernel_rfl)) (by unfold Func.isWrapper; first | (rw [if_pos (by decide +kernel)]; kernel_rfl) | (rw [if_neg (by decide +kernel)]; exact ⟨rfl, rfl⟩))
    (fun os started H enc _ => lifted os started H enc)

theorem proved : Rows.AnchorMovesSaid := over
#print axioms proved
end Go.Proofs.Ytmmaglhilghofaa.anchorMoves
