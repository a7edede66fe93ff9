/- The law AnchorCounts returns true for every room and whatever has gone, and changes nothing that was there before; no condition but the form's own. -/
import Derived.Test.YtmmaglhilghofaaRows
import Derived.OpenShut
import Derived.ShutString
import Derived.ChangeOld
import Derived.Below
import Derived.SizedLaws
import Derived.Test.YtmmaglhilghofaaAnCnt
namespace Go.Proofs.Ytmmaglhilghofaa.anchorCounts
open Go.ChangeShapes Go.WideShapes Go.ChangeAt Go.RowKit
open Go.ChangeMaps (open_string shut_string)
set_option linter.unusedVariables false
/-- A slice of integers that came in: nil, or a row of cells. -/
def IsRow (k : IntKind) (w : World) (a : Option Addr) (len cap : Nat) (zs : List Int) : Prop :=
  (a = none ∧ len = 0 ∧ cap = 0 ∧ zs = []) ∨
  ∃ x, a = some x ∧ len ≤ cap ∧ cap ≤ maxLen ∧ zs.length = cap ∧ (∀ i, i < zs.length → w.cell? (x.add i) = some (.int k (zs.getD i 0))) ∧ ∀ n ∈ zs, (Lit.int k n).wf = true
open An Sp Go.Shelf
attribute [local go_sem] Oper.semAt_some
theorem sl_of {k : IntKind} {w : World} {a : Option Addr} {len cap : Nat} {zs : List Int} {hi : Int} (h : IsRow k w a len cap zs) (hb : ∀ n, (Lit.int k n).wf = true → 0 ≤ n ∧ n < hi) : Sl k w a len zs hi := by
  rcases h with ⟨_, h2, _, _⟩ | ⟨x, h1, h2, h3, h4, h5, h6⟩
  · intro i hi; omega
  · intro i hi
    refine ⟨x, h1, h5 i (by omega), ?_⟩
    rw [List.getD_eq_getElem?_getD, List.getElem?_eq_getElem (by omega)]
    exact hb _ (h6 _ (List.getElem_mem (by omega)))
set_option maxRecDepth 100000 in
set_option maxHeartbeats 8000000 in
theorem counts (q : Nat) (hq : q ≤ 255) (a : Option Addr) (len cap : Nat) (zs : List Int) (w : World) (hs : Sl .u8 w a len zs 256) :
    Calls Try.prog 5 #[.int .u8 (q : Int), .slice a len cap] w fun e w' => e = .returned (.bool true) ∧ Below w.heap.size w w' := by
  have hsome := fun (u : World) (h : Below w.heap.size w u) => some_any q hq a len cap zs u (hs.on h)
  obtain ⟨r, hre⟩ : ∃ r, 2 + q % 39 = r := ⟨_, rfl⟩
  rw [hre] at hsome
  have hr2 : 2 ≤ r ∧ r ≤ 40 := by omega
  have hri : (2 : Int) + (q : Int) % 39 = (r : Int) := by omega
  have hq1 : (q : Int) ≤ 255 := by omega
  clear hre hs hq
  refine (callsIn_wide (n := 0)).1 ?_
  refine callsIn_of_wp_marks Try.func5 rfl trivial ?_ rfl
  simp only [Try.ntmps5, List.size_toArray, List.length_cons, List.length_nil, Nat.reduceAdd, Nat.reduceSub, Array.replicate_succ, Array.replicate_zero, List.push_toArray, List.append_toArray, List.nil_append, List.cons_append]
  refine wpIn_wide.2 ?_
  go_wp2_with fail
  refine (examples_any _).mono ?_
  rintro e w1 ⟨rfl, hb1⟩
  have HY : Shut _ := ⟨row_alloc.on' hb1⟩
  have HW : Shut (Below w.heap.size w w1) := ⟨Below.then ((Below.refl _ w).alloc (Nat.le_refl _) (.cells #[.bool false] 4)) hb1⟩
  have HG : Shut (w.heap.size < w1.heap.size) := ⟨HY.out.lt⟩
  have hso := hsome _ HW.out
  clear hb1 hsome
  have HR2 : Shut (2 ≤ r ∧ r ≤ 40) := ⟨hr2⟩
  clear hr2
  go_wp2_with fail
  refine hso.mono ?_
  rintro e w2 ⟨bk, v, s, rfl, hA, hR, hb⟩
  have HY2 : Shut _ := ⟨HY.out.on' hb⟩
  have HW2 : Shut _ := ⟨Below.then HW.out hb⟩
  have HA2 : Shut _ := ⟨hA⟩
  have HG2 : Shut (w.heap.size < w2.heap.size ∧ w.heap.size < w1.heap.size) := ⟨HY2.out.lt, HG.out⟩
  clear hA hb hso HY HW HG
  go_wp2_with fail
  refine (working_any _ _).mono ?_
  rintro e w3 ⟨rfl, rfl⟩
  go_wp2_with fail
  obtain ⟨V0, hV0⟩ : ∃ V0, ((w2.alloc (.cells #[.int .i64 (-1)] 3)).alloc (.cells #[.int .i64 0] 3)).alloc (.cells #[.pointer (some ⟨bk.p, 0, none⟩)] 24) = V0 := ⟨_, rfl⟩
  have hsz : V0.heap.size = w2.heap.size + 3 := by rw [← hV0]; simp
  have hB3 : Below w2.heap.size w2 V0 := by rw [← hV0]; exact (((Below.refl _ w2).alloc (Nat.le_refl _) _).alloc (by simp) _).alloc (by simp; omega) _
  have hT1 : Row V0 w2.heap.size [.int .i64 (-1)] := by
    rw [← hV0]
    exact (row_alloc.on' ((Below.refl _ _).alloc (Nat.le_refl _) _)).on' ((Below.refl _ _).alloc (Nat.le_refl _) _)
  have hT2 : Row V0 (w2.heap.size + 1) [.int .i64 0] := by
    rw [← hV0]
    have h := row_alloc (w := w2.alloc (.cells #[.int .i64 (-1)] 3)) (x := .int .i64 0) (t := 3)
    rw [World.size_alloc] at h
    exact h.on' ((Below.refl _ _).alloc (Nat.le_refl _) _)
  have hZ : V0.cell? ⟨w2.heap.size + 1 + 1, 0, none⟩ = some (.pointer (some ⟨bk.p, 0, none⟩)) := by rw [← hV0]; simp [go_sem]
  rw [hV0]
  clear hV0
  have hA3 := HA2.out.on hB3
  have hY3 := HY2.out.on' hB3
  have hlt := HG2.out
  have hroom := hR.room
  have hS := HR2.out
  have hba : bk.a < w2.heap.size := (HA2.out.lt bk.a (List.mem_append_left _ bk.ma)).2
  refine wp_working (d := 9) (b := bk) (s := s) (B := w2.heap.size + 1 + 1) rfl (by omega) hZ hA3.reads (fun k => k ≠ w2.heap.size ∧ k ≠ w2.heap.size + 1) (fun k hk => by omega) (by omega)
    (fun k W => Row W w2.heap.size [.int .i64 (lastW s.A k)] ∧ Row W (w2.heap.size + 1) [.int .i64 ((cnt s.A k : Nat) : Int)] ∧ Row W w.heap.size [.bool false] ∧ AnAt hdA w1.heap.size W bk v s ∧ Below w.heap.size w W) (fun _ _ _ => False)
    (fun k W W' h hb => ⟨h.1.on hb (by omega), h.2.1.on hb (by omega), h.2.2.1.on hb (by omega), h.2.2.2.1.of_blocks fun x hx => hb.block x (by have := (hA3.lt x hx).2; omega), h.2.2.2.2.trans (hb.mono (by omega))⟩) (fun _ _ _ _ h _ => h)
    ⟨hT1, hT2, hY3, hA3, Below.then HW2.out hB3⟩ ?skip ?assign ?body ?done (fun _ _ _ h _ => h.elim)
  case skip =>
    rintro k W hk hz ⟨h1, h2, h3⟩
    have e1 : lastW s.A (k + 1) = lastW s.A k := if_neg hz
    have e2 : cnt s.A (k + 1) = cnt s.A k := by show cnt s.A k + (if s.A k = 0 then 1 else 0) = _; rw [if_neg hz]; rfl
    rw [e1, e2]
    exact ⟨h1, h2, h3⟩
  case assign =>
    intro l' k W K hK
    simp only [roundAct] at hK
    gi_wp2
    simpa using hK
  case body =>
    rintro l' k W hk hz ⟨h1, h2, h3, h4, h5⟩
    have e1 : lastW s.A (k + 1) = (k : Int) := if_pos hz
    have e2 : cnt s.A (k + 1) = cnt s.A k + 1 := by show cnt s.A k + (if s.A k = 0 then 1 else 0) = _; rw [if_pos hz]
    have hl := (lastW_lt s.A k).1
    have hc := cnt_le s.A k
    generalize lastW s.A k = L at *
    generalize cnt s.A k = C at *
    have c1 := h1.cell 0 _ rfl
    have g1 := h1.free 0
    have c2 := h2.cell 0 _ rfl
    have g2 := h2.free 0
    have hle : ¬ (k : Int) ≤ L := by omega
    have hC1 : (C : Int) ≤ 1000000 := by omega
    have q1 : Row ((W.setCell ⟨w2.heap.size, 0, none⟩ (.int .i64 (k : Int))).setCell ⟨w2.heap.size + 1, 0, none⟩ (.int .i64 ((C : Int) + 1))) w2.heap.size [.int .i64 (k : Int)] := (h1.set 0 (.int .i64 (k : Int))).other (by omega) 0 _
    have q2 : Row ((W.setCell ⟨w2.heap.size, 0, none⟩ (.int .i64 (k : Int))).setCell ⟨w2.heap.size + 1, 0, none⟩ (.int .i64 ((C : Int) + 1))) (w2.heap.size + 1) [.int .i64 ((C + 1 : Nat) : Int)] := (h2.other (by omega) 0 _).set 0 (.int .i64 ((C : Int) + 1))
    have q3 : Row ((W.setCell ⟨w2.heap.size, 0, none⟩ (.int .i64 (k : Int))).setCell ⟨w2.heap.size + 1, 0, none⟩ (.int .i64 ((C : Int) + 1))) w.heap.size [.bool false] := (h3.other (by omega) 0 _).other (by omega) 0 _
    have q4 : AnAt hdA w1.heap.size ((W.setCell ⟨w2.heap.size, 0, none⟩ (.int .i64 (k : Int))).setCell ⟨w2.heap.size + 1, 0, none⟩ (.int .i64 ((C : Int) + 1))) bk v s := h4.of_blocks fun x hx => by
      have := (HA2.out.lt x hx).2
      exact (Below.heap_setCell _ _ _ _ (by show x ≠ w2.heap.size + 1; omega)).trans (Below.heap_setCell _ _ _ _ (by show x ≠ w2.heap.size; omega))
    have q5 : Below w.heap.size w ((W.setCell ⟨w2.heap.size, 0, none⟩ (.int .i64 (k : Int))).setCell ⟨w2.heap.size + 1, 0, none⟩ (.int .i64 ((C : Int) + 1))) := (h5.setCell (p := ⟨w2.heap.size, 0, none⟩) (by show w.heap.size ≤ w2.heap.size; omega) _).setCell (p := ⟨w2.heap.size + 1, 0, none⟩) (by show w.heap.size ≤ w2.heap.size + 1; omega) _
    have H : Shut _ := ⟨(⟨q1, q2, q3, q4, q5⟩ : _ ∧ _ ∧ _ ∧ _ ∧ _)⟩
    have E : Shut (lastW s.A (k + 1) = (k : Int) ∧ cnt s.A (k + 1) = C + 1) := ⟨e1, e2⟩
    clear q1 q2 q3 q4 q5 h1 h2 h3 h4 h5 e1 e2 hl hz
    simp only [roundAct]
    gi_wp2
    refine ⟨((Keeps.refl _ _).setCell (p := ⟨w2.heap.size, 0, none⟩) (by simp) _).setCell (p := ⟨w2.heap.size + 1, 0, none⟩) (by simp) _, ?_⟩
    show Row _ _ [.int .i64 (lastW s.A (k + 1))] ∧ Row _ _ [.int .i64 ((cnt s.A (k + 1) : Nat) : Int)] ∧ _
    rw [E.out.1, E.out.2]
    exact H.out
  case done =>
    rintro W ⟨_, h2, h3, h4, h5⟩ hK
    have hcn : cnt s.A s.r = s.n := by rw [hroom]; exact hR.count
    rw [hcn] at h2
    have hn1 := hR.wf.n1
    have hnr := hR.wf.nr
    have hinv : Inv w w1.heap.size r w.heap.size V0.heap.size W bk v s := ⟨h4, hR, h3, hK, fun hx => by have := (hA3.lt _ hx).2; omega, h5, hlt.2, Nat.le_of_lt hlt.2⟩
    have c2 := h2.cell 0 _ rfl
    have hl := fun n => len_any (hinv.drewN n).at_
    have HI : Shut _ := ⟨hinv⟩
    have HSZ : Shut (V0.heap.size = w2.heap.size + 3 ∧ w.heap.size ≤ V0.heap.size) := ⟨hsz, by omega⟩
    obtain ⟨n, hn⟩ : ∃ n, s.n = n := ⟨_, rfl⟩
    have HN : Shut (s.n = n ∧ 1 ≤ n ∧ n ≤ r) := ⟨hn, by omega, by omega⟩
    rw [hn] at c2 hl
    have m1 : decide ((n : Int) < 1) = false := by simp; omega
    have m2 : decide ((r : Int) < n) = false := by simp; omega
    have m3 : decide (r < n) = false := by simp; omega
    clear h2 h3 h4 h5 hK hcn hn1 hnr hinv hA3 hY3 hT1 hT2 hZ hn hB3 hba hroom hS hR hlt hsz
    go_wp2_with fail
    go_quiet (exact (hl _).mono fun e w' h => ⟨h.1, _, h.2⟩)
    have HI2 : ∀ m, Shut (Inv w w1.heap.size r w.heap.size V0.heap.size (W.drewN m) bk v s) := fun m => ⟨HI.out.drewN m⟩
    go_wp2_with fail
    clear HI hl
    go_loopw [11, 12, 13] (fun x _ _ W => ∃ (i : Nat) (v : Value) (s : An), x = .int .i64 (i : Int) ∧ i ≤ r ∧ s.n = i ∧ Shut (Inv w w1.heap.size r w.heap.size V0.heap.size W bk v s)) (fun x _ _ _ => r - (intOf x).toNat)
    case atStart => exact ⟨n, v, s, rfl, HN.out.2.2, HN.out.1, HI2 _⟩
    case round =>
      obtain ⟨i, v, s, rfl, hi, hsn, HI⟩ := hrel
      clear HI2 c2
      by_cases hlt : i < r
      · have hlt1 : (i : Int) < r := by omega
        have hib : (i : Int) ≤ 1000000 := by have := HR2.out; omega
        obtain ⟨t, b, e1, e2, e3, hRt, htn, hwb⟩ := add_more HI.out.reach (by omega)
        have h1 := add_any HI.out.at_ HI.out.reach (by have := HR2.out; omega)
        rw [e1, e2, e3] at h1
        rw [hsn] at htn
        have HRt : Shut _ := ⟨hRt⟩
        have HT : Shut (t.n = i + 1 ∧ Works t b) := ⟨htn, hwb⟩
        clear e1 e2 e3 hRt htn hwb hsn
        go_wp2_with fail
        refine h1.mono ?_
        rintro e w2 ⟨rfl, v2, hA2, hw2⟩
        have inv2 := HI.out.went hA2 hw2 HRt.out
        have h2 := works_any inv2.at_ (by have := HRt.out.room; have := HR2.out; omega) b
        rw [decide_eq_true HT.out.2] at h2
        have HI3 : Shut _ := ⟨inv2⟩
        clear hA2 hw2 inv2 HI h1
        go_wp2_with fail
        refine h2.mono ?_
        rintro e w3 ⟨rfl, hb3⟩
        have inv4 := HI3.out.on hb3
        have h3 := len_any inv4.at_
        rw [HT.out.1] at h3
        have HI4 : Shut _ := ⟨inv4⟩
        clear hb3 inv4 HI3 h2
        go_wp2_with fail
        refine h3.mono ?_
        rintro e w4 ⟨rfl, hw4⟩
        obtain rfl := hw4.symm
        clear hw4
        go_wp2_with fail
        go_roundw
        case rel => exact ⟨i + 1, _, _, by go_num, by omega, HT.out.1, HI4⟩
        case measure => simp [intOf]; omega
      · have hir : i = r := by omega
        obtain ⟨e0, e1, e2, e3⟩ := add_none HI.out.reach (by omega)
        have h1 := add_any HI.out.at_ HI.out.reach (by have := HR2.out; omega)
        rw [e1, e2, e3] at h1
        have hd : decide ((i : Int) < r) = false := by simp; omega
        have hd2 : decide (i < r) = false := by simp; omega
        have E0 : Shut (s = allAn r) := ⟨e0⟩
        clear e0 e1 e2 e3 hsn hir hlt
        go_wp2_with fail
        refine h1.mono ?_
        rintro e w2 ⟨rfl, v2, hA2, hw2⟩
        have inv2 := HI.out.went hA2 hw2 HI.out.reach
        have HI3 : Shut (Inv w w1.heap.size r w.heap.size V0.heap.size w2 bk v2 (allAn r)) := ⟨by rw [← E0.out]; exact inv2⟩
        clear hA2 hw2 inv2 HI h1 E0
        go_wp2_with fail
        go_loopw [16] (fun x W => ∃ (i : Nat) (v : Value) (s : An), x = .int .i64 (i : Int) ∧ 1 ≤ i ∧ i ≤ r ∧ Shut (Down r i s) ∧ Shut (Inv w w1.heap.size r w.heap.size V0.heap.size W bk v s)) (fun x _ => r - (intOf x).toNat)
        case atStart => exact ⟨1, _, _, rfl, Nat.le_refl _, by have := HR2.out; omega, ⟨down_one (by have := HR2.out; omega)⟩, HI3⟩
        case round =>
          obtain ⟨i, v, s, rfl, hi1, hir, HD, HI⟩ := hrel
          clear HI3
          by_cases hlt : i < r
          · have hlt1 : (i : Int) < r := by omega
            have hib : (i : Int) ≤ 1000000 := by have := HR2.out; omega
            obtain ⟨e1, hD2⟩ := down_step HD.out hi1 hlt
            have h1 := remove_any HI.out.at_ HI.out.reach (by have := HR2.out; omega) (i : Int)
            rw [e1] at h1
            have HD2 : Shut _ := ⟨hD2⟩
            have HR3 : Shut _ := ⟨reach_rem HI.out.reach (i : Int)⟩
            have HD1 : Shut (1 ≤ i) := ⟨hi1⟩
            clear e1 hD2 hi1
            go_wp2_with fail
            refine h1.mono ?_
            rintro e w2 ⟨rfl, v2, hA2, hw2⟩
            have inv2 := HI.out.went hA2 hw2 HR3.out
            obtain ⟨k, hk⟩ := nn_of (i : Int) (by omega) (by omega)
            have h2 := bucket_any inv2.at_ inv2.reach.wf (by have := inv2.reach.room; have := HR2.out; omega) k
            have hne := down_bucket HD2.out HD1.out hlt (gmix k)
            rw [hk] at h2
            generalize bucket (remS s (i : Int)) (gmix k) = y at *
            have hne1 : ((y : Int) == (i : Int)) = false := by rw [beq_eq_false_iff_ne]; omega
            have HI3 : Shut _ := ⟨inv2⟩
            clear hA2 hw2 inv2 HI h1 hk hne HD
            go_wp2_with fail
            refine h2.mono ?_
            rintro e w4 ⟨rfl, hw4⟩
            obtain rfl := hw4.symm
            clear hw4
            go_wp2_with fail
            go_roundw
            case rel => exact ⟨i + 1, _, _, by go_num, by omega, by omega, HD2, HI3⟩
            case measure => simp [intOf]; omega
          · obtain rfl : i = r := by omega
            obtain ⟨e1, e2, e3⟩ := down_end HD.out hi1
            have h1 := remove_any HI.out.at_ HI.out.reach (by have := HR2.out; omega) 0
            rw [e1, e2] at h1
            have HI3 : Shut _ := ⟨HI.out⟩
            have E3 : Shut _ := ⟨e3⟩
            clear e1 e2 e3
            go_wp2_with fail
            refine h1.mono ?_
            rintro e w2 ⟨rfl, v2, hA2, hw2⟩
            have inv2 := HI.out.went hA2 hw2 HI.out.reach
            obtain ⟨k, hk⟩ := nn_of 99 (by decide) (by decide)
            have h2 := bucket_any inv2.at_ inv2.reach.wf (by have := inv2.reach.room; have := HR2.out; omega) k
            rw [hk, E3.out (gmix k)] at h2
            have c := inv2.res.cell 0 _ rfl
            have g := inv2.res.free 0
            have HF : Shut _ := ⟨inv2.fin (Nat.le_refl _) true⟩
            clear hA2 hw2 inv2 HI h1 hk E3 HD HI3
            go_wp2_with fail
            refine h2.mono ?_
            rintro e w4 ⟨rfl, hw4⟩
            obtain rfl := hw4.symm
            clear hw4
            go_wp2_with fail
            refine ⟨by simp, .inl ⟨_, _, rfl, run_takeDeferred HF.out.1, ?_⟩⟩
            exact ⟨_, results_cell rfl _ _ _ _ rfl (HF.out.2.1 _), rfl, HF.out.2.2 _ HSZ.out.2⟩
set_option maxHeartbeats 8000000 in
set_option maxRecDepth 100000 in
theorem walk (w : World) (a0 : Int) (a1 : Option Addr) (len1 cap1 : Nat) (z1 : List Int) (w0 : (Lit.int .u8 a0).wf = true) (w1 : IsRow .u8 w a1 len1 cap1 z1) :
    Calls Try.prog 5 #[.int .u8 a0, .slice a1 len1 cap1] w fun e w' => e = .returned (.bool true) ∧ Below w.heap.size w w' := by
  obtain ⟨x0, x1⟩ := u8_bounds w0
  obtain ⟨q, rfl⟩ := Int.eq_ofNat_of_zero_le x0
  exact counts q (by omega) a1 len1 cap1 z1 w (sl_of w1 fun n hn => by have := u8_bounds hn; omega)

theorem own : ownKnob Try.prog.godebug = none := by kernel_rfl
theorem laidOut : laidOutB Try.prog = true := by kernel_rfl
set_option maxRecDepth 100000 in
theorem lifted (os : Os) (started : os.Started) (H : Type) (enc : TypeId × Value → H) :
    ReturnsInHanded {} Try.checked os 5 .any (Rows.anchorCountsSpec.pre6 enc Try.prog Try.f5 Rows.anchorCountsRow.domain false) (Rows.anchorCountsSpec.post enc Try.prog Try.f5 false true false false) := by
  refine returnsInHanded_of_change_sized (C := Try.checked) own started (by kernel_rfl) Try.func5
    (ChangeSpec.witness6 (enc := enc) (C := Try.checked) false ⟨#[], #[.int .u8 0, .slice none 0 0], []⟩ 8 (by kernel_rfl) (by kernel_rfl) (by kernel_rfl) (by kernel_rfl)) ?_
  intro W base args ds gs before hval0 hW hcnd hsz _
  have hval : ∀ (j : Nat) t v, Try.f5.params[j]? = some t → args[j]? = some v → Value.okWide Try.prog W .any base t v := hval0
  have hW' := hW
  obtain ⟨p, q, hA0, hV, rfl, hfz, hnd⟩ := hW
  have hA : DataW.TrodAll enc Try.prog W 0 (fun _ => true) true Try.f5.params.toList args.toList ds p := hA0
  rw [Try.params5] at hA hval
  obtain ⟨v0, vs0, d0, ds0, p0, q0, hargs, rfl, rfl, h0, r0⟩ := trodAll_cons hA
  obtain ⟨v1, vs1, d1, ds1, p1, q1, rfl, rfl, rfl, h1, r1⟩ := trodAll_cons r0
  obtain ⟨rfl, rfl, rfl⟩ := trodAll_nil r1
  obtain rfl : args = #[v0, v1] := by cases args; simp_all
  obtain ⟨rfl, rfl⟩ := trodVars_none hV
  obtain ⟨a0, rfl, rfl, rfl, w0⟩ := open_int Try.underlying5 (hval 0 5 v0 rfl rfl) h0
  obtain ⟨a1, len1, cap1, rfl⟩ := okWide_slice Try.underlying48 (hval 1 48 v1 rfl rfl)
  have k1 := h1
  have lt1 : ∀ x ∈ p1, x.block < W.heap.size := by obtain ⟨m, hm⟩ := k1; exact DataW.trod_lt m _ _ _ hm
  obtain ⟨z1, w1⟩ : ∃ zs, IsRow .u8 W a1 len1 cap1 zs := by
    obtain ⟨fuel, hf⟩ := h1
    rcases open_ints Try.underlying48 Try.underlying5 (by kernel_rfl) hf with ⟨hcs, _⟩ | ⟨x, l, c, zs, hcs, _, hl, hm, hz, _, hcell, hwz⟩
    · simp [Value.cells] at hcs
      obtain ⟨rfl, rfl, rfl⟩ := hcs
      exact ⟨[], .inl ⟨rfl, rfl, rfl, rfl⟩⟩
    · simp [Value.cells] at hcs
      obtain ⟨rfl, rfl, rfl⟩ := hcs
      exact ⟨zs, .inr ⟨_, rfl, hl, hm, by simpa using hz, hcell, hwz⟩⟩
  clear hA0 hval0
  refine (walk W a0 a1 len1 cap1 z1 w0 w1).mono fun e W' ⟨he, bel⟩ => ?_
  subst he
  exact ⟨_, rfl, _, _, _, [], _, [], hW', trodAll_mk1 (shut_bool Try.underlying4 _), (trodAll_cons_mk (shut_int Try.underlying5 w0) (trodAll_cons_mk (Below.trod laidOut (by kernel_rfl) (of_decide_eq_true (by kernel_rfl)) k1 bel lt1) trodAll_mk0)), rfl, bel.frame _, fun h => by cases h⟩

theorem over : Rows.anchorCountsRow.holds Try.pinned (OpenSpec.ofChange Rows.anchorCountsSpec) :=
  OpenClaim.holds_of_wide 5 Try.f5 rfl rfl rfl rfl rfl rfl rfl ⟨rfl, rfl, rfl, rfl, rfl⟩ rfl rfl rfl rfl rfl (by kernel_rfl) Try.func5 (by kernel_rfl)
    (of_decide_eq_true (by kernel_rfl)) (by unfold Func.isWrapper; first | (rw [if_pos (by decide +kernel)]; kernel_rfl) | (rw [if_neg (by decide +kernel)]; exact ⟨rfl, rfl⟩))
    (fun os started H enc _ => lifted os started H enc)

theorem proved : Rows.AnchorCountsSaid := over
#print axioms proved
end Go.Proofs.Ytmmaglhilghofaa.anchorCounts
