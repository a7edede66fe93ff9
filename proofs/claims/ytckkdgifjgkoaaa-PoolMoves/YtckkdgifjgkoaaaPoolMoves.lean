/- The law PoolMoves returns true for every number of backends, whoever drains and all clients, and changes nothing that was there before; no condition but the form's own. -/
import Derived.Test.YtckkdgifjgkoaaaRows
import Derived.OpenShut
import Derived.ShutString
import Derived.ChangeOld
import Derived.Below
import Derived.SizedLaws
import Derived.Test.YtckkdgifjgkoaaaPqMvp
namespace Go.Proofs.Ytckkdgifjgkoaaa.poolMoves
open Go.ChangeShapes Go.WideShapes Go.ChangeAt Go.RowKit
open Go.ChangeMaps (open_string shut_string)
set_option linter.unusedVariables false
/-- A slice of integers that came in: nil, or a row of cells. -/
def IsRow (k : IntKind) (w : World) (a : Option Addr) (len cap : Nat) (zs : List Int) : Prop :=
  (a = none ∧ len = 0 ∧ cap = 0 ∧ zs = []) ∨
  ∃ x, a = some x ∧ len ≤ cap ∧ cap ≤ maxLen ∧ zs.length = cap ∧ (∀ i, i < zs.length → w.cell? (x.add i) = some (.int k (zs.getD i 0))) ∧ ∀ n ∈ zs, (Lit.int k n).wf = true
open An Sp Go.Shelf
attribute [local go_sem] Oper.semAt_some
theorem sl_of {k : IntKind} {w : World} {a : Option Addr} {len cap : Nat} {zs : List Int} {hi : Int} (h : IsRow k w a len cap zs) (hb : ∀ n, (Lit.int k n).wf = true → 0 ≤ n ∧ n < hi) : Sl k w a len zs hi := by
  rcases h with ⟨_, h2, _, _⟩ | ⟨x, h1, h2, h3, h4, h5, h6⟩
  · intro i hi; omega
  · intro i hi
    refine ⟨x, h1, h5 i (by omega), ?_⟩
    rw [List.getD_eq_getElem?_getD, List.getElem?_eq_getElem (by omega)]
    exact hb _ (h6 _ (List.getElem_mem (by omega)))
set_option maxRecDepth 100000 in
set_option maxHeartbeats 16000000 in
theorem moves_some (q d : Nat) (hq : q ≤ 255) (hd : d ≤ 255) (x : Addr) (lk ck : Nat) (hlc : lk ≤ ck) (zs : List Int) (w : World) (hs : Sl .u32 w (some x) lk zs 4294967296) :
    Calls Try.prog 4 #[.int .u8 (q : Int), .int .u8 (d : Int), .slice (some x) lk ck] w fun e w' => e = .returned (.bool true) ∧ Below w.heap.size w w' := by
  obtain ⟨m, hmin⟩ : ∃ m : Nat, min (lk : Int) 60 = m := ⟨min lk 60, by omega⟩
  have hml : m ≤ lk := by omega
  have HM60 : Shut (m ≤ 60 ∧ m ≤ lk) := ⟨by omega, hml⟩
  have hmc : (m : Int) ≤ ck := by omega
  have hmk : (m : Int) ≤ lk := by omega
  clear hlc hml
  obtain ⟨nm, hnm⟩ : ∃ nm : Nat, q % 10 = nm := ⟨_, rfl⟩
  obtain ⟨n, hn⟩ : ∃ n : Nat, 1 + nm = n := ⟨_, rfl⟩
  have hni : (1 : Int) + (q : Int) % 10 = (n : Int) := by omega
  have hsub : (n : Int) - 1 = (nm : Int) := by omega
  have HN : Shut (1 ≤ n ∧ n ≤ 10 ∧ n - 1 = nm) := ⟨by omega⟩
  have hn0 : ¬ (n : Int) = 0 := by omega
  have hkr : (d : Int).tmod (n : Int) = ((d % n : Nat) : Int) := by rw [← Int.ofNat_tmod]
  have hlt : d % n < n := Nat.mod_lt _ (by omega)
  obtain ⟨κ, hκ⟩ : ∃ κ, d % n = κ := ⟨_, rfl⟩
  rw [hκ] at hkr hlt
  obtain ⟨k, hk⟩ : ∃ k : Nat, 1 + κ = k := ⟨_, rfl⟩
  have hki : (1 : Int) + (κ : Int) = (k : Int) := by omega
  have HK : Shut (1 ≤ k ∧ k ≤ n) := ⟨by omega⟩
  have hk1 : (k : Int) ≤ 10 := by omega
  have hk2 : (κ : Int) ≤ 10 := by omega
  have hE := hide (examples_any w)
  have hNew := hide (fun (W : World) (h : Below w.heap.size w W) => run_new w W h 16 (by decide) (by decide) key0 key0_size)
  have HL : Shut (Sl .u32 w (some x) lk zs 4294967296) := ⟨hs⟩
  have hd1 : (d : Int) ≤ 255 := by omega
  have hn1 : (n : Int) ≤ 10 := by omega
  clear hs hn hnm hk hκ hlt hq hd
  go_enter Try.func4, Try.ntmps4
  go_wp2_with fail
  refine (unhide hE).mono ?_
  rintro e w1 ⟨rfl, hb1⟩
  have h : Hid (Calls Try.prog 9 #[.int .i64 16, .string key0] w1 fun e w' => ∃ (b : QBk) (v : Value), e = .returned (.tuple #[.pointer (some ⟨b.p, 0, none⟩), .int .i64 0]) ∧ Run w w1.heap.size key0 16 w' b v (pl0 16) ∧ Below w1.heap.size w1 w') := hide (unhide hNew w1 hb1)
  clear hE hNew
  go_wp2_with fail
  refine (unhide h).mono ?_
  rintro e w2 ⟨b, v, rfl, R2, _⟩
  have HR2 : Shut _ := ⟨R2⟩
  clear h hb1 R2
  go_wp2_with fail
  go_loopw [11] (fun t W => ∃ (i : Nat) (u : Value) (p : Pl), t = .int .i64 (i : Int) ∧ 1 ≤ i ∧ i ≤ n + 1 ∧ Shut (Run w w1.heap.size key0 16 W b u p) ∧ Shut (Po.Filled 16 (i - 1) p)) (fun t _ => n + 1 - (intOf t).toNat)
  case atStart => exact ⟨1, v, pl0 16, rfl, Nat.le_refl _, by omega, HR2, ⟨Po.filled_start (by decide)⟩⟩
  case round =>
    obtain ⟨i, u, p, rfl, hi1, hi2, HR, HF⟩ := hrel
    clear HR2
    by_cases hle : i ≤ n
    · have hi3 : (i : Int) ≤ n := by omega
      have hi4 : (i : Int) ≤ 10 := by omega
      have hi5 : 0 ≤ (i : Int) := by omega
      have hwr : IntKind.u32.wrap (i : Int) = (i : Int) := by rw [IntKind.wrap, if_neg (by simp [IntKind.signed])]; simp [IntKind.bits]; omega
      have e1 : (((i - 1 : Nat) : Int) + 1) = (i : Int) := by omega
      have hput := HF.out.put (by have := HN.out; omega) i 80 (by decide) (by decide)
      have hfin := HF.out.fine (by have := HN.out; omega) 80 (by decide) (by decide)
      rw [e1] at hput hfin
      rw [show i - 1 + 1 = i + 1 - 1 by omega] at hput
      have HF2 : Shut _ := ⟨hput⟩
      have hc := HR.out.put i i 80 (by omega)
      rw [hfin] at hc
      have hC := hide hc
      clear hc hput hfin HF e1
      go_wp2_with fail
      refine (unhide hC).mono ?_
      rintro e w5 ⟨rfl, v5, R5, _⟩
      have HR5 : Shut _ := ⟨R5⟩
      clear hC R5 HR
      go_wp2_with fail
      go_roundw
      case rel => exact ⟨i + 1, v5, _, by go_num, by omega, by omega, HR5, HF2⟩
      case measure => simp [intOf]; omega
    · have hi3 : ¬ (i : Int) ≤ n := by omega
      have HF0 : Shut (Po.Filled 16 n p) := ⟨(show i - 1 = n by omega) ▸ HF.out⟩
      have HM0 : Shut (Mvp w w1.heap.size wr b u p (.slice none 0 0) n zs 0) := ⟨⟨HR.out, World.ownsRow_nil _ _ _ _, fun _ _ h => (by cases h)⟩⟩
      clear hle hi1 hi2 HR HF
      go_wp2_with fail
      go_loopw [12, 13] (fun vw y W => ∃ (j : Nat), y = .int .i64 (j : Int) ∧ j ≤ m ∧ Shut (Mvp w w1.heap.size W b u p vw n zs j)) (fun _ y _ => m - (intOf y).toNat)
      case atStart => exact ⟨0, rfl, Nat.zero_le _, HM0⟩
      case round =>
        obtain ⟨j, rfl, hj, HM⟩ := hrel
        clear HM0
        by_cases hlt : j < m
        · have hlt1 : (j : Int) < m := by omega
          obtain ⟨xx, hxx, hc, hz0, hz1⟩ := HL.out.on HM.out.run.below j (by have := HM60.out; omega)
          obtain rfl := Option.some.inj hxx
          have hP := Po.pick_yes (p := p) (key := key0) (t := tpN (zs.getD j 0)) (by rw [HF0.out.act]; have := HN.out; omega) (tpN_key _)
          have hT := HF0.out.id (key := key0) (t := tpN (zs.getD j 0)) HN.out.1 (by have := HN.out; omega)
          have hT1 : (Po.pickM p key0 (tpN (zs.getD j 0))).id = wasAt n zs j := hT.1
          have hT2 : wasAt n zs j ≤ n := hT.2
          have hT3 : 1 ≤ wasAt n zs j := Nat.succ_pos _
          rw [hT1] at hP
          generalize (Po.pickM p key0 (tpN (zs.getD j 0))).addr = Y at hP
          generalize (Po.pickM p key0 (tpN (zs.getD j 0))).port = Z at hP
          have HP : Shut _ := ⟨hP⟩
          have HW : Shut (tpN (zs.getD j 0)).Wf := ⟨tpN_wf hz0 hz1⟩
          have hTu := hide (fun u => tuple_any (zs.getD j 0) hz0 u)
          generalize zs.getD j 0 = c at *
          have HCc : Shut _ := ⟨hc⟩
          clear hz0 hz1 hP hT hT1 hxx hlt
          obtain ⟨T, hTd⟩ : ∃ T, wasAt n zs j = T := ⟨_, rfl⟩
          rw [hTd] at hT2 hT3 HP
          have HT : Shut (wasAt n zs j = T) := ⟨hTd⟩
          clear hTd
          have t1 : ¬ (T : Int) < 1 := by omega
          have t2 : ¬ (n : Int) < (T : Int) := by omega
          have t3 : (T : Int) ≤ 10 := by omega
          clear hT2 hT3
          go_wp2_with fail
          refine (unhide hTu _).mono ?_
          rintro e w7 ⟨rfl, hb⟩
          have HM7 : Shut _ := ⟨HM.out.on hb⟩
          clear hb HM hc HCc hTu
          have hk := HM7.out.run.pick (tpN c) HW.out
          rw [HP.out] at hk
          have hK := hide hk
          clear hk
          go_wp2_with fail
          refine (unhide hK).mono ?_
          rintro e w8 ⟨rfl, hb⟩
          have hM8 := HM7.out.on (Below.then hb (alloc_on w8 (.cells #[.int .i64 (T : Int), .int .u32 (Y : Int), .int .i64 (Z : Int)] 33)))
          have hX8 := row_new w8 [.int .i64 (T : Int), .int .u32 (Y : Int), .int .i64 (Z : Int)] 33
          obtain ⟨W8, hW8⟩ : ∃ W8, w8.alloc (.cells #[.int .i64 (T : Int), .int .u32 (Y : Int), .int .i64 (Z : Int)] 33) = W8 := ⟨_, rfl⟩
          have hX8' : Row (w8.alloc (.cells #[.int .i64 (T : Int), .int .u32 (Y : Int), .int .i64 (Z : Int)] 33)) w8.heap.size [.int .i64 (T : Int), .int .u32 (Y : Int), .int .i64 (Z : Int)] := hX8
          rw [hW8] at hM8 hX8'
          have x0 := hX8'.cell 0 _ rfl
          have hown := hM8.own
          have HS : Shut (w.heap.size ≤ W8.heap.size) := ⟨hM8.run.below.size⟩
          have HJ : Shut (j ≤ 60) := ⟨by have := HM60.out; omega⟩
          have HM8 : Shut _ := ⟨hM8⟩
          clear hb HM7 hK hM8 hX8 hX8'
          obtain ⟨i0, hi0, hz0, hz1, hz2⟩ := info_parts info_int
          go_wp2_with (at_builtin; refine wpList_append_own_at _ rfl _ _ 44 rfl w.heap.size 3 i0 (.int .i64 0) 1 8 Try.underlying44 hi0 hz0 hz1 hz2 rfl (by decide) _ _ _ rfl (hown.alloc _) ⟨W8.heap.size, 0, none⟩ 1 1 [.int .i64 (T : Int)] rfl rfl cell_one ?c2 ?c3 ?c4 ?c5 ?_)
          case c2 => first | rfl | (intro u hu; simp at hu; subst hu; rfl)
          case c3 => have := HJ.out; unfold maxLen; omega
          case c4 => have := HJ.out; omega
          case c5 => have := HS.out; first | omega | (simp; omega)
          intro v' w9 hown' hgrow _ hor
          have HM9 : Shut (Mvp w w1.heap.size w9 b u p v' n zs (j + 1)) := ⟨HM8.out.push (by rw [HT.out]; exact hgrow) (by rw [HT.out]; exact hown') (by first | exact hor | (rw [World.size_alloc] at hor; exact hor))⟩
          clear hown hown' hgrow hor HM8 x0
          go_wp2_with fail
          go_roundw
          case rel => exact ⟨j + 1, by go_num, by omega, HM9⟩
          case measure => simp [intOf]; omega
        · have hjn : ¬ (j : Int) < m := by omega
          have HMm : Shut (Mvp w w1.heap.size wr b u p u12 n zs m) := ⟨(show j = m by omega) ▸ HM.out⟩
          clear hlt hj HM
          have hdr := HF0.out.drain HK.out.1 HK.out.2
          have HDr : Shut _ := ⟨hdr.2⟩
          have hc := HMm.out.run.drain (k : Int) (by have := HK.out; have := HN.out; omega)
          rw [hdr.1] at hc
          have hC := hide hc
          clear hc hdr
          go_wp2_with fail
          refine (unhide hC).mono ?_
          rintro e w3 ⟨rfl, v3, R3, g3⟩
          have HM3 : Shut _ := ⟨HMm.out.went R3 g3⟩
          clear hC R3 g3 HMm
          generalize Po.drainP p (k : Int) = p1 at *
          have hst : Po.stOf p1 (k : Int) = 2 := by rw [HDr.out.st, if_pos rfl]
          have hc := HM3.out.run.drain (k : Int) (by have := HK.out; have := HN.out; omega)
          rw [Po.drainE_eq HDr.out.inv, hst, if_neg (by decide), if_neg (by decide), Po.drainP_no (by rw [hst]; decide)] at hc
          have hC := hide hc
          clear hc hst
          go_wp2_with fail
          refine (unhide hC).mono ?_
          rintro e w4 ⟨rfl, v4, R4, g4⟩
          have HM4 : Shut _ := ⟨HM3.out.went R4 g4⟩
          clear hC R4 g4 HM3
          have hc := HM4.out.run.act
          rw [HDr.out.act, HN.out.2.2] at hc
          have hC := hide hc
          clear hc
          go_wp2_with fail
          refine (unhide hC).mono ?_
          rintro e w5 ⟨rfl, hw⟩
          obtain rfl := hw.symm
          clear hw hC
          go_wp2_with fail
          go_loopw [17] (fun y W => ∃ (j : Nat), y = .int .i64 (j : Int) ∧ j ≤ m ∧ Shut (Mvp w w1.heap.size W b v4 p1 u12 n zs m)) (fun y _ => m - (intOf y).toNat)
          case atStart => exact ⟨0, rfl, Nat.zero_le _, HM4⟩
          case round =>
            clear hjn
            obtain ⟨j, rfl, hj, HM⟩ := hrel
            clear HM4
            by_cases hlt : j < m
            · have hlt1 : (j : Int) < m := by omega
              have hjb : (j : Int) ≤ 60 := by have := HM60.out; omega
              obtain ⟨xx, hxx, hc, hz0, hz1⟩ := HL.out.on HM.out.run.below j (by have := HM60.out; omega)
              obtain rfl := Option.some.inj hxx
              obtain ⟨g, gc, rfl, cc⟩ := HM.out.cell j hlt
              clear cc
              have hwr : ∃ g gc, (Value.slice (some ⟨g, 0, none⟩) m gc = Value.slice (some ⟨g, 0, none⟩) m gc) := ⟨g, gc, rfl⟩
              clear hwr
              by_cases hone : nm = 0
              · have HP : ∃ zq : Int, Shut (Po.pickV p1 key0 (tpN (zs.getD j 0)) = .tuple #[.agg #[.int .i64 zq, .int .u32 zq, .int .i64 zq], .bool false]) := ⟨0, ⟨Po.pick_no (p := p1) (key := key0) (t := tpN (zs.getD j 0)) (by rw [HDr.out.act]; have := HN.out; omega)⟩⟩
                obtain ⟨zq, HP⟩ := HP
                have e1 : decide ((1 : Int) < (n : Int)) = false := by have := HN.out; simp; omega
                have e2 : decide (1 < n) = false := by have := HN.out; simp; omega
                have HLt : Shut (j < m) := ⟨hlt⟩
                clear hone hlt
                have HW : Shut (tpN (zs.getD j 0)).Wf := ⟨tpN_wf hz0 hz1⟩
                have hTu := hide (fun u => tuple_any (zs.getD j 0) hz0 u)
                generalize zs.getD j 0 = c at *
                have HCc : Shut _ := ⟨hc⟩
                clear hz0 hz1 hxx
                go_wp2_with fail
                refine (unhide hTu _).mono ?_
                rintro e w7 ⟨rfl, hb⟩
                have HM7 : Shut _ := ⟨HM.out.on hb⟩
                clear hb HM hc HCc hTu
                have hk := HM7.out.run.pick (tpN c) HW.out
                rw [HP.out] at hk
                have hK := hide hk
                clear hk
                go_wp2_with fail
                refine (unhide hK).mono ?_
                rintro e w8 ⟨rfl, hb⟩
                have hM8 := HM7.out.on (Below.then hb (alloc_on w8 (.cells #[.int .i64 zq, .int .u32 zq, .int .i64 zq] 33)))
                have hX8 : Row (w8.alloc (.cells #[.int .i64 zq, .int .u32 zq, .int .i64 zq] 33)) w8.heap.size [.int .i64 zq, .int .u32 zq, .int .i64 zq] := row_new w8 [.int .i64 zq, .int .u32 zq, .int .i64 zq] 33
                obtain ⟨W8, hW8⟩ : ∃ W8, w8.alloc (.cells #[.int .i64 zq, .int .u32 zq, .int .i64 zq] 33) = W8 := ⟨_, rfl⟩
                rw [hW8] at hM8 hX8
                have x0 := hX8.cell 0 _ rfl
                have HM8 : Shut _ := ⟨hM8⟩
                clear hb HM7 hK hM8 hX8
                obtain ⟨g2, gc2, hgg, cc⟩ := HM8.out.cell j HLt.out
                obtain ⟨rfl, rfl⟩ : g = g2 ∧ gc = gc2 := by injection hgg with h1 h2 h3; injection h1 with h1; injection h1 with h1; exact ⟨h1, h3⟩
                clear hgg
                go_wp2_with fail
                go_quiet (fail)
                have HM9 : Shut _ := ⟨HM8.out.drewN nq⟩
                clear HM8 x0 cc
                generalize W8.drewN nq = W9 at *
                go_wp2_with fail
                go_roundw
                case rel => exact ⟨j + 1, by go_num, by have := HLt.out; omega, HM9⟩
                case measure => have := HLt.out; simp [intOf]; omega
              · have hP := Po.pick_yes (p := p1) (key := key0) (t := tpN (zs.getD j 0)) (by rw [HDr.out.act]; have := HN.out; omega) (tpN_key _)
                have hT := HDr.out.id (key := key0) (t := tpN (zs.getD j 0)) (by have := HN.out; omega) (by have := HN.out; omega) HK.out.1 HK.out.2
                obtain ⟨T1, hT1⟩ : ∃ T1, (Po.pickM p1 key0 (tpN (zs.getD j 0))).id = T1 := ⟨_, rfl⟩
                obtain ⟨T, hTd⟩ : ∃ T, wasAt n zs j = T := ⟨_, rfl⟩
                have hTe : bucket (An.start 16 n) (gmix (Sp.hash key0 (keyS (tpN (zs.getD j 0))))) + 1 = T := hTd
                rw [hT1, hTe] at hT
                rw [hT1] at hP
                clear hT1 hTe
                generalize (Po.pickM p1 key0 (tpN (zs.getD j 0))).addr = Y at hP
                generalize (Po.pickM p1 key0 (tpN (zs.getD j 0))).port = Z at hP
                have HP : Shut _ := ⟨hP⟩
                have HT : Shut (wasAt n zs j = T) := ⟨hTd⟩
                have e1 : decide ((1 : Int) < (n : Int)) = true := by have := HN.out; simp; omega
                have e2 : decide (1 < n) = true := by have := HN.out; simp; omega
                have f1 : ((T1 : Int) == (k : Int)) = false := by rw [beq_eq_false_iff_ne]; have := hT.1; omega
                have f2 : (T1 == k) = false := by rw [beq_eq_false_iff_ne]; exact hT.1
                have HLt : Shut (j < m) := ⟨hlt⟩
                have HTT : Shut (T ≠ k → T1 = T) := ⟨hT.2⟩
                clear hP hTd hT hlt hone
                have HW : Shut (tpN (zs.getD j 0)).Wf := ⟨tpN_wf hz0 hz1⟩
                have hTu := hide (fun u => tuple_any (zs.getD j 0) hz0 u)
                generalize zs.getD j 0 = c at *
                have HCc : Shut _ := ⟨hc⟩
                clear hz0 hz1 hxx
                go_wp2_with fail
                refine (unhide hTu _).mono ?_
                rintro e w7 ⟨rfl, hb⟩
                have HM7 : Shut _ := ⟨HM.out.on hb⟩
                clear hb HM hc HCc hTu
                have hk := HM7.out.run.pick (tpN c) HW.out
                rw [HP.out] at hk
                have hK := hide hk
                clear hk
                go_wp2_with fail
                refine (unhide hK).mono ?_
                rintro e w8 ⟨rfl, hb⟩
                have hM8 := HM7.out.on (Below.then hb (alloc_on w8 (.cells #[.int .i64 (T1 : Int), .int .u32 (Y : Int), .int .i64 (Z : Int)] 33)))
                have hX8 : Row (w8.alloc (.cells #[.int .i64 (T1 : Int), .int .u32 (Y : Int), .int .i64 (Z : Int)] 33)) w8.heap.size [.int .i64 (T1 : Int), .int .u32 (Y : Int), .int .i64 (Z : Int)] := row_new w8 [.int .i64 (T1 : Int), .int .u32 (Y : Int), .int .i64 (Z : Int)] 33
                obtain ⟨W8, hW8⟩ : ∃ W8, w8.alloc (.cells #[.int .i64 (T1 : Int), .int .u32 (Y : Int), .int .i64 (Z : Int)] 33) = W8 := ⟨_, rfl⟩
                rw [hW8] at hM8 hX8
                have x0 := hX8.cell 0 _ rfl
                have HM8 : Shut _ := ⟨hM8⟩
                clear hb HM7 hK hM8 hX8
                obtain ⟨g2, gc2, hgg, cc⟩ := HM8.out.cell j HLt.out
                obtain ⟨rfl, rfl⟩ : g = g2 ∧ gc = gc2 := by injection hgg with h1 h2 h3; injection h1 with h1; injection h1 with h1; exact ⟨h1, h3⟩
                clear hgg
                rw [HT.out] at cc
                by_cases hTk : T = k
                · have f3 : ((T : Int) != (k : Int)) = false := by rw [hTk]; simp
                  have f4 : (T != k) = false := by rw [hTk]; simp
                  clear hTk
                  go_wp2_with fail
                  go_quiet (fail)
                  have HM9 : Shut _ := ⟨HM8.out.drewN nq⟩
                  clear HM8 x0 cc
                  generalize W8.drewN nq = W9 at *
                  go_wp2_with fail
                  go_roundw
                  case rel => exact ⟨j + 1, by go_num, by have := HLt.out; omega, HM9⟩
                  case measure => have := HLt.out; simp [intOf]; omega
                · have f3 : ((T : Int) != (k : Int)) = true := by simp; omega
                  have f4 : (T != k) = true := by simp; omega
                  have f5 : ((T1 : Int) != (T : Int)) = false := by rw [HTT.out hTk]; simp
                  have f6 : (T1 != T) = false := by rw [HTT.out hTk]; simp
                  clear hTk
                  go_wp2_with fail
                  go_quiet (fail)
                  have HM9 : Shut _ := ⟨HM8.out.drewN nq⟩
                  clear HM8 x0 cc
                  generalize W8.drewN nq = W9 at *
                  go_wp2_with fail
                  go_roundw
                  case rel => exact ⟨j + 1, by go_num, by have := HLt.out; omega, HM9⟩
                  case measure => have := HLt.out; simp [intOf]; omega
            · have hjn3 : ¬ (j : Int) < m := by omega
              have hbk := HDr.out.back (by have := HN.out; omega) (by decide) HK.out.1 HK.out.2 99 80 (by decide)
              have HBk : Shut _ := ⟨hbk⟩
              have hc := HM.out.run.gone (k : Int) (by have := HK.out; have := HN.out; omega)
              rw [hbk.1] at hc
              have hC := hide hc
              clear hlt
              clear hc hbk
              go_wp2_with fail
              refine (unhide hC).mono ?_
              rintro e w6 ⟨rfl, v6, R6, g6⟩
              have HM6 : Shut _ := ⟨HM.out.went R6 g6⟩
              clear hC R6 g6 HM
              have hc := HM6.out.run.put (k : Int) 99 80 (by decide)
              rw [HBk.out.2.1] at hc
              have hC := hide hc
              clear hc
              go_wp2_with fail
              refine (unhide hC).mono ?_
              rintro e w7 ⟨rfl, v7, R7, g7⟩
              have HM7 : Shut _ := ⟨HM6.out.went R7 g7⟩
              have HA7 : Shut _ := ⟨HBk.out.2.2⟩
              clear hC R7 g7 HM6 HBk
              generalize Po.putP 16 (Po.goneP p1 (k : Int)) (k : Int) 99 80 = p3 at *
              go_wp2_with fail
              go_loopw [20] (fun y W => ∃ (j : Nat), y = .int .i64 (j : Int) ∧ j ≤ m ∧ Shut (Mvp w w1.heap.size W b v7 p3 u12 n zs m)) (fun y _ => m - (intOf y).toNat)
              case atStart => exact ⟨0, rfl, Nat.zero_le _, HM7⟩
              case round =>
                clear hjn3
                obtain ⟨j, rfl, hj, HM⟩ := hrel
                clear HM7
                by_cases hlt : j < m
                · have hlt1 : (j : Int) < m := by omega
                  have hjb : (j : Int) ≤ 60 := by have := HM60.out; omega
                  obtain ⟨xx, hxx, hc, hz0, hz1⟩ := HL.out.on HM.out.run.below j (by have := HM60.out; omega)
                  obtain rfl := Option.some.inj hxx
                  have hP := Po.pick_yes (p := p3) (key := key0) (t := tpN (zs.getD j 0)) (by rw [HA7.out.1]; have := HN.out; omega) (tpN_key _)
                  have hT := Po.again_id (key := key0) (t := tpN (zs.getD j 0)) HA7.out.2.1 HA7.out.2.2.1 HA7.out.2.2.2 HA7.out.1 HN.out.1 (by have := HN.out; omega)
                  obtain ⟨T, hTd⟩ : ∃ T, wasAt n zs j = T := ⟨_, rfl⟩
                  have hTe : bucket (An.start 16 n) (gmix (Sp.hash key0 (keyS (tpN (zs.getD j 0))))) + 1 = T := hTd
                  rw [hTe] at hT
                  rw [hT] at hP
                  generalize (Po.pickM p3 key0 (tpN (zs.getD j 0))).addr = Y at hP
                  generalize (Po.pickM p3 key0 (tpN (zs.getD j 0))).port = Z at hP
                  have HP : Shut _ := ⟨hP⟩
                  have HT : Shut (wasAt n zs j = T) := ⟨hTd⟩
                  have HLt : Shut (j < m) := ⟨hlt⟩
                  have f5 : ((T : Int) != (T : Int)) = false := by simp
                  have f6 : (T != T) = false := by simp
                  clear hP hTd hT hTe hlt
                  have HW : Shut (tpN (zs.getD j 0)).Wf := ⟨tpN_wf hz0 hz1⟩
                  have hTu := hide (fun u => tuple_any (zs.getD j 0) hz0 u)
                  generalize zs.getD j 0 = c at *
                  have HCc : Shut _ := ⟨hc⟩
                  clear hz0 hz1 hxx
                  go_wp2_with fail
                  refine (unhide hTu _).mono ?_
                  rintro e w7 ⟨rfl, hb⟩
                  have HM7 : Shut _ := ⟨HM.out.on hb⟩
                  clear hb HM hc HCc hTu
                  have hk := HM7.out.run.pick (tpN c) HW.out
                  rw [HP.out] at hk
                  have hK := hide hk
                  clear hk
                  go_wp2_with fail
                  refine (unhide hK).mono ?_
                  rintro e w8 ⟨rfl, hb⟩
                  have hM8 := HM7.out.on (Below.then hb (alloc_on w8 (.cells #[.int .i64 (T : Int), .int .u32 (Y : Int), .int .i64 (Z : Int)] 33)))
                  have hX8 : Row (w8.alloc (.cells #[.int .i64 (T : Int), .int .u32 (Y : Int), .int .i64 (Z : Int)] 33)) w8.heap.size [.int .i64 (T : Int), .int .u32 (Y : Int), .int .i64 (Z : Int)] := row_new w8 [.int .i64 (T : Int), .int .u32 (Y : Int), .int .i64 (Z : Int)] 33
                  obtain ⟨W8, hW8⟩ : ∃ W8, w8.alloc (.cells #[.int .i64 (T : Int), .int .u32 (Y : Int), .int .i64 (Z : Int)] 33) = W8 := ⟨_, rfl⟩
                  rw [hW8] at hM8 hX8
                  have x0 := hX8.cell 0 _ rfl
                  have HM8 : Shut _ := ⟨hM8⟩
                  clear hb HM7 hK hM8 hX8
                  obtain ⟨g, gc, rfl, cc⟩ := HM8.out.cell j HLt.out
                  rw [HT.out] at cc
                  go_wp2_with fail
                  go_quiet (fail)
                  have HM9 : Shut _ := ⟨HM8.out.drewN nq⟩
                  clear HM8 x0 cc
                  generalize W8.drewN nq = W9 at *
                  go_wp2_with fail
                  go_roundw
                  case rel => exact ⟨j + 1, by go_num, by have := HLt.out; omega, HM9⟩
                  case measure => have := HLt.out; simp [intOf]; omega
                · have hjn4 : ¬ (j : Int) < m := by omega
                  have hc := HM.out.run.act
                  rw [HA7.out.1] at hc
                  have hC := hide hc
                  have HB : Shut _ := ⟨HM.out.run.below⟩
                  clear hc HM
                  go_wp2_with fail
                  refine (unhide hC).mono ?_
                  rintro e w9 ⟨rfl, hw⟩
                  obtain rfl := hw.symm
                  clear hw
                  go_wp2_with fail
                  go_ret
                  exact ⟨by simp, HB.out⟩
set_option maxRecDepth 100000 in
set_option maxHeartbeats 16000000 in
theorem moves_none (q d : Nat) (hq : q ≤ 255) (hd : d ≤ 255) (zs : List Int) (w : World) (hs : Sl .u32 w none 0 zs 4294967296) :
    Calls Try.prog 4 #[.int .u8 (q : Int), .int .u8 (d : Int), .slice none 0 0] w fun e w' => e = .returned (.bool true) ∧ Below w.heap.size w w' := by
  have hmin : min (0 : Int) 60 = 0 := by decide
  obtain ⟨nm, hnm⟩ : ∃ nm : Nat, q % 10 = nm := ⟨_, rfl⟩
  obtain ⟨n, hn⟩ : ∃ n : Nat, 1 + nm = n := ⟨_, rfl⟩
  have hni : (1 : Int) + (q : Int) % 10 = (n : Int) := by omega
  have hsub : (n : Int) - 1 = (nm : Int) := by omega
  have HN : Shut (1 ≤ n ∧ n ≤ 10 ∧ n - 1 = nm) := ⟨by omega⟩
  have hn0 : ¬ (n : Int) = 0 := by omega
  have hkr : (d : Int).tmod (n : Int) = ((d % n : Nat) : Int) := by rw [← Int.ofNat_tmod]
  have hlt : d % n < n := Nat.mod_lt _ (by omega)
  obtain ⟨κ, hκ⟩ : ∃ κ, d % n = κ := ⟨_, rfl⟩
  rw [hκ] at hkr hlt
  obtain ⟨k, hk⟩ : ∃ k : Nat, 1 + κ = k := ⟨_, rfl⟩
  have hki : (1 : Int) + (κ : Int) = (k : Int) := by omega
  have HK : Shut (1 ≤ k ∧ k ≤ n) := ⟨by omega⟩
  have hk1 : (k : Int) ≤ 10 := by omega
  have hk2 : (κ : Int) ≤ 10 := by omega
  have hE := hide (examples_any w)
  have hNew := hide (fun (W : World) (h : Below w.heap.size w W) => run_new w W h 16 (by decide) (by decide) key0 key0_size)
  have HL : Shut (Sl .u32 w none 0 zs 4294967296) := ⟨hs⟩
  have hd1 : (d : Int) ≤ 255 := by omega
  have hn1 : (n : Int) ≤ 10 := by omega
  clear hs hn hnm hk hκ hlt hq hd
  go_enter Try.func4, Try.ntmps4
  go_wp2_with fail
  refine (unhide hE).mono ?_
  rintro e w1 ⟨rfl, hb1⟩
  have h : Hid (Calls Try.prog 9 #[.int .i64 16, .string key0] w1 fun e w' => ∃ (b : QBk) (v : Value), e = .returned (.tuple #[.pointer (some ⟨b.p, 0, none⟩), .int .i64 0]) ∧ Run w w1.heap.size key0 16 w' b v (pl0 16) ∧ Below w1.heap.size w1 w') := hide (unhide hNew w1 hb1)
  clear hE hNew
  go_wp2_with fail
  refine (unhide h).mono ?_
  rintro e w2 ⟨b, v, rfl, R2, _⟩
  have HR2 : Shut _ := ⟨R2⟩
  clear h hb1 R2
  go_wp2_with fail
  go_loopw [11] (fun t W => ∃ (i : Nat) (u : Value) (p : Pl), t = .int .i64 (i : Int) ∧ 1 ≤ i ∧ i ≤ n + 1 ∧ Shut (Run w w1.heap.size key0 16 W b u p) ∧ Shut (Po.Filled 16 (i - 1) p)) (fun t _ => n + 1 - (intOf t).toNat)
  case atStart => exact ⟨1, v, pl0 16, rfl, Nat.le_refl _, by omega, HR2, ⟨Po.filled_start (by decide)⟩⟩
  case round =>
    obtain ⟨i, u, p, rfl, hi1, hi2, HR, HF⟩ := hrel
    clear HR2
    by_cases hle : i ≤ n
    · have hi3 : (i : Int) ≤ n := by omega
      have hi4 : (i : Int) ≤ 10 := by omega
      have hi5 : 0 ≤ (i : Int) := by omega
      have hwr : IntKind.u32.wrap (i : Int) = (i : Int) := by rw [IntKind.wrap, if_neg (by simp [IntKind.signed])]; simp [IntKind.bits]; omega
      have e1 : (((i - 1 : Nat) : Int) + 1) = (i : Int) := by omega
      have hput := HF.out.put (by have := HN.out; omega) i 80 (by decide) (by decide)
      have hfin := HF.out.fine (by have := HN.out; omega) 80 (by decide) (by decide)
      rw [e1] at hput hfin
      rw [show i - 1 + 1 = i + 1 - 1 by omega] at hput
      have HF2 : Shut _ := ⟨hput⟩
      have hc := HR.out.put i i 80 (by omega)
      rw [hfin] at hc
      have hC := hide hc
      clear hc hput hfin HF e1
      go_wp2_with fail
      refine (unhide hC).mono ?_
      rintro e w5 ⟨rfl, v5, R5, _⟩
      have HR5 : Shut _ := ⟨R5⟩
      clear hC R5 HR
      go_wp2_with fail
      go_roundw
      case rel => exact ⟨i + 1, v5, _, by go_num, by omega, by omega, HR5, HF2⟩
      case measure => simp [intOf]; omega
    · have hi3 : ¬ (i : Int) ≤ n := by omega
      have HF0 : Shut (Po.Filled 16 n p) := ⟨(show i - 1 = n by omega) ▸ HF.out⟩
      have HM0 : Shut (Mvp w w1.heap.size wr b u p (.slice none 0 0) n zs 0) := ⟨⟨HR.out, World.ownsRow_nil _ _ _ _, fun _ _ h => (by cases h)⟩⟩
      clear hle hi1 hi2 HR HF
      go_wp2_with fail
      go_loopw [12, 13] (fun vw y W => vw = .slice none 0 0 ∧ y = .int .i64 0 ∧ Shut (Mvp w w1.heap.size W b u p (.slice none 0 0) n zs 0)) (fun _ _ _ => 0)
      case atStart => exact ⟨rfl, rfl, HM0⟩
      case round =>
        obtain ⟨rfl, rfl, HMm⟩ := hrel
        clear HM0
        have hdr := HF0.out.drain HK.out.1 HK.out.2
        have HDr : Shut _ := ⟨hdr.2⟩
        have hc := HMm.out.run.drain (k : Int) (by have := HK.out; have := HN.out; omega)
        rw [hdr.1] at hc
        have hC := hide hc
        clear hc hdr
        go_wp2_with fail
        refine (unhide hC).mono ?_
        rintro e w3 ⟨rfl, v3, R3, g3⟩
        have HM3 : Shut _ := ⟨HMm.out.went R3 g3⟩
        clear hC R3 g3 HMm
        generalize Po.drainP p (k : Int) = p1 at *
        have hst : Po.stOf p1 (k : Int) = 2 := by rw [HDr.out.st, if_pos rfl]
        have hc := HM3.out.run.drain (k : Int) (by have := HK.out; have := HN.out; omega)
        rw [Po.drainE_eq HDr.out.inv, hst, if_neg (by decide), if_neg (by decide), Po.drainP_no (by rw [hst]; decide)] at hc
        have hC := hide hc
        clear hc hst
        go_wp2_with fail
        refine (unhide hC).mono ?_
        rintro e w4 ⟨rfl, v4, R4, g4⟩
        have HM4 : Shut _ := ⟨HM3.out.went R4 g4⟩
        clear hC R4 g4 HM3
        have hc := HM4.out.run.act
        rw [HDr.out.act, HN.out.2.2] at hc
        have hC := hide hc
        clear hc
        go_wp2_with fail
        refine (unhide hC).mono ?_
        rintro e w5 ⟨rfl, hw⟩
        obtain rfl := hw.symm
        clear hw hC
        go_wp2_with fail
        go_loopw [17] (fun y W => y = .int .i64 0 ∧ Shut (Mvp w w1.heap.size W b v4 p1 (.slice none 0 0) n zs 0)) (fun _ _ => 0)
        case atStart => exact ⟨rfl, HM4⟩
        case round =>
          obtain ⟨rfl, HM⟩ := hrel
          clear HM4
          have hbk := HDr.out.back (by have := HN.out; omega) (by decide) HK.out.1 HK.out.2 99 80 (by decide)
          have HBk : Shut _ := ⟨hbk⟩
          have hc := HM.out.run.gone (k : Int) (by have := HK.out; have := HN.out; omega)
          rw [hbk.1] at hc
          have hC := hide hc
          clear hc hbk
          go_wp2_with fail
          refine (unhide hC).mono ?_
          rintro e w6 ⟨rfl, v6, R6, g6⟩
          have HM6 : Shut _ := ⟨HM.out.went R6 g6⟩
          clear hC R6 g6 HM
          have hc := HM6.out.run.put (k : Int) 99 80 (by decide)
          rw [HBk.out.2.1] at hc
          have hC := hide hc
          clear hc
          go_wp2_with fail
          refine (unhide hC).mono ?_
          rintro e w7 ⟨rfl, v7, R7, g7⟩
          have HM7 : Shut _ := ⟨HM6.out.went R7 g7⟩
          have HA7 : Shut _ := ⟨HBk.out.2.2⟩
          clear hC R7 g7 HM6 HBk
          generalize Po.putP 16 (Po.goneP p1 (k : Int)) (k : Int) 99 80 = p3 at *
          go_wp2_with fail
          go_loopw [20] (fun y W => y = .int .i64 0 ∧ Shut (Mvp w w1.heap.size W b v7 p3 (.slice none 0 0) n zs 0)) (fun _ _ => 0)
          case atStart => exact ⟨rfl, HM7⟩
          case round =>
            obtain ⟨rfl, HM⟩ := hrel
            clear HM7
            have hc := HM.out.run.act
            rw [HA7.out.1] at hc
            have hC := hide hc
            have HB : Shut _ := ⟨HM.out.run.below⟩
            clear hc HM
            go_wp2_with fail
            refine (unhide hC).mono ?_
            rintro e w9 ⟨rfl, hw⟩
            obtain rfl := hw.symm
            clear hw
            go_wp2_with fail
            go_ret
            exact ⟨by simp, HB.out⟩
set_option maxHeartbeats 8000000 in
set_option maxRecDepth 100000 in
theorem walk (w : World) (a0 : Int) (a1 : Int) (a2 : Option Addr) (len2 cap2 : Nat) (z2 : List Int) (w0 : (Lit.int .u8 a0).wf = true) (w1 : (Lit.int .u8 a1).wf = true) (w2 : IsRow .u32 w a2 len2 cap2 z2) :
    Calls Try.prog 4 #[.int .u8 a0, .int .u8 a1, .slice a2 len2 cap2] w fun e w' => e = .returned (.bool true) ∧ Below w.heap.size w w' := by
  obtain ⟨x0, x1⟩ := u8_bounds w0
  obtain ⟨y0, y1⟩ := u8_bounds w1
  obtain ⟨q, rfl⟩ := Int.eq_ofNat_of_zero_le x0
  obtain ⟨d, rfl⟩ := Int.eq_ofNat_of_zero_le y0
  have h2 := sl_of w2 (hi := 4294967296) fun n hn => by have := u32_bounds hn; omega
  rcases w2 with ⟨rfl, rfl, rfl, _⟩ | ⟨x, rfl, hlc, _, _, _, _⟩
  · exact moves_none q d (by omega) (by omega) z2 w h2
  · exact moves_some q d (by omega) (by omega) x len2 cap2 hlc z2 w h2

theorem own : ownKnob Try.prog.godebug = none := by kernel_rfl
theorem laidOut : laidOutB Try.prog = true := by kernel_rfl
set_option maxRecDepth 100000 in
theorem lifted (os : Os) (started : os.Started) (H : Type) (enc : TypeId × Value → H) :
    ReturnsInHanded {} Try.checked os 4 .any (Rows.poolMovesSpec.pre6 enc Try.prog Try.f4 Rows.poolMovesRow.domain false) (Rows.poolMovesSpec.post enc Try.prog Try.f4 false true false false) := by
  refine returnsInHanded_of_change_sized (C := Try.checked) own started (by kernel_rfl) Try.func4
    (ChangeSpec.witness6 (enc := enc) (C := Try.checked) false ⟨#[], #[.int .u8 0, .int .u8 0, .slice none 0 0], []⟩ 8 (by kernel_rfl) (by kernel_rfl) (by kernel_rfl) (by kernel_rfl)) ?_
  intro W base args ds gs before hval0 hW hcnd hsz _
  have hval : ∀ (j : Nat) t v, Try.f4.params[j]? = some t → args[j]? = some v → Value.okWide Try.prog W .any base t v := hval0
  have hW' := hW
  obtain ⟨p, q, hA0, hV, rfl, hfz, hnd⟩ := hW
  have hA : DataW.TrodAll enc Try.prog W 0 (fun _ => true) true Try.f4.params.toList args.toList ds p := hA0
  rw [Try.params4] at hA hval
  obtain ⟨v0, vs0, d0, ds0, p0, q0, hargs, rfl, rfl, h0, r0⟩ := trodAll_cons hA
  obtain ⟨v1, vs1, d1, ds1, p1, q1, rfl, rfl, rfl, h1, r1⟩ := trodAll_cons r0
  obtain ⟨v2, vs2, d2, ds2, p2, q2, rfl, rfl, rfl, h2, r2⟩ := trodAll_cons r1
  obtain ⟨rfl, rfl, rfl⟩ := trodAll_nil r2
  obtain rfl : args = #[v0, v1, v2] := by cases args; simp_all
  obtain ⟨rfl, rfl⟩ := trodVars_none hV
  obtain ⟨a0, rfl, rfl, rfl, w0⟩ := open_int Try.underlying5 (hval 0 5 v0 rfl rfl) h0
  obtain ⟨a1, rfl, rfl, rfl, w1⟩ := open_int Try.underlying5 (hval 1 5 v1 rfl rfl) h1
  obtain ⟨a2, len2, cap2, rfl⟩ := okWide_slice Try.underlying50 (hval 2 50 v2 rfl rfl)
  have k2 := h2
  have lt2 : ∀ x ∈ p2, x.block < W.heap.size := by obtain ⟨m, hm⟩ := k2; exact DataW.trod_lt m _ _ _ hm
  obtain ⟨z2, w2⟩ : ∃ zs, IsRow .u32 W a2 len2 cap2 zs := by
    obtain ⟨fuel, hf⟩ := h2
    rcases open_ints Try.underlying50 Try.underlying31 (by kernel_rfl) hf with ⟨hcs, _⟩ | ⟨x, l, c, zs, hcs, _, hl, hm, hz, _, hcell, hwz⟩
    · simp [Value.cells] at hcs
      obtain ⟨rfl, rfl, rfl⟩ := hcs
      exact ⟨[], .inl ⟨rfl, rfl, rfl, rfl⟩⟩
    · simp [Value.cells] at hcs
      obtain ⟨rfl, rfl, rfl⟩ := hcs
      exact ⟨zs, .inr ⟨_, rfl, hl, hm, by simpa using hz, hcell, hwz⟩⟩
  clear hA0 hval0
  refine (walk W a0 a1 a2 len2 cap2 z2 w0 w1 w2).mono fun e W' ⟨he, bel⟩ => ?_
  subst he
  exact ⟨_, rfl, _, _, _, [], _, [], hW', trodAll_mk1 (shut_bool Try.underlying4 _), (trodAll_cons_mk (shut_int Try.underlying5 w0) (trodAll_cons_mk (shut_int Try.underlying5 w1) (trodAll_cons_mk (Below.trod laidOut (by kernel_rfl) (of_decide_eq_true (by kernel_rfl)) k2 bel lt2) trodAll_mk0))), rfl, bel.frame _, fun h => by cases h⟩

theorem over : Rows.poolMovesRow.holds Try.pinned (OpenSpec.ofChange Rows.poolMovesSpec) :=
  OpenClaim.holds_of_wide 4 Try.f4 rfl rfl rfl rfl rfl rfl rfl ⟨rfl, rfl, rfl, rfl, rfl⟩ rfl rfl rfl rfl rfl (by kernel_rfl) Try.func4 (by kernel_rfl)
    (of_decide_eq_true (by kernel_rfl)) (by unfold Func.isWrapper; first | (rw [if_pos (by decide +kernel)]; kernel_rfl) | (rw [if_neg (by decide +kernel)]; exact ⟨rfl, rfl⟩))
    (fun os started H enc _ => lifted os started H enc)

theorem proved : Rows.PoolMovesSaid := over
#print axioms proved
end Go.Proofs.Ytckkdgifjgkoaaa.poolMoves
