/- The law PoolSame returns true for every number of backends, whoever drains, all clients and whatever key, and changes nothing that was there before; no condition but the form's own. -/
import Derived.Test.YtckkdgifjgkoaaaRows
import Derived.OpenShut
import Derived.ShutString
import Derived.ChangeOld
import Derived.Below
import Derived.SizedLaws
import Derived.Test.YtckkdgifjgkoaaaGPr
namespace Go.Proofs.Ytckkdgifjgkoaaa.poolSame
open Go.ChangeShapes Go.WideShapes Go.ChangeAt Go.RowKit
open Go.ChangeMaps (open_string shut_string)
set_option linter.unusedVariables false
/-- A slice of integers that came in: nil, or a row of cells. -/
def IsRow (k : IntKind) (w : World) (a : Option Addr) (len cap : Nat) (zs : List Int) : Prop :=
  (a = none ∧ len = 0 ∧ cap = 0 ∧ zs = []) ∨
  ∃ x, a = some x ∧ len ≤ cap ∧ cap ≤ maxLen ∧ zs.length = cap ∧ (∀ i, i < zs.length → w.cell? (x.add i) = some (.int k (zs.getD i 0))) ∧ ∀ n ∈ zs, (Lit.int k n).wf = true
open An Sp Go.Shelf
attribute [local go_sem] Oper.semAt_some
theorem sl_of {k : IntKind} {w : World} {a : Option Addr} {len cap : Nat} {zs : List Int} {hi : Int} (h : IsRow k w a len cap zs) (hb : ∀ n, (Lit.int k n).wf = true → 0 ≤ n ∧ n < hi) : Sl k w a len zs hi := by
  rcases h with ⟨_, h2, _, _⟩ | ⟨x, h1, h2, h3, h4, h5, h6⟩
  · intro i hi; omega
  · intro i hi
    refine ⟨x, h1, h5 i (by omega), ?_⟩
    rw [List.getD_eq_getElem?_getD, List.getElem?_eq_getElem (by omega)]
    exact hb _ (h6 _ (List.getElem_mem (by omega)))
set_option maxRecDepth 100000 in
set_option maxHeartbeats 16000000 in
theorem same_any (q d : Nat) (hq : q ≤ 255) (hd : d ≤ 255) (a : Option Addr) (len cap : Nat) (zs : List Int) (s : ByteArray) (w : World) (hs : Sl .u32 w a len zs 4294967296) :
    Calls Try.prog 7 #[.int .u8 (q : Int), .int .u8 (d : Int), .slice a len cap, .string s] w fun e w' => e = .returned (.bool true) ∧ Below w.heap.size w w' := by
  obtain ⟨n, hn⟩ : ∃ n : Nat, 1 + q % 10 = n := ⟨_, rfl⟩
  have hni : (1 : Int) + (q : Int) % 10 = (n : Int) := by omega
  have HN : Shut (1 ≤ n ∧ n ≤ 10) := ⟨by omega⟩
  obtain ⟨k, hk⟩ : ∃ k : Nat, d % 11 = k := ⟨_, rfl⟩
  have hki : (d : Int) % 11 = (k : Int) := by omega
  have HK : Shut (k ≤ 10) := ⟨by omega⟩
  have hE := hide (examples_any w)
  have hNew := hide (fun (W : World) (h : Below w.heap.size w W) => run_new w W h 12 (by decide) (by decide) key0 key0_size)
  have hW := hide (fun W => qmake_word W s)
  have HL : Shut (Sl .u32 w a len zs 4294967296) := ⟨hs⟩
  obtain ⟨z, hz⟩ : ∃ z : Nat, s.size = z := ⟨_, rfl⟩
  rw [hz] at hW
  obtain ⟨g, hg⟩ : ∃ g : Int, (if z = 16 then (0 : Int) else 1) = g := ⟨_, rfl⟩
  rw [hg] at hW
  have HZs : Shut (s.size = z) := ⟨hz⟩
  have HZ : Shut ((if z = 16 then (0 : Int) else 1) = g) := ⟨hg⟩
  clear hg
  clear hs hn hk hz
  go_enter Try.func7, Try.ntmps7
  go_wp2_with fail
  refine (unhide hE).mono ?_
  rintro e w1 ⟨rfl, hb1⟩
  have h := hide (unhide hNew w1 hb1)
  clear hE
  have h : Hid (Calls Try.prog 9 #[.int .i64 12, .string key0] w1 fun e w' => ∃ (b : QBk) (v : Value), e = .returned (.tuple #[.pointer (some ⟨b.p, 0, none⟩), .int .i64 0]) ∧ Run w w1.heap.size key0 12 w' b v (pl0 12) ∧ Below w1.heap.size w1 w') := h
  go_wp2_with fail
  refine (unhide h).mono ?_
  rintro e w2 ⟨b, v, rfl, R2, _⟩
  have HR2 : Shut _ := ⟨R2⟩
  clear h hb1 R2
  have h : Hid (Calls Try.prog 9 #[.int .i64 12, .string key0] w2 fun e w' => ∃ (b : QBk) (v : Value), e = .returned (.tuple #[.pointer (some ⟨b.p, 0, none⟩), .int .i64 0]) ∧ Run w w2.heap.size key0 12 w' b v (pl0 12) ∧ Below w2.heap.size w2 w') := hide (unhide hNew w2 HR2.out.below)
  clear hNew
  go_wp2_with fail
  refine (unhide h).mono ?_
  rintro e w3 ⟨b', v', rfl, R3, hb3⟩
  have HD3 : Shut (Duo w w1.heap.size w2.heap.size 12 w3 b v b' v' (pl0 12) (pl0 12)) := ⟨⟨HR2.out.on hb3, R3, fun x hx hx' => by
    have := (HR2.out.lt x hx).2
    have := (R3.lt x hx').1
    omega⟩⟩
  clear h R3 hb3 HR2
  go_wp2_with fail
  refine (unhide hW _).mono ?_
  rintro e w4 ⟨aw, rfl, hb4⟩
  have HD4 : Shut _ := ⟨HD3.out.on hb4⟩
  clear HD3 hb4 hW
  go_wp2_with fail
  go_loopw [17] (fun t W => ∃ (i : Nat) (u u' : Value) (p : Pl), t = .int .i64 (i : Int) ∧ 1 ≤ i ∧ i ≤ n + 1 ∧ Shut (Duo w w1.heap.size w2.heap.size 12 W b u b' u' p p)) (fun t _ => n + 1 - (intOf t).toNat)
  case atStart => exact ⟨1, v, v', pl0 12, rfl, Nat.le_refl _, by omega, HD4⟩
  case round =>
    obtain ⟨i, u, u', p, rfl, hi1, hi2, HD⟩ := hrel
    clear HD4
    by_cases hle : i ≤ n
    · have hi3 : (i : Int) ≤ n := by omega
      have hi4 : (i : Int) ≤ 11 := by have := HN.out; omega
      have hc := hide (HD.out.one.put i 0 0 (by decide))
      go_wp2_with fail
      refine (unhide hc).mono ?_
      rintro e w5 ⟨rfl, v5, R5, g5⟩
      have HD5 : Shut _ := ⟨HD.out.left R5 g5⟩
      clear hc R5 g5 HD
      have hc := hide (HD5.out.two.put i 0 0 (by decide))
      go_wp2_with fail
      refine (unhide hc).mono ?_
      rintro e w6 ⟨rfl, v6, R6, g6⟩
      have HD6 : Shut _ := ⟨HD5.out.right R6 g6⟩
      clear hc R6 g6 HD5
      go_wp2_with fail
      go_roundw
      case rel => exact ⟨i + 1, v5, v6, _, by go_num, by omega, by omega, HD6⟩
      case measure => simp [intOf]; omega
    · have hi3 : ¬ (i : Int) ≤ n := by omega
      clear hle hi1 hi2
      have hc := hide (HD.out.one.drain k (by have := HK.out; omega))
      go_wp2_with fail
      refine (unhide hc).mono ?_
      rintro e w5 ⟨rfl, v5, R5, g5⟩
      have HD5 : Shut _ := ⟨HD.out.left R5 g5⟩
      clear hc R5 g5 HD
      have hc := hide (HD5.out.two.drain k (by have := HK.out; omega))
      go_wp2_with fail
      refine (unhide hc).mono ?_
      rintro e w6 ⟨rfl, v6, R6, g6⟩
      have HD6 : Shut _ := ⟨HD5.out.right R6 g6⟩
      clear hc R6 g6 HD5
      generalize Po.drainP p (k : Int) = p6 at *
      have hA : ∃ A : Nat, Shut (Po.active p6.L = A) := ⟨_, ⟨rfl⟩⟩
      obtain ⟨A, HA⟩ := hA
      clear hi3
      go_wp2_with fail
      go_loopw [18] (fun t W => ∃ j : Nat, t = .int .i64 (j : Int) ∧ j ≤ 40 ∧ Shut (Duo w w1.heap.size w2.heap.size 12 W b v5 b' v6 p6 p6)) (fun t _ => 41 - (intOf t).toNat)
      case atStart => exact ⟨0, rfl, by omega, HD6⟩
      case round =>
        obtain ⟨j, rfl, hj, HD⟩ := hrel
        clear HD6
        by_cases hlt : j < len ∧ j < 40
        · obtain ⟨hj1, hj2⟩ := hlt
          have hj3 : (j : Int) < len := by omega
          have hj4 : (j : Int) < 40 := by omega
          obtain ⟨x, rfl, hc, hz0, hz1⟩ := HL.out.on HD.out.one.below j hj1
          generalize zs.getD j 0 = c at *
          have hT := hide (fun u => tuple_any c hz0 u)
          have HW : Shut (tpN c).Wf := ⟨tpN_wf hz0 hz1⟩
          obtain ⟨X, Y, Z, hP⟩ := Po.pick_cases p6 key0 (tpN c) (tpN_key c)
          rw [HA.out] at hP
          have HP : Shut _ := ⟨hP⟩
          have HCc : Shut _ := ⟨hc⟩
          clear hz0 hz1 hP
          go_wp2_with fail
          refine (unhide hT _).mono ?_
          rintro e w7 ⟨rfl, hb⟩
          have hc7 := (hb.cell (block_lt_of_cell HCc.out)).trans HCc.out
          have HC7 : Shut _ := ⟨hc7⟩
          have HD7 : Shut _ := ⟨HD.out.on hb⟩
          clear hb HD hc hc7 HCc
          have hk := HD7.out.one.pick (tpN c) HW.out
          rw [HP.out] at hk
          have hK := hide hk
          clear hk
          go_wp2_with fail
          refine (unhide hK).mono ?_
          rintro e w8 ⟨rfl, hb⟩
          have hb' := Below.then hb (alloc_on w8 (.cells #[.int .i64 (X : Int), .int .u32 (Y : Int), .int .i64 (Z : Int)] 33))
          have hc8 := (hb'.cell (block_lt_of_cell HC7.out)).trans HC7.out
          have HD8 : Shut _ := ⟨HD7.out.on hb'⟩
          have HX8 : Shut _ := ⟨row_new w8 [.int .i64 (X : Int), .int .u32 (Y : Int), .int .i64 (Z : Int)] 33⟩
          clear hb hb' HD7 HC7 hK
          go_wp2_with fail
          refine (unhide hT _).mono ?_
          rintro e w9 ⟨rfl, hb⟩
          have HX9 : Shut _ := ⟨HX8.out.on' hb⟩
          have HD9 : Shut _ := ⟨HD8.out.on hb⟩
          clear hb hc8 HD8 HX8 hT
          have hk := HD9.out.two.pick (tpN c) HW.out
          rw [HP.out] at hk
          have hK := hide hk
          clear hk
          go_wp2_with fail
          refine (unhide hK).mono ?_
          rintro e w10 ⟨rfl, hb⟩
          have hb' := Below.then hb (alloc_on w10 (.cells #[.int .i64 (X : Int), .int .u32 (Y : Int), .int .i64 (Z : Int)] 33))
          have hX := HX9.out.on' hb'
          have x0 := hX.cell 0 _ rfl
          have x1 := hX.cell 1 _ rfl
          have x2 := hX.cell 2 _ rfl
          have hD := HD9.out.on hb'
          have hAc := hide hD.one.act
          have HD10 : Shut _ := ⟨hD⟩
          rw [HA.out] at hAc
          clear hb hb' HD9 HX9 hK hX hD
          by_cases hpos : 0 < A
          · have e1 : decide ((0 : Int) < (A : Int)) = true := by simpa using hpos
            have e2 : decide (0 < A) = true := by simpa using hpos
            clear hpos
            go_wp2_with fail
            refine (unhide hAc).mono ?_
            rintro e w11 ⟨rfl, hw⟩
            obtain rfl := hw.symm
            clear hw
            go_wp2_with fail
            go_roundw
            case rel => exact ⟨j + 1, by go_num, by omega, HD10⟩
            case measure => simp [intOf]; omega
          · have e1 : decide ((0 : Int) < (A : Int)) = false := by simp; omega
            have e2 : decide (0 < A) = false := by simp; omega
            clear hpos
            go_wp2_with fail
            refine (unhide hAc).mono ?_
            rintro e w11 ⟨rfl, hw⟩
            obtain rfl := hw.symm
            clear hw
            go_wp2_with fail
            go_roundw
            case rel => exact ⟨j + 1, by go_num, by omega, HD10⟩
            case measure => simp [intOf]; omega
        · have hAc := hide HD.out.one.act
          have hAd := hide HD.out.two.act
          rw [HA.out] at hAc hAd
          have HB : Shut _ := ⟨HD.out.one.below⟩
          have hfin : ∃ G : Bool, Shut ((g == 0) = G ∧ ((s.size : Int) == 16) = G ∧ (s.size == 16) = G) := by
            rw [← HZ.out, HZs.out]
            by_cases h16 : z = 16
            · exact ⟨true, ⟨by rw [if_pos h16]; rfl, by rw [h16]; rfl, by rw [h16]; rfl⟩⟩
            · exact ⟨false, ⟨by rw [if_neg h16]; rfl, by rw [beq_eq_false_iff_ne]; omega, by rw [beq_eq_false_iff_ne]; exact h16⟩⟩
          obtain ⟨G, HG⟩ := hfin
          clear HD HZ HZs
          by_cases hj1 : j < len
          · have hj2 : ¬ (j : Int) < 40 := by omega
            have hj3 : (j : Int) < len := by omega
            clear hj1 hlt
            go_wp2_with fail
            refine (unhide hAc).mono ?_
            rintro e w11 ⟨rfl, hw⟩
            obtain rfl := hw.symm
            clear hw
            go_wp2_with fail
            refine (unhide hAd).mono ?_
            rintro e w11 ⟨rfl, hw⟩
            obtain rfl := hw.symm
            clear hw
            obtain ⟨g1, g2, g3⟩ := HG.out
            go_wp2_with fail
            go_ret
            refine ⟨?_, HB.out⟩
            cases G <;> first | rfl | simp
          · have hj3 : ¬ (j : Int) < len := by omega
            clear hj1 hlt
            go_wp2_with fail
            refine (unhide hAc).mono ?_
            rintro e w11 ⟨rfl, hw⟩
            obtain rfl := hw.symm
            clear hw
            go_wp2_with fail
            refine (unhide hAd).mono ?_
            rintro e w11 ⟨rfl, hw⟩
            obtain rfl := hw.symm
            clear hw
            obtain ⟨g1, g2, g3⟩ := HG.out
            go_wp2_with fail
            go_ret
            refine ⟨?_, HB.out⟩
            cases G <;> first | rfl | simp
set_option maxHeartbeats 8000000 in
set_option maxRecDepth 100000 in
theorem walk (w : World) (a0 : Int) (a1 : Int) (a2 : Option Addr) (len2 cap2 : Nat) (z2 : List Int) (a3 : ByteArray) (w0 : (Lit.int .u8 a0).wf = true) (w1 : (Lit.int .u8 a1).wf = true) (w2 : IsRow .u32 w a2 len2 cap2 z2) (z3 : a3.size ≤ 140737488355328) :
    Calls Try.prog 7 #[.int .u8 a0, .int .u8 a1, .slice a2 len2 cap2, .string a3] w fun e w' => e = .returned (.bool true) ∧ Below w.heap.size w w' := by
  obtain ⟨x0, x1⟩ := u8_bounds w0
  obtain ⟨y0, y1⟩ := u8_bounds w1
  obtain ⟨q, rfl⟩ := Int.eq_ofNat_of_zero_le x0
  obtain ⟨d, rfl⟩ := Int.eq_ofNat_of_zero_le y0
  have h2 := sl_of w2 (hi := 4294967296) fun n hn => by have := u32_bounds hn; omega
  exact same_any q d (by omega) (by omega) a2 len2 cap2 z2 a3 w h2

theorem own : ownKnob Try.prog.godebug = none := by kernel_rfl
theorem laidOut : laidOutB Try.prog = true := by kernel_rfl
set_option maxRecDepth 100000 in
theorem lifted (os : Os) (started : os.Started) (H : Type) (enc : TypeId × Value → H) :
    ReturnsInHanded {} Try.checked os 7 .any (Rows.poolSameSpec.pre6 enc Try.prog Try.f7 Rows.poolSameRow.domain false) (Rows.poolSameSpec.post enc Try.prog Try.f7 false true false false) := by
  refine returnsInHanded_of_change_sized (C := Try.checked) own started (by kernel_rfl) Try.func7
    (ChangeSpec.witness6 (enc := enc) (C := Try.checked) false ⟨#[], #[.int .u8 0, .int .u8 0, .slice none 0 0, .string ByteArray.empty], []⟩ 8 (by kernel_rfl) (by kernel_rfl) (by kernel_rfl) (by kernel_rfl)) ?_
  intro W base args ds gs before hval0 hW hcnd hsz _
  have hval : ∀ (j : Nat) t v, Try.f7.params[j]? = some t → args[j]? = some v → Value.okWide Try.prog W .any base t v := hval0
  have hW' := hW
  obtain ⟨p, q, hA0, hV, rfl, hfz, hnd⟩ := hW
  have hA : DataW.TrodAll enc Try.prog W 0 (fun _ => true) true Try.f7.params.toList args.toList ds p := hA0
  rw [Try.params7] at hA hval
  obtain ⟨v0, vs0, d0, ds0, p0, q0, hargs, rfl, rfl, h0, r0⟩ := trodAll_cons hA
  obtain ⟨v1, vs1, d1, ds1, p1, q1, rfl, rfl, rfl, h1, r1⟩ := trodAll_cons r0
  obtain ⟨v2, vs2, d2, ds2, p2, q2, rfl, rfl, rfl, h2, r2⟩ := trodAll_cons r1
  obtain ⟨v3, vs3, d3, ds3, p3, q3, rfl, rfl, rfl, h3, r3⟩ := trodAll_cons r2
  obtain ⟨rfl, rfl, rfl⟩ := trodAll_nil r3
  obtain rfl : args = #[v0, v1, v2, v3] := by cases args; simp_all
  obtain ⟨rfl, rfl⟩ := trodVars_none hV
  obtain ⟨a0, rfl, rfl, rfl, w0⟩ := open_int Try.underlying5 (hval 0 5 v0 rfl rfl) h0
  obtain ⟨a1, rfl, rfl, rfl, w1⟩ := open_int Try.underlying5 (hval 1 5 v1 rfl rfl) h1
  obtain ⟨a2, len2, cap2, rfl⟩ := okWide_slice Try.underlying50 (hval 2 50 v2 rfl rfl)
  have k2 := h2
  have lt2 : ∀ x ∈ p2, x.block < W.heap.size := by obtain ⟨m, hm⟩ := k2; exact DataW.trod_lt m _ _ _ hm
  obtain ⟨z2, w2⟩ : ∃ zs, IsRow .u32 W a2 len2 cap2 zs := by
    obtain ⟨fuel, hf⟩ := h2
    rcases open_ints Try.underlying50 Try.underlying31 (by kernel_rfl) hf with ⟨hcs, _⟩ | ⟨x, l, c, zs, hcs, _, hl, hm, hz, _, hcell, hwz⟩
    · simp [Value.cells] at hcs
      obtain ⟨rfl, rfl, rfl⟩ := hcs
      exact ⟨[], .inl ⟨rfl, rfl, rfl, rfl⟩⟩
    · simp [Value.cells] at hcs
      obtain ⟨rfl, rfl, rfl⟩ := hcs
      exact ⟨zs, .inr ⟨_, rfl, hl, hm, by simpa using hz, hcell, hwz⟩⟩
  obtain ⟨a3, rfl, rfl, rfl, w3⟩ := open_string Try.underlying9 (hval 3 9 v3 rfl rfl) h3
  clear hA0 hval0
  have z3 : a3.size ≤ 140737488355328 := by
    have hq : a3.data.toList.length ≤ reachBytes := sized_string hsz (j := 3) (t := 9) rfl rfl
    have e : a3.data.toList.length = a3.size := by rw [Array.length_toList]; rfl
    rw [e] at hq
    exact Nat.le_trans hq (Nat.le_of_lt reachBytes_lt)
  refine (walk W a0 a1 a2 len2 cap2 z2 a3 w0 w1 w2 z3).mono fun e W' ⟨he, bel⟩ => ?_
  subst he
  exact ⟨_, rfl, _, _, _, [], _, [], hW', trodAll_mk1 (shut_bool Try.underlying4 _), (trodAll_cons_mk (shut_int Try.underlying5 w0) (trodAll_cons_mk (shut_int Try.underlying5 w1) (trodAll_cons_mk (Below.trod laidOut (by kernel_rfl) (of_decide_eq_true (by kernel_rfl)) k2 bel lt2) (trodAll_cons_mk (shut_string Try.underlying9 w3) trodAll_mk0)))), rfl, bel.frame _, fun h => by cases h⟩

theorem over : Rows.poolSameRow.holds Try.pinned (OpenSpec.ofChange Rows.poolSameSpec) :=
  OpenClaim.holds_of_wide 7 Try.f7 rfl rfl rfl rfl rfl rfl rfl ⟨rfl, rfl, rfl, rfl, rfl⟩ rfl rfl rfl rfl rfl (by kernel_rfl) Try.func7 (by kernel_rfl)
    (of_decide_eq_true (by kernel_rfl)) (by unfold Func.isWrapper; first | (rw [if_pos (by decide +kernel)]; kernel_rfl) | (rw [if_neg (by decide +kernel)]; exact ⟨rfl, rfl⟩))
    (fun os started H enc _ => lifted os started H enc)

theorem proved : Rows.PoolSameSaid := over
#print axioms proved
end Go.Proofs.Ytckkdgifjgkoaaa.poolSame
