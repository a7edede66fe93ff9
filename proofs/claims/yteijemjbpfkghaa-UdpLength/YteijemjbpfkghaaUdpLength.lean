/- The law UdpLength returns true for every body and every length of 8 bits, and changes nothing that was there before; no condition but the form's own. -/
import Derived.Test.YteijemjbpfkghaaRows
import Derived.OpenShut
import Derived.ShutString
import Derived.ChangeOld
import Derived.Below
import Derived.SizedLaws
import Derived.Test.YteijemjbpfkghaaUdEx
import Derived.Test.YteijemjbpfkghaaUdMake
import Derived.Test.YteijemjbpfkghaaTcGrow
namespace Go.Proofs.Yteijemjbpfkghaa.udpLength
open Go.ChangeShapes Go.WideShapes Go.ChangeAt Go.RowKit
open Go.ChangeMaps (open_string shut_string)
set_option linter.unusedVariables false
theorem be_small (k : Int) (h0 : 0 ≤ k) (h1 : k ≤ 255) : (strOfNums [0, k]).data.toList = Oct.be 2 k.toNat := by
  have e : (0 : UInt8) = UInt8.ofNat (k.toNat / 256) := by
    have : k.toNat / 256 = 0 := by omega
    rw [this]; rfl
  simp [strOfNums, Oct.be]
  exact e
/-- A datagram that says another length. -/
theorem other_list {body : ByteArray} (hs : body.size ≤ 1492) (k : Int) (h0 : 0 ≤ k) (h1 : k ≤ 255) : ((built 1 2 body).extract 0 4 ++ strOfNums [0, k] ++ (built 1 2 body).extract 6 (built 1 2 body).size).data.toList = hdL 1 2 k ++ body.data.toList := by
  have hl := built_list (a := 1) (b := 2) (by decide) (by decide) hs
  rw [app_list, app_list, Oct.ext_list, Oct.ext_list, be_small k h0 h1, ← Oct.len_eq, List.take_length, hl]
  unfold hdL
  simp [Oct.be]
theorem row_cells (u : World) (t : TypeId) (vs : List Value) (j : Nat) (x : Value) (hj : vs[j]? = some x) : (u.alloc (.cells vs.toArray t)).cell? ⟨u.heap.size, j, none⟩ = some x := by
  have e : vs.toArray[j]? = some x := by simpa using hj
  simp [go_sem, hj]
theorem list11 {α : Type} {l : List α} (h : l.length = 11) : ∃ c0 c1 c2 c3 c4 c5 c6 c7 c8 c9 c10, l = [c0, c1, c2, c3, c4, c5, c6, c7, c8, c9, c10] := by
  match l, h with
  | [c0, c1, c2, c3, c4, c5, c6, c7, c8, c9, c10], _ => exact ⟨c0, c1, c2, c3, c4, c5, c6, c7, c8, c9, c10, rfl⟩
set_option maxHeartbeats 1000000 in
set_option maxRecDepth 100000 in
theorem walk (w : World) (a0 : ByteArray) (a1 : Int) (z0 : a0.size ≤ 140737488355328) (w1 : (Lit.int .u8 a1).wf = true) :
    Calls Try.prog 7 #[.string a0, .int .u8 a1] w fun e w' => e = .returned (.bool true) ∧ Below w.heap.size w w' := by
  obtain ⟨x0, x1⟩ := bounds_u8 w1
  obtain ⟨m, hmin⟩ : ∃ m : Nat, min (a0.size : Int) 100 = m := ⟨min a0.size 100, by omega⟩
  have hm1 : m ≤ 100 := by omega
  have hm2 : m ≤ a0.size := by omega
  have hm3 : (m : Int) ≤ a0.size := by omega
  have hBs : (a0.extract 0 m).size = m := by rw [Oct.ext_size _ _ _ hm2]; rfl
  have hB : (a0.extract 0 m).size ≤ 1492 := by rw [hBs]; omega
  have hbe := buildE_of exP1 exP2 hB
  have HBC : Hid (∀ u, Calls Try.prog 10 #[.int .i64 1, .int .i64 2, .string (a0.extract 0 m)] u fun e u' => e = .returned (.tuple #[.string (built 1 2 (a0.extract 0 m)), .int .i64 0]) ∧ Below u.heap.size u u') := fun u => by
    have := build_any 1 2 (a0.extract 0 m) u (by omega)
    rw [hbe, buildS_of hbe] at this
    exact this
  have hz := built_size exP1 exP2 hB
  have hol := other_list hB a1 x0 x1
  rw [hBs] at hz
  generalize hBB : a0.extract 0 m = B at *
  generalize built 1 2 B = S at *
  have hku : IntKind.u8.wrap a1 = a1 := by simp [IntKind.wrap, IntKind.bits, IntKind.signed]; omega
  have z1 : (S.extract 0 4).size = 4 := by rw [Oct.ext_size _ _ _ (by omega)]
  have z2 : (S.extract 6 S.size).size ≤ 1000 := by rw [Oct.ext_size _ _ _ (Nat.le_refl _)]; omega
  have s1 := add_run (S.extract 0 4) (strOfNums [0, a1]) (by omega) (by rw [two_size]; decide)
  have s2 := add_run (S.extract 0 4 ++ strOfNums [0, a1]) (S.extract 6 S.size) (by rw [ByteArray.size_append, two_size]; omega) (by omega)
  have HT := hide (head_size hol)
  have hS4 : (4 : Int) ≤ S.size := by omega
  have hS6 : (6 : Int) ≤ S.size := by omega
  have hSm : (S.size : Int) = 8 + (m : Int) := by omega
  have hd1 : ((S.size : Int) != 8 + (m : Int)) = false := by simp; omega
  have hBm : (B.size : Int) = m := by omega
  have HP : Hid (a1 < 8 ∨ 8 + (m : Int) < a1 → measE (S.extract 0 4 ++ strOfNums [0, a1] ++ S.extract 6 S.size) = 5) := fun hc => by
    obtain ⟨_, _, g2⟩ := got_head exP1 exP2 ((inP_iff a1).2 (by omega)) hol
    have := head_size hol
    rw [Oct.len_eq] at this
    unfold measE
    rw [if_neg (by omega), g2]
    split
    · rfl
    · rw [if_pos (by omega)]
  have HQ : Hid (∀ k : Nat, a1 = 8 + (k : Int) → k ≤ m → measE (S.extract 0 4 ++ strOfNums [0, a1] ++ S.extract 6 S.size) = 0 ∧ measN (S.extract 0 4 ++ strOfNums [0, a1] ++ S.extract 6 S.size) = 8 + (k : Int) ∧ parC (S.extract 0 4 ++ strOfNums [0, a1] ++ S.extract 6 S.size) = B.extract 0 k) := fun k hk hkm => by
    rw [hk] at hol ⊢
    obtain ⟨h1, h2, _, _, h5⟩ := parse_head exP1 exP2 ((inP_iff _).2 (by omega)) hol (by rw [Oct.len_eq]; omega)
    refine ⟨h1, h2, Oct.ba_ext ?_⟩
    rw [h5, Oct.ext_list, List.drop_zero]
  clear hol hbe hB z1 z2
  generalize hE4 : S.extract 0 4 = S4 at *
  generalize hE6 : S.extract 6 S.size = S6 at *
  generalize hTW : strOfNums [0, a1] = TW at *
  generalize hM : S4 ++ TW = M at *
  generalize hX : M ++ S6 = X at *
  have hxs : X.size ≤ 281474976710656 := by have := unhide HT; rw [Oct.len_eq] at this; omega
  have HPX := hide (fun u => parse_any X u hxs)
  have HSX := hide (fun u => size_any X u hxs)
  have HBM := hide hBm
  have HZ := hide hz
  have HSM := hide hSm
  clear hxs HT hM hX hBs hBm hm2 hz
  go_enter Try.func7, Try.ntmps7
  go_wp2_with fail
  refine (examples_ok _).mono ?_
  rintro e w1' ⟨rfl, hb1⟩
  have HB := hide hb1
  clear hb1
  go_wp2_with fail
  refine (HBC.out _).mono ?_
  rintro e w2' ⟨rfl, hb1⟩
  have HB := hide (Below.then (unhide HB) hb1)
  clear hb1 HBC
  have hBm := unhide HBM
  clear hSm
  go_wp2_with fail
  refine wp_region_vals (by kernel_rfl) [.inl (.string S), .inl (.string S4), .inl (.int .i64 a1), .inl (.int .u8 a1), .inr [.int .u8 0, .int .u8 a1], .inl (.string TW), .inl (.string M), .inl (.string S), .inl (.string S6), .inl (.string X), .inl (.string X)] (by kernel_rfl) ?op ?fin
  case op =>
    intro i o bx u ho hbel hold hdeps
    match i, ho with
    | 0, ho =>
      obtain rfl := Option.some.inj ho
      have d6 : bx.tmps.getD 6 undef = .string S := hold 6 (base_of (by kernel_rfl))
      refine .inl ⟨rfl, yields_value (v := .string S) (u' := u) ?_ (Below.refl _ _) (valIs_inl (by kernel_rfl))⟩
      simp [execOp, Act.eval, d6]
    | 1, ho =>
      obtain rfl := Option.some.inj ho
      have d41 : bx.tmps.getD 41 undef = .string S := of_inl (hdeps 0 41 (by kernel_rfl) (by kernel_rfl)) (by kernel_rfl)
      refine .inl ⟨rfl, yields_value (v := .string S4) (u' := u) ?_ (Below.refl _ _) (valIs_inl (by kernel_rfl))⟩
      simp [Act.eval, d41, go_sem, hE4, hS4]
    | 2, ho =>
      obtain rfl := Option.some.inj ho
      have d8 : bx.tmps.getD 8 undef = .int .i64 a1 := hold 8 (base_of (by kernel_rfl))
      refine .inl ⟨rfl, yields_value (v := .int .i64 a1) (u' := u) ?_ (Below.refl _ _) (valIs_inl (by kernel_rfl))⟩
      simp [execOp, Act.eval, d8]
    | 3, ho =>
      obtain rfl := Option.some.inj ho
      have d43 : bx.tmps.getD 43 undef = .int .i64 a1 := of_inl (hdeps 2 43 (by kernel_rfl) (by kernel_rfl)) (by kernel_rfl)
      refine .inl ⟨rfl, yields_value (v := .int .u8 a1) (u' := u) ?_ (Below.refl _ _) (valIs_inl (by kernel_rfl))⟩
      simp [Act.eval, d43, go_sem, hku]
    | 4, ho =>
      obtain rfl := Option.some.inj ho
      have d44 : bx.tmps.getD 44 undef = .int .u8 a1 := of_inl (hdeps 3 44 (by kernel_rfl) (by kernel_rfl)) (by kernel_rfl)
      have q44 : bx.tmps[44]?.getD undef = .int .u8 a1 := by rw [← Array.getD_eq_getD_getElem?]; exact d44
      refine .inl ⟨rfl, yields_value (v := .slice (some ⟨u.heap.size, 0, none⟩) 2 2) (u' := u.alloc (.cells #[.int .u8 0, .int .u8 a1] 5)) ?_ ((Below.refl _ _).alloc (Nat.le_refl _) _) (valIs_inr (cs := [.int .u8 0, .int .u8 a1]) (by kernel_rfl) (fun j x hj => row_cells u _ [.int .u8 0, .int .u8 a1] j x hj))⟩
      simp [Act.eval, q44, go_sem]
    | 5, ho =>
      obtain rfl := Option.some.inj ho
      obtain ⟨g45, d45, dc45⟩ : ∃ g, bx.tmps.getD 45 undef = .slice (some ⟨g, 0, none⟩) 2 2 ∧ ∀ j x, ([.int .u8 0, .int .u8 a1] : List Value)[j]? = some x → u.cell? ⟨g, j, none⟩ = some x := of_inr (cs := [.int .u8 0, .int .u8 a1]) (hdeps 4 45 (by kernel_rfl) (by kernel_rfl)) (by kernel_rfl)
      have hl := (conv_two u g45 0 a1 (dc45 0 _ rfl) (dc45 1 _ rfl)).trans (by rw [hTW])
      refine .inl ⟨rfl, yields_value (v := .string TW) (u' := u) ?_ (Below.refl _ _) (valIs_inl (by kernel_rfl))⟩
      simp [Act.eval, d45, go_sem, hl]
    | 6, ho =>
      obtain rfl := Option.some.inj ho
      have d42 : bx.tmps.getD 42 undef = .string S4 := of_inl (hdeps 1 42 (by kernel_rfl) (by kernel_rfl)) (by kernel_rfl)
      have d46 : bx.tmps.getD 46 undef = .string TW := of_inl (hdeps 5 46 (by kernel_rfl) (by kernel_rfl)) (by kernel_rfl)
      refine .inl ⟨rfl, yields_value (v := .string M) (u' := u) ?_ (Below.refl _ _) (valIs_inl (by kernel_rfl))⟩
      simp [Act.eval, d42, d46, go_sem, s1]
    | 7, ho =>
      obtain rfl := Option.some.inj ho
      have d6 : bx.tmps.getD 6 undef = .string S := hold 6 (base_of (by kernel_rfl))
      refine .inl ⟨rfl, yields_value (v := .string S) (u' := u) ?_ (Below.refl _ _) (valIs_inl (by kernel_rfl))⟩
      simp [execOp, Act.eval, d6]
    | 8, ho =>
      obtain rfl := Option.some.inj ho
      have d48 : bx.tmps.getD 48 undef = .string S := of_inl (hdeps 7 48 (by kernel_rfl) (by kernel_rfl)) (by kernel_rfl)
      refine .inl ⟨rfl, yields_value (v := .string S6) (u' := u) ?_ (Below.refl _ _) (valIs_inl (by kernel_rfl))⟩
      simp [Act.eval, d48, go_sem, hE6, hS6]
    | 9, ho =>
      obtain rfl := Option.some.inj ho
      have d47 : bx.tmps.getD 47 undef = .string M := of_inl (hdeps 6 47 (by kernel_rfl) (by kernel_rfl)) (by kernel_rfl)
      have d49 : bx.tmps.getD 49 undef = .string S6 := of_inl (hdeps 8 49 (by kernel_rfl) (by kernel_rfl)) (by kernel_rfl)
      refine .inl ⟨rfl, yields_value (v := .string X) (u' := u) ?_ (Below.refl _ _) (valIs_inl (by kernel_rfl))⟩
      simp [Act.eval, d47, d49, go_sem, s2]
    | 10, ho =>
      obtain rfl := Option.some.inj ho
      have d50 : bx.tmps.getD 50 undef = .string X := of_inl (hdeps 9 50 (by kernel_rfl) (by kernel_rfl)) (by kernel_rfl)
      refine .inl ⟨rfl, yields_value (v := .string X) (u' := u) ?_ (Below.refl _ _) (valIs_inl (by kernel_rfl))⟩
      simp [execOp, Act.eval, d50]
    | n + 11, ho => exact absurd ho (by simp)
  case fin =>
    intro xs u hlen hbel hF
    obtain ⟨x0, x1, x2, x3, x4, x5, x6, x7, x8, x9, x10, rfl⟩ := list11 (l := xs) hlen
    obtain rfl : x0 = .string S := of_inl (hF 0 41 (by decide) (by kernel_rfl)) (by kernel_rfl)
    obtain rfl : x1 = .string S4 := of_inl (hF 1 42 (by decide) (by kernel_rfl)) (by kernel_rfl)
    obtain rfl : x2 = .int .i64 a1 := of_inl (hF 2 43 (by decide) (by kernel_rfl)) (by kernel_rfl)
    obtain rfl : x3 = .int .u8 a1 := of_inl (hF 3 44 (by decide) (by kernel_rfl)) (by kernel_rfl)
    obtain ⟨g45, rfl, _⟩ : ∃ g, x4 = .slice (some ⟨g, 0, none⟩) 2 2 ∧ ∀ j x, ([.int .u8 0, .int .u8 a1] : List Value)[j]? = some x → u.cell? ⟨g, j, none⟩ = some x := of_inr (cs := [.int .u8 0, .int .u8 a1]) (hF 4 45 (by decide) (by kernel_rfl)) (by kernel_rfl)
    obtain rfl : x5 = .string TW := of_inl (hF 5 46 (by decide) (by kernel_rfl)) (by kernel_rfl)
    obtain rfl : x6 = .string M := of_inl (hF 6 47 (by decide) (by kernel_rfl)) (by kernel_rfl)
    obtain rfl : x7 = .string S := of_inl (hF 7 48 (by decide) (by kernel_rfl)) (by kernel_rfl)
    obtain rfl : x8 = .string S6 := of_inl (hF 8 49 (by decide) (by kernel_rfl)) (by kernel_rfl)
    obtain rfl : x9 = .string X := of_inl (hF 9 50 (by decide) (by kernel_rfl)) (by kernel_rfl)
    obtain rfl : x10 = .string X := of_inl (hF 10 9 (by decide) (by kernel_rfl)) (by kernel_rfl)
    clear hF hlen
    simp [putAll, dstAt, Act.put]
    have HB := hide (Below.then (unhide HB) (Below.mk hbel.os hbel.tape hbel.output hbel.size hbel.block))
    clear hbel
    have hSm := unhide HSM
    by_cases hc : a1 < 8 ∨ 8 + (m : Int) < a1
    · have e5 := unhide HP hc
      obtain ⟨nN, nA, nB, nC⟩ := meas_no (s := X) (by rw [e5]; decide)
      rw [e5, nA, nB, nC] at HPX
      rw [e5, nN] at HSX
      have hs0 : ((5 : Int) == 0) = false := by decide
      rw [hs0] at HSX
      have hcc : decide (a1 < 8) = true ∨ decide (a1 < 8) = false ∧ decide (8 + (m : Int) < a1) = true := by
        rcases hc with h | h
        · exact .inl (by simpa using h)
        · by_cases h' : a1 < 8
          · exact .inl (by simpa using h')
          · exact .inr ⟨by simpa using h', by simpa using h⟩
      clear HP HQ hc e5 nN nA nB nC
      rcases hcc with d1 | ⟨d1, d2⟩
      · go_wp2_with fail
        refine (unhide HPX _).mono ?_
        rintro e w3' ⟨rfl, hb1⟩
        have HB := hide (Below.then (unhide HB) hb1)
        clear hb1
        go_wp2_with fail
        refine (unhide HSX _).mono ?_
        rintro e w4' ⟨rfl, rfl⟩
        go_wp2_with fail
        go_ret
        exact ⟨rfl, unhide HB⟩
      · go_wp2_with fail
        refine (unhide HPX _).mono ?_
        rintro e w3' ⟨rfl, hb1⟩
        have HB := hide (Below.then (unhide HB) hb1)
        clear hb1
        go_wp2_with fail
        refine (unhide HSX _).mono ?_
        rintro e w4' ⟨rfl, rfl⟩
        go_wp2_with fail
        go_ret
        exact ⟨rfl, unhide HB⟩
    · obtain ⟨k, hk⟩ : ∃ k : Nat, a1 = 8 + (k : Int) := ⟨(a1 - 8).toNat, by omega⟩
      have hkm : (k : Int) ≤ m := by omega
      obtain ⟨f0, f1, f2⟩ := unhide HQ k hk (by omega)
      rw [f0, f2] at HPX
      rw [f0, f1] at HSX
      have hs0 : ((0 : Int) == 0) = true := by decide
      rw [hs0] at HSX
      have d1 : decide (a1 < 8) = false := by simp; omega
      have d2 : decide (8 + (m : Int) < a1) = false := by simp; omega
      have hk8 : a1 - 8 = (k : Int) := by omega
      have hkB : (k : Int) ≤ B.size := by omega
      have hke : (8 + (k : Int) == a1) = true := by simp; omega
      generalize parA X = pA at *
      generalize parB X = pB at *
      clear HP HQ hc f0 f1 f2 hk hkm
      go_wp2_with fail
      refine (unhide HPX _).mono ?_
      rintro e w3' ⟨rfl, hb1⟩
      have HB := hide (Below.then (unhide HB) hb1)
      clear hb1
      go_wp2_with fail
      refine (unhide HSX _).mono ?_
      rintro e w4' ⟨rfl, rfl⟩
      go_wp2_with fail
      go_ret
      exact ⟨rfl, unhide HB⟩

theorem own : ownKnob Try.prog.godebug = none := by kernel_rfl
set_option maxRecDepth 100000 in
theorem lifted (os : Os) (started : os.Started) (H : Type) (enc : TypeId × Value → H) :
    ReturnsInHanded {} Try.checked os 7 .any (Rows.udpLengthSpec.pre6 enc Try.prog Try.f7 Rows.udpLengthRow.domain false) (Rows.udpLengthSpec.post enc Try.prog Try.f7 false true false false) := by
  refine returnsInHanded_of_change_sized (C := Try.checked) own started (by kernel_rfl) Try.func7
    (ChangeSpec.witness6 (enc := enc) (C := Try.checked) false ⟨#[], #[.string ByteArray.empty, .int .u8 0], []⟩ 8 (by kernel_rfl) (by kernel_rfl) (by kernel_rfl) (by kernel_rfl)) ?_
  intro W base args ds gs before hval0 hW hcnd hsz _
  have hval : ∀ (j : Nat) t v, Try.f7.params[j]? = some t → args[j]? = some v → Value.okWide Try.prog W .any base t v := hval0
  have hW' := hW
  obtain ⟨p, q, hA0, hV, rfl, hfz, hnd⟩ := hW
  have hA : DataW.TrodAll enc Try.prog W 0 (fun _ => true) true Try.f7.params.toList args.toList ds p := hA0
  rw [Try.params7] at hA hval
  obtain ⟨v0, vs0, d0, ds0, p0, q0, hargs, rfl, rfl, h0, r0⟩ := trodAll_cons hA
  obtain ⟨v1, vs1, d1, ds1, p1, q1, rfl, rfl, rfl, h1, r1⟩ := trodAll_cons r0
  obtain ⟨rfl, rfl, rfl⟩ := trodAll_nil r1
  obtain rfl : args = #[v0, v1] := by cases args; simp_all
  obtain ⟨rfl, rfl⟩ := trodVars_none hV
  obtain ⟨a0, rfl, rfl, rfl, w0⟩ := open_string Try.underlying9 (hval 0 9 v0 rfl rfl) h0
  obtain ⟨a1, rfl, rfl, rfl, w1⟩ := open_int Try.underlying5 (hval 1 5 v1 rfl rfl) h1
  clear hA0 hval0
  simp only [List.append_nil] at hW'
  have z0 : a0.size ≤ 140737488355328 := by
    have hq : a0.data.toList.length ≤ reachBytes := sized_string hsz (j := 0) (t := 9) rfl rfl
    have e : a0.data.toList.length = a0.size := by rw [Array.length_toList]; rfl
    rw [e] at hq
    exact Nat.le_trans hq (Nat.le_of_lt reachBytes_lt)
  refine (walk W a0 a1 z0 w1).mono fun e W' ⟨he, bel⟩ => ?_
  subst he
  exact ⟨_, rfl, _, _, _, [], _, [], hW', (trodAll_cons_mk (shut_bool Try.underlying4 _) trodAll_mk0), (trodAll_cons_mk (shut_string Try.underlying9 w0) (trodAll_cons_mk (shut_int Try.underlying5 w1) trodAll_mk0)), rfl, bel.frame _, fun h => by cases h⟩

theorem over : Rows.udpLengthRow.holds Try.pinned (OpenSpec.ofChange Rows.udpLengthSpec) :=
  OpenClaim.holds_of_wide 7 Try.f7 rfl rfl rfl rfl rfl rfl rfl ⟨rfl, rfl, rfl, rfl, rfl⟩ rfl rfl rfl rfl rfl (by kernel_rfl) Try.func7 (by kernel_rfl)
    (of_decide_eq_true (by kernel_rfl)) (by unfold Func.isWrapper; first | (rw [if_pos (by decide +kernel)]; kernel_rfl) | (rw [if_neg (by decide +kernel)]; exact ⟨rfl, rfl⟩))
    (fun os started H enc _ => lifted os started H enc)

theorem proved : Rows.UdpLengthSaid := over
#print axioms proved
end Go.Proofs.Yteijemjbpfkghaa.udpLength
