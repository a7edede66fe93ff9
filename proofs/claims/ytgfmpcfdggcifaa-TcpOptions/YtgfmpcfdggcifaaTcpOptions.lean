/- The law TcpOptions returns true for every kind, length, number of options and text behind. -/
import Derived.Test.YtgfmpcfdggcifaaRows
import Derived.OpenShut
import Derived.ShutString
import Derived.ChangeOld
import Derived.Below
import Derived.SizedLaws
import Derived.Test.YtgfmpcfdggcifaaTcOpen
import Derived.Test.YtgfmpcfdggcifaaTcOptM
import Derived.Test.YtgfmpcfdggcifaaTcEx
import Derived.Test.YtgfmpcfdggcifaaCkAny
import Derived.Test.YtgfmpcfdggcifaaIpGrow
namespace Go.Proofs.Ytgfmpcfdggcifaa.tcpOptions
open Go.ChangeShapes Go.WideShapes Go.ChangeAt Go.RowKit
open Go.ChangeMaps (open_string shut_string)
set_option linter.unusedVariables false
set_option maxHeartbeats 4000000 in
set_option maxRecDepth 100000 in
theorem walk (w : World) (a0 : Int) (w0 : (Lit.int .u8 a0).wf = true) (a1 : Int) (w1 : (Lit.int .u8 a1).wf = true) (a2 : Int) (w2 : (Lit.int .u8 a2).wf = true) (a3 : ByteArray) (z3 : a3.size ≤ 140737488351232) :
    Calls Try.prog 9 #[.int .u8 a0, .int .u8 a1, .int .u8 a2, .string a3] w fun e w' => e = .returned (.bool true) ∧ Below w.heap.size w w' := by
  obtain ⟨x0, x1⟩ := bounds_u8 w0
  obtain ⟨y0, y1⟩ := bounds_u8 w1
  obtain ⟨v0, v1⟩ := bounds_u8 w2
  obtain ⟨k, hk⟩ : ∃ k : Int, 2 + a0 % 254 = k := ⟨_, rfl⟩
  obtain ⟨l, hl⟩ : ∃ l : Int, 2 + a1 % 39 = l := ⟨_, rfl⟩
  have k0 : 2 ≤ k := by omega
  have k1 : k ≤ 255 := by omega
  have l0 : 2 ≤ l := by omega
  have l1 : l ≤ 40 := by omega
  have HO : Hid (Opt k l) := ⟨k0, k1, l0, l1⟩
  obtain ⟨N, hN⟩ : ∃ N : Nat, (a2 % 4).toNat = N := ⟨_, rfl⟩
  have hku : IntKind.u8.wrap k = k := by simp [IntKind.wrap, IntKind.bits, IntKind.signed]; omega
  have hku' := hku
  have hlu : IntKind.u8.wrap l = l := by simp [IntKind.wrap, IntKind.bits, IntKind.signed]; omega
  have hsub : IntKind.i64.wrap (l - 2) = l - 2 := Oct.wraps_i64 _ (by omega) (by omega)
  have hmk := make_run (l - 2) (by omega) (by omega)
  have hosz := one_size k l l0
  have hadd := fun (wx : World) => run_string_add_sum (P := Try.prog) (w := wx) (strOfNums [k, l]) (zeroS (l - 2).toNat) (by rw [two_size, zeroS_size]; omega)
  have hone : strOfNums [k, l] ++ zeroS (l - 2).toNat = oneS k l := rfl
  rw [hone] at hadd
  go_enter Try.func9, Try.ntmps9
  go_wp2_with fail
  refine (examples_ok _).mono ?_
  rintro e w1' ⟨rfl, hb1⟩
  have HB := hide hb1
  clear hb1
  go_wp2_with fail
  refine wp_region_values (by kernel_rfl) (ValIs [.inl (.int .i64 k), .inl (.int .u8 k), .inl (.int .i64 l), .inl (.int .u8 l), .inr [.int .u8 k, .int .u8 l], .inl (.string (strOfNums [k, l])), .inl (.int .i64 l), .inl (.int .i64 (l - 2)), .inr (List.replicate (l - 2).toNat (.int .u8 0)), .inl (.string (zeroS (l - 2).toNat)), .inl (.string (oneS k l)), .inl (.string (oneS k l))]) (fun u u' => Below u.heap.size u u') (by kernel_rfl) (fun i v u u' h hb => valIs_on _ i v u u' h hb) (fun u => Below.refl _ _) (fun _ _ _ h h' => Below.then h h') ?op ?fin
  case op =>
    intro i o bx u ho hG hold hdeps
    match i, ho with
    | 0, ho =>
      obtain rfl := Option.some.inj ho
      have d10 : bx.tmps.getD 10 undef = .int .i64 k := hold 10 (base_of (by kernel_rfl))
      refine .inl ⟨rfl, yields_value (v := (.int .i64 k)) (u' := u) ?_ (Below.refl _ _) (valIs_inl (by kernel_rfl))⟩
      simp [execOp, Act.eval, d10]
    | 1, ho =>
      obtain rfl := Option.some.inj ho
      have d26 : bx.tmps.getD 26 undef = .int .i64 k := of_inl (hdeps 0 26 (by kernel_rfl) (by kernel_rfl)) (by kernel_rfl)
      refine .inl ⟨rfl, yields_value (v := (.int .u8 k)) (u' := u) ?_ (Below.refl _ _) (valIs_inl (by kernel_rfl))⟩
      simp [Act.eval, d26, go_sem, hku]
    | 2, ho =>
      obtain rfl := Option.some.inj ho
      have d11 : bx.tmps.getD 11 undef = .int .i64 l := hold 11 (base_of (by kernel_rfl))
      refine .inl ⟨rfl, yields_value (v := (.int .i64 l)) (u' := u) ?_ (Below.refl _ _) (valIs_inl (by kernel_rfl))⟩
      simp [execOp, Act.eval, d11]
    | 3, ho =>
      obtain rfl := Option.some.inj ho
      have d28 : bx.tmps.getD 28 undef = .int .i64 l := of_inl (hdeps 2 28 (by kernel_rfl) (by kernel_rfl)) (by kernel_rfl)
      refine .inl ⟨rfl, yields_value (v := (.int .u8 l)) (u' := u) ?_ (Below.refl _ _) (valIs_inl (by kernel_rfl))⟩
      simp [Act.eval, d28, go_sem, hlu]
    | 4, ho =>
      obtain rfl := Option.some.inj ho
      have d27 : bx.tmps.getD 27 undef = .int .u8 k := of_inl (hdeps 1 27 (by kernel_rfl) (by kernel_rfl)) (by kernel_rfl)
      have q27 : bx.tmps[27]?.getD undef = .int .u8 k := by rw [← Array.getD_eq_getD_getElem?]; exact d27
      have d29 : bx.tmps.getD 29 undef = .int .u8 l := of_inl (hdeps 3 29 (by kernel_rfl) (by kernel_rfl)) (by kernel_rfl)
      have q29 : bx.tmps[29]?.getD undef = .int .u8 l := by rw [← Array.getD_eq_getD_getElem?]; exact d29
      refine .inl ⟨rfl, yields_value (v := .slice (some ⟨u.heap.size, 0, none⟩) 2 2) (u' := u.alloc (.cells #[.int .u8 k, .int .u8 l] 5)) ?_ ((Below.refl _ _).alloc (Nat.le_refl _) _) (valIs_inr (cs := [.int .u8 k, .int .u8 l]) (by kernel_rfl) (fun j x hj => two_cells u _ _ _ j x hj))⟩
      simp [Act.eval, q27, q29, go_sem]
    | 5, ho =>
      obtain rfl := Option.some.inj ho
      obtain ⟨g, d30, dc⟩ := of_inr (cs := [.int .u8 k, .int .u8 l]) (hdeps 4 30 (by kernel_rfl) (by kernel_rfl)) (by kernel_rfl)
      have hcv : (convert 38 9 (.slice (some ⟨g, 0, none⟩) 2 2)).run Try.prog u = .ok (.string (strOfNums [k, l])) u := by
        refine run_convert_bytes_arg _ 38 5 Try.underlying38 Try.underlying5 _ 0 2 2 [k, l] (by simp) ?_ 9 Try.underlying9
        intro i hi
        have h4 : i = 0 ∨ i = 1 := by omega
        rcases h4 with rfl | rfl
        · exact dc 0 _ rfl
        · exact dc 1 _ rfl
      simp only [List.length_cons, List.length_nil, Nat.reduceAdd] at d30
      refine .inl ⟨rfl, yields_value (v := (.string (strOfNums [k, l]))) (u' := u) ?_ (Below.refl _ _) (valIs_inl (by kernel_rfl))⟩
      simp [Act.eval, d30, go_sem, hcv]
    | 6, ho =>
      obtain rfl := Option.some.inj ho
      have d11 : bx.tmps.getD 11 undef = .int .i64 l := hold 11 (base_of (by kernel_rfl))
      refine .inl ⟨rfl, yields_value (v := (.int .i64 l)) (u' := u) ?_ (Below.refl _ _) (valIs_inl (by kernel_rfl))⟩
      simp [execOp, Act.eval, d11]
    | 7, ho =>
      obtain rfl := Option.some.inj ho
      have d32 : bx.tmps.getD 32 undef = .int .i64 l := of_inl (hdeps 6 32 (by kernel_rfl) (by kernel_rfl)) (by kernel_rfl)
      refine .inl ⟨rfl, yields_value (v := (.int .i64 (l - 2))) (u' := u) ?_ (Below.refl _ _) (valIs_inl (by kernel_rfl))⟩
      simp [Act.eval, d32, go_sem, hsub]
    | 8, ho =>
      obtain rfl := Option.some.inj ho
      have d33 : bx.tmps.getD 33 undef = .int .i64 (l - 2) := of_inl (hdeps 7 33 (by kernel_rfl) (by kernel_rfl)) (by kernel_rfl)
      have hvi : ValIs [.inl (.int .i64 k), .inl (.int .u8 k), .inl (.int .i64 l), .inl (.int .u8 l), .inr [.int .u8 k, .int .u8 l], .inl (.string (strOfNums [k, l])), .inl (.int .i64 l), .inl (.int .i64 (l - 2)), .inr (List.replicate (l - 2).toNat (.int .u8 0)), .inl (.string (zeroS (l - 2).toNat)), .inl (.string (oneS k l)), .inl (.string (oneS k l))] 8 (.slice (some ⟨u.heap.size, 0, none⟩) (l - 2).toNat (l - 2).toNat) (u.alloc (.cells (madeCells #[.int .u8 0] (l - 2).toNat) 5)) := by
        have hv := valIs_inr (vs := [.inl (.int .i64 k), .inl (.int .u8 k), .inl (.int .i64 l), .inl (.int .u8 l), .inr [.int .u8 k, .int .u8 l], .inl (.string (strOfNums [k, l])), .inl (.int .i64 l), .inl (.int .i64 (l - 2)), .inr (List.replicate (l - 2).toNat (.int .u8 0)), .inl (.string (zeroS (l - 2).toNat)), .inl (.string (oneS k l)), .inl (.string (oneS k l))]) (i := 8) (g := u.heap.size) (cs := List.replicate (l - 2).toNat (.int .u8 0)) (u := u.alloc (.cells (madeCells #[.int .u8 0] (l - 2).toNat) 5)) (by kernel_rfl) (fun j x hj => by
          rw [List.getElem?_replicate] at hj
          split at hj
          · rename_i hlt
            obtain rfl := Option.some.inj hj
            exact made_cell u _ j hlt
          · cases hj)
        rw [List.length_replicate] at hv
        exact hv
      refine .inl ⟨rfl, yields_value (v := .slice (some ⟨u.heap.size, 0, none⟩) (l - 2).toNat (l - 2).toNat) (u' := u.alloc (.cells (madeCells #[.int .u8 0] (l - 2).toNat) 5)) ?_ ((Below.refl _ _).alloc (Nat.le_refl _) _) hvi⟩
      simp [Act.eval, d33, go_sem, hmk]
    | 9, ho =>
      obtain rfl := Option.some.inj ho
      obtain ⟨g, d34, dc⟩ := of_inr (cs := List.replicate (l - 2).toNat (.int .u8 0)) (hdeps 8 34 (by kernel_rfl) (by kernel_rfl)) (by kernel_rfl)
      rw [List.length_replicate] at d34
      have hcv : (convert 38 9 (.slice (some ⟨g, 0, none⟩) (l - 2).toNat (l - 2).toNat)).run Try.prog u = .ok (.string (zeroS (l - 2).toNat)) u := by
        refine run_convert_bytes_arg _ 38 5 Try.underlying38 Try.underlying5 _ 0 _ _ (List.replicate (l - 2).toNat 0) (by simp) ?_ 9 Try.underlying9
        intro i hi
        rw [Nat.zero_add, dc i (.int .u8 0) (by rw [List.getElem?_replicate, if_pos hi]), List.getD_eq_getElem?_getD, List.getElem?_replicate, if_pos hi]; rfl
      refine .inl ⟨rfl, yields_value (v := (.string (zeroS (l - 2).toNat))) (u' := u) ?_ (Below.refl _ _) (valIs_inl (by kernel_rfl))⟩
      simp [Act.eval, d34, go_sem, hcv]
    | 10, ho =>
      obtain rfl := Option.some.inj ho
      have d31 : bx.tmps.getD 31 undef = .string (strOfNums [k, l]) := of_inl (hdeps 5 31 (by kernel_rfl) (by kernel_rfl)) (by kernel_rfl)
      have d35 : bx.tmps.getD 35 undef = .string (zeroS (l - 2).toNat) := of_inl (hdeps 9 35 (by kernel_rfl) (by kernel_rfl)) (by kernel_rfl)
      refine .inl ⟨rfl, yields_value (v := (.string (oneS k l))) (u' := u) ?_ (Below.refl _ _) (valIs_inl (by kernel_rfl))⟩
      simp [Act.eval, d31, d35, go_sem, hadd]
    | 11, ho =>
      obtain rfl := Option.some.inj ho
      have d36 : bx.tmps.getD 36 undef = .string (oneS k l) := of_inl (hdeps 10 36 (by kernel_rfl) (by kernel_rfl)) (by kernel_rfl)
      refine .inl ⟨rfl, yields_value (v := (.string (oneS k l))) (u' := u) ?_ (Below.refl _ _) (valIs_inl (by kernel_rfl))⟩
      simp [execOp, Act.eval, d36]
    | n + 12, ho => exact absurd ho (by simp)
  case fin =>
    intro bx u hG hm
    obtain ⟨x30, h30⟩ : ∃ x, bx.tmps.getD 30 undef = x := ⟨_, rfl⟩
    obtain ⟨x34, h34⟩ : ∃ x, bx.tmps.getD 34 undef = x := ⟨_, rfl⟩
    have hbx := met_all_list (vs := [.int .i64 k, .int .u8 k, .int .i64 l, .int .u8 l, x30, .string (strOfNums [k, l]), .int .i64 l, .int .i64 (l - 2), x34, .string (zeroS (l - 2).toNat), .string (oneS k l), .string (oneS k l)]) (b := bx) (u := u) (by kernel_rfl) ⟨hm.defers, hm.size, hm.old, fun j t hj hd => by
      have hn := hm.new j t hj hd
      have hj' : j < 12 := hj
      match j, hj', hd, hn with
      | 0, _, hd, hn =>
        obtain rfl : 26 = t := Option.some.inj hd
        exact of_inl hn (by kernel_rfl)
      | 1, _, hd, hn =>
        obtain rfl : 27 = t := Option.some.inj hd
        exact of_inl hn (by kernel_rfl)
      | 2, _, hd, hn =>
        obtain rfl : 28 = t := Option.some.inj hd
        exact of_inl hn (by kernel_rfl)
      | 3, _, hd, hn =>
        obtain rfl : 29 = t := Option.some.inj hd
        exact of_inl hn (by kernel_rfl)
      | 4, _, hd, hn =>
        obtain rfl : 30 = t := Option.some.inj hd
        exact h30
      | 5, _, hd, hn =>
        obtain rfl : 31 = t := Option.some.inj hd
        exact of_inl hn (by kernel_rfl)
      | 6, _, hd, hn =>
        obtain rfl : 32 = t := Option.some.inj hd
        exact of_inl hn (by kernel_rfl)
      | 7, _, hd, hn =>
        obtain rfl : 33 = t := Option.some.inj hd
        exact of_inl hn (by kernel_rfl)
      | 8, _, hd, hn =>
        obtain rfl : 34 = t := Option.some.inj hd
        exact h34
      | 9, _, hd, hn =>
        obtain rfl : 35 = t := Option.some.inj hd
        exact of_inl hn (by kernel_rfl)
      | 10, _, hd, hn =>
        obtain rfl : 36 = t := Option.some.inj hd
        exact of_inl hn (by kernel_rfl)
      | 11, _, hd, hn =>
        obtain rfl : 12 = t := Option.some.inj hd
        exact of_inl hn (by kernel_rfl)
    ⟩
    rw [hbx]
    have hbz := (unhide HB).drew.trans (hG.mono (unhide HB).size)
    clear hbx hm h30 h34 hG HB hku' hmk hadd
    simp [putAll, dstAt, Act.put]
    have HBZ := hide hbz
    have hszu := hbz.size
    clear hbz
    go_wp2
    go_loop [13, 14] (fun m i => ∃ q : Nat, q ≤ N ∧ i = .int .i64 q ∧ m = .string (manyS k l q)) (fun _ i => N - (intOf i).toNat)
    case atStart => exact ⟨0, Nat.zero_le _, rfl, rfl⟩
    case round =>
      obtain ⟨q, hq, rfl, rfl⟩ := hrel
      have hms := many_size (unhide HO) q
      by_cases hlt : q < N
      · have hd : decide ((q : Int) < a2 % 4) = true := by simp; omega
        have ha := add_run (manyS k l q) (oneS k l) (by omega) (by omega)
        have hms2 : (manyS k l q ++ oneS k l).size ≤ 1000 := by rw [ByteArray.size_append]; omega
        have hb := add_run (manyS k l q ++ oneS k l) ⟨#[1]⟩ (by omega) (by decide)
        have HM : Hid (manyS k l q ++ oneS k l ++ ⟨#[1]⟩ = manyS k l (q + 1)) := rfl
        generalize manyS k l q ++ oneS k l = MO at *
        go_wp2_with fail
        go_round
        case rel => exact ⟨q + 1, by omega, by go_num, by rw [HM.out]⟩
        case measure => simp [intOf]; omega
      · have hd : decide ((q : Int) < a2 % 4) = false := by simp; omega
        have A1 := hide (ans1 (unhide HO) q)
        have A2 := hide (ans2 (unhide HO) q a3)
        have A3 := hide (ans3 (unhide HO) q)
        have A4 := hide (ans4 (unhide HO) q)
        have e3 : (oneS k l).extract 0 (((oneS k l).size : Int) - 1).toNat = (oneS k l).extract 0 (l.toNat - 1) := by rw [show (((oneS k l).size : Int) - 1).toNat = l.toNat - 1 by omega]
        have HE3 := hide e3
        clear e3
        generalize manyS k l q = M at *
        obtain ⟨O3, hO3⟩ : ∃ O3, (oneS k l).extract 0 (((oneS k l).size : Int) - 1).toNat = O3 := ⟨_, rfl⟩
        have h3s : O3.size ≤ 40 := by rw [← hO3, Oct.ext_size _ _ _ (by omega)]; omega
        have h3e : (oneS k l).extract 0 (l.toNat - 1) = O3 := (unhide HE3).symm.trans hO3
        rw [h3e] at A3
        have hO3b : (oneS k l).extract 0 ((oneS k l).size - 1) = O3 := by rw [← hO3, show ((oneS k l).size : Nat) - 1 = (((oneS k l).size : Int) - 1).toNat by omega]
        clear HE3 h3e
        generalize oneS k l = O at *
        have zz : (⟨#[0]⟩ : ByteArray).size = 1 := rfl
        have t1 := add_run M O (by omega) (by omega)
        have t2 := add_run M ⟨#[0]⟩ (by omega) (by omega)
        have t3 := add_run (M ++ ⟨#[0]⟩) a3 (by rw [ByteArray.size_append]; omega) (by omega)
        have t4 := add_run M O3 (by omega) (by omega)
        have t5 := add_run M (strOfNums [k, 0]) (by omega) (by rw [two_size]; omega)
        have z1 : (M ++ O).size ≤ 140737488355328 := by rw [ByteArray.size_append]; omega
        have z2 : (M ++ (⟨#[0]⟩ : ByteArray) ++ a3).size ≤ 140737488355328 := by rw [ByteArray.size_append, ByteArray.size_append, zz]; omega
        have z3' : (M ++ O3).size ≤ 140737488355328 := by rw [ByteArray.size_append]; omega
        have z4 : (M ++ strOfNums [k, 0]).size ≤ 140737488355328 := by rw [ByteArray.size_append, two_size]; omega
        have C0 := fun u => toptsRight_any ⟨#[]⟩ u (by decide)
        have C1 := fun u => toptsRight_any _ u z1
        have C2 := fun u => toptsRight_any _ u z2
        have C3 := fun u => toptsRight_any _ u z3'
        have C4 := fun u => toptsRight_any _ u z4
        rw [show optsOk (⟨#[]⟩ : ByteArray).data.toList = true from opts_nil] at C0
        rw [unhide A1] at C1
        rw [unhide A2] at C2
        rw [unhide A3] at C3
        rw [unhide A4] at C4
        clear z1 z2 z3' z4 zz A1 A2 A3 A4
        have cv2 := fun (W : World) => conv_two W k 0
        generalize hM0 : M ++ (⟨#[0]⟩ : ByteArray) = M0 at *
        generalize hS2 : strOfNums [k, 0] = S2 at *
        clear hM0 hS2
        have o1 : (1 : Int) ≤ O.size := by omega
        have o2 : (O.size : Int) ≤ 40 := by omega
        clear hosz
        go_wp2_with fail
        refine (C0 _).mono ?_
        rintro e v1 ⟨rfl, rfl⟩
        go_wp2_with fail
        refine (C1 _).mono ?_
        rintro e v1 ⟨rfl, rfl⟩
        go_wp2_with fail
        refine (C2 _).mono ?_
        rintro e v1 ⟨rfl, rfl⟩
        go_wp2_with fail
        refine (C3 _).mono ?_
        rintro e v1 ⟨rfl, rfl⟩
        go_wp2_with fail
        refine (C4 _).mono ?_
        rintro e v2 ⟨rfl, rfl⟩
        go_wp2_with fail
        go_ret
        exact ⟨rfl, (unhide HBZ).alloc (by omega) _⟩

theorem own : ownKnob Try.prog.godebug = none := by kernel_rfl
set_option maxRecDepth 100000 in
theorem lifted (os : Os) (started : os.Started) (H : Type) (enc : TypeId × Value → H) :
    ReturnsInHanded {} Try.checked os 9 .any (Rows.tcpOptionsSpec.pre6 enc Try.prog Try.f9 Rows.tcpOptionsRow.domain false) (Rows.tcpOptionsSpec.post enc Try.prog Try.f9 false true false false) := by
  refine returnsInHanded_of_change_sized (C := Try.checked) own started (by kernel_rfl) Try.func9
    (ChangeSpec.witness6 (enc := enc) (C := Try.checked) false ⟨#[], #[.int .u8 0, .int .u8 0, .int .u8 0, .string ByteArray.empty], []⟩ 8 (by kernel_rfl) (by kernel_rfl) (by kernel_rfl) (by kernel_rfl)) ?_
  intro W base args ds gs before hval0 hW hcnd hsz _
  have hval : ∀ (j : Nat) t v, Try.f9.params[j]? = some t → args[j]? = some v → Value.okWide Try.prog W .any base t v := hval0
  have hW' := hW
  obtain ⟨p, q, hA0, hV, rfl, hfz, hnd⟩ := hW
  have hA : DataW.TrodAll enc Try.prog W 0 (fun _ => true) true Try.f9.params.toList args.toList ds p := hA0
  rw [Try.params9] at hA hval
  obtain ⟨v0, vs0, d0, ds0, p0, q0, hargs, rfl, rfl, h0, r0⟩ := trodAll_cons hA
  obtain ⟨v1, vs1, d1, ds1, p1, q1, rfl, rfl, rfl, h1, r1⟩ := trodAll_cons r0
  obtain ⟨v2, vs2, d2, ds2, p2, q2, rfl, rfl, rfl, h2, r2⟩ := trodAll_cons r1
  obtain ⟨v3, vs3, d3, ds3, p3, q3, rfl, rfl, rfl, h3, r3⟩ := trodAll_cons r2
  obtain ⟨rfl, rfl, rfl⟩ := trodAll_nil r3
  obtain rfl : args = #[v0, v1, v2, v3] := by cases args; simp_all
  obtain ⟨rfl, rfl⟩ := trodVars_none hV
  obtain ⟨a0, rfl, rfl, rfl, w0⟩ := open_int Try.underlying5 (hval 0 5 v0 rfl rfl) h0
  obtain ⟨a1, rfl, rfl, rfl, w1⟩ := open_int Try.underlying5 (hval 1 5 v1 rfl rfl) h1
  obtain ⟨a2, rfl, rfl, rfl, w2⟩ := open_int Try.underlying5 (hval 2 5 v2 rfl rfl) h2
  obtain ⟨a3, rfl, rfl, rfl, w3⟩ := open_string Try.underlying9 (hval 3 9 v3 rfl rfl) h3
  clear hA0 hval0
  simp only [List.append_nil] at hW'
  have z3 : a3.size ≤ 140737488351232 := by
    have hq : a3.data.toList.length ≤ reachBytes := sized_string hsz (j := 3) (t := 9) rfl rfl
    have e : a3.data.toList.length = a3.size := by rw [Array.length_toList]; rfl
    rw [e] at hq
    exact Nat.le_trans hq (by decide)
  refine (walk W a0 w0 a1 w1 a2 w2 a3 z3).mono fun e W' ⟨he, bel⟩ => ?_
  subst he
  exact ⟨_, rfl, _, _, _, [], _, [], hW', (trodAll_cons_mk (shut_bool Try.underlying4 _) trodAll_mk0), (trodAll_cons_mk (shut_int Try.underlying5 w0) (trodAll_cons_mk (shut_int Try.underlying5 w1) (trodAll_cons_mk (shut_int Try.underlying5 w2) (trodAll_cons_mk (shut_string Try.underlying9 w3) trodAll_mk0)))), rfl, bel.frame _, fun h => by cases h⟩

theorem over : Rows.tcpOptionsRow.holds Try.pinned (OpenSpec.ofChange Rows.tcpOptionsSpec) :=
  OpenClaim.holds_of_wide 9 Try.f9 rfl rfl rfl rfl rfl rfl rfl ⟨rfl, rfl, rfl, rfl, rfl⟩ rfl rfl rfl rfl rfl (by kernel_rfl) Try.func9 (by kernel_rfl)
    (of_decide_eq_true (by kernel_rfl)) (by unfold Func.isWrapper; first | (rw [if_pos (by decide +kernel)]; kernel_rfl) | (rw [if_neg (by decide +kernel)]; exact ⟨rfl, rfl⟩))
    (fun os started H enc _ => lifted os started H enc)

theorem proved : Rows.TcpOptionsSaid := over
#print axioms proved
end Go.Proofs.Ytgfmpcfdggcifaa.tcpOptions
