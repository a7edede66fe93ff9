/- CksumParts answers true for every text that may be in memory and every place, and changes nothing that was there before. -/
import Derived.Test.YthhhedpnofommaaRows
import Derived.OpenShut
import Derived.ShutString
import Derived.ChangeOld
import Derived.Below
import Derived.SizedLaws
import Derived.Test.YthhhedpnofommaaCkEx
import Derived.Test.YthhhedpnofommaaCkAt
import Derived.Test.YthhhedpnofommaaCkAny
namespace Go.Proofs.Ythhhedpnofommaa.cksumParts
open Go.ChangeShapes Go.WideShapes Go.ChangeAt Go.RowKit
open Go.ChangeMaps (open_string shut_string)
set_option linter.unusedVariables false
set_option maxHeartbeats 3000000 in
set_option maxRecDepth 100000 in
theorem walk (w : World) (a0 : ByteArray) (a1 : Int) (z0 : a0.size ≤ 140737488355328) (w1 : (Lit.int .i64 a1).wf = true) :
    Calls Try.prog 5 #[.string a0, .int .i64 a1] w fun e w' => e = .returned (.bool true) ∧ Below w.heap.size w w' := by
  obtain ⟨b0, b1⟩ := i64_bounds w1
  have hA := at_any a1 a0.size (a0.size + 1) (by omega) (by omega) (Nat.le_refl _)
  rw [show ((a0.size + 1 : Nat) : Int) = (a0.size : Int) + 1 from by omega] at hA
  obtain ⟨c, hc⟩ : ∃ c, 65535 - Ck.sum a0.data.toList = c := ⟨_, rfl⟩
  have c0 : 0 ≤ c := by have := Ck.sum_hi a0.data.toList; omega
  have c1 : c ≤ 65535 := by have := Ck.sum_lo a0.data.toList; omega
  rcases hA with ⟨hn, k, hk, k0, k1, k2⟩ | ⟨hn, k, hk, k0, k1, k2⟩
  all_goals
    have x1 : (a0.extract 0 k).size = k := by rw [Oct.ext_size _ _ _ k1]; omega
    have x2 : (a0.extract k a0.size).size = a0.size - k := Oct.ext_size _ _ _ (Nat.le_refl _)
    have HJ : Hid (Ck.fold (Ck.sum (a0.extract 0 k).data.toList + Ck.sum (a0.extract k a0.size).data.toList) = Ck.sum a0.data.toList) := parts_join a0 k k1 k2
    have HC : Hid (Ck.sum (a0.extract 0 k ++ strOfNums [c / 256, c % 256] ++ a0.extract k a0.size).data.toList = 65535) := parts_check a0 k c k1 k2 hc
    have HZ : Hid (Ck.sum (a0 ++ ⟨#[0]⟩).data.toList = Ck.sum a0.data.toList) := sum_zero a0
    have l1 : (a0.extract 0 k).size + (strOfNums [c / 256, c % 256]).size ≤ 9223372036854775807 := by rw [two_size]; omega
    have l2 : (a0.extract 0 k ++ strOfNums [c / 256, c % 256]).size + (a0.extract k a0.size).size ≤ 9223372036854775807 := by rw [ByteArray.size_append, two_size]; omega
    have l3 : a0.size + (ByteArray.mk #[0]).size ≤ 9223372036854775807 := by show _ + 1 ≤ _; omega
    have ha1 := fun wx => run_string_add_sum (P := Try.prog) (w := wx) _ _ l1
    have ha2 := fun wx => run_string_add_sum (P := Try.prog) (w := wx) _ _ l2
    have ha3 := fun wx => run_string_add_sum (P := Try.prog) (w := wx) _ _ l3
    have hcv := fun W a b => conv_two_drew W a b
    have N1 := hide (show (a0.extract 0 k ++ strOfNums [c / 256, c % 256] ++ a0.extract k a0.size).size ≤ 281474976710656 by rw [ByteArray.size_append, ByteArray.size_append, two_size]; omega)
    have N2 := hide (show (a0 ++ ⟨#[0]⟩).size ≤ 281474976710656 by rw [ByteArray.size_append]; show _ + 1 ≤ _; omega)
    clear l1 l2 l3
    go_enter Try.func5, Try.ntmps5
    go_wp2_with fail
    refine (examples_ok _).mono ?_
    rintro e w1 ⟨rfl, hb1⟩
    have HB := hide hb1
    clear hb1
    go_wp2_with fail
    refine (check_any _ _ (by omega)).mono ?_
    rintro e w2 ⟨rfl, hb2⟩
    have HB2 := hide (Below.then (unhide HB) hb2)
    clear hb2 HB
    rw [hc]
    go_wp2_with fail
    go_region
    go_wp2_with fail
    have HB3 := hide (Below.then (unhide HB2) ((Below.refl w2.heap.size w2).alloc (Nat.le_refl _) (.cells #[.int .u8 (c / 256), .int .u8 (c % 256)] 5)).drew)
    clear HB2
    obtain ⟨V, hV⟩ : ∃ V, (w2.alloc (.cells #[.int .u8 (c / 256), .int .u8 (c % 256)] 5)).drew = V := ⟨_, rfl⟩
    rw [hV] at HB3 ⊢
    clear hV
    clear hcv ha1 ha2
    have hsz : ∀ u, Calls Try.prog 13 #[.string (a0 ++ ⟨#[0]⟩)] u fun e u' => e = .returned (.int .u16 (Ck.sum a0.data.toList)) ∧ Below u.heap.size u u' := fun u => by rw [← HZ.out]; exact sum_any _ _ (unhide N2)
    have hsa : ∀ u, Calls Try.prog 13 #[.string (a0.extract 0 k ++ strOfNums [c / 256, c % 256] ++ a0.extract k a0.size)] u fun e u' => e = .returned (.int .u16 65535) ∧ Below u.heap.size u u' := fun u => by rw [← HC.out]; exact sum_any _ _ (unhide N1)
    have hjn : ∀ u g, u.cell? ⟨g, 0, none⟩ = some (.int .u16 (Ck.sum (a0.extract 0 k).data.toList)) → u.cell? ⟨g, 1, none⟩ = some (.int .u16 (Ck.sum (a0.extract k a0.size).data.toList)) →
        Calls Try.prog 17 #[.slice (some ⟨g, 0, none⟩) 2 2] u fun e u' => e = .returned (.int .u16 (Ck.sum a0.data.toList)) ∧ Below u.heap.size u u' := fun u g h1 h2 => by rw [← HJ.out]; exact join_two u g _ _ h1 h2 (Ck.sum_lo _) (Ck.sum_hi _) (Ck.sum_lo _) (Ck.sum_hi _)
    have hs0 : ∀ u, Calls Try.prog 13 #[.string a0] u fun e u' => e = .returned (.int .u16 (Ck.sum a0.data.toList)) ∧ Below u.heap.size u u' := fun u => sum_any _ _ (by omega)
    have hs1 : ∀ u, Calls Try.prog 13 #[.string (a0.extract 0 k)] u fun e u' => e = .returned (.int .u16 (Ck.sum (a0.extract 0 k).data.toList)) ∧ Below u.heap.size u u' := fun u => sum_any _ _ (by omega)
    have hs2 : ∀ u, Calls Try.prog 13 #[.string (a0.extract k a0.size)] u fun e u' => e = .returned (.int .u16 (Ck.sum (a0.extract k a0.size).data.toList)) ∧ Below u.heap.size u u' := fun u => sum_any _ _ (by omega)
    have kk : ¬ a0.size < k := by omega
    clear HJ HC HZ N1 N2 x1 x2 hc
    generalize Ck.sum a0.data.toList = S0 at *
    generalize Ck.sum (a0.extract 0 k).data.toList = S1 at *
    generalize Ck.sum (a0.extract k a0.size).data.toList = S2 at *
    generalize hall : a0.extract 0 k ++ strOfNums [c / 256, c % 256] ++ a0.extract k a0.size = AL at *
    generalize hx1 : a0.extract 0 k = X1 at *
    generalize hx2 : a0.extract k a0.size = X2 at *
    generalize hzz : a0 ++ ⟨#[0]⟩ = Z0 at *
    refine wp_region_values (by kernel_rfl) (ValIs [.inl (.bool true), .inl (.bool true), .inl (.string a0), .inl (.int .u16 (S0)), .inl (.string a0), .inl (.int .i64 (k : Int)), .inl (.string X1), .inl (.int .u16 (S1)), .inl (.string a0), .inl (.int .i64 (k : Int)), .inl (.string X2), .inl (.int .u16 (S2)), .inr [.int .u16 (S1), .int .u16 (S2)], .inl (.int .u16 (S0)), .inl (.bool true), .inl (.bool true), .inl (.bool true), .inl (.string a0), .inl (.string Z0), .inl (.int .u16 (S0)), .inl (.string a0), .inl (.int .u16 (S0)), .inl (.bool true), .inl (.bool true), .inl (.bool true), .inl (.string AL), .inl (.int .u16 (65535)), .inl (.bool true), .inl (.bool true), .inl (.bool true)]) (fun u u' => Below u.heap.size u u') (by kernel_rfl) (fun i v u u' h hb => valIs_on _ i v u u' h hb) (fun u => Below.refl _ _) (fun _ _ _ h h' => Below.then h h') ?op ?fin
    case op =>
      intro i o b u ho hG hold hdeps
      match i, ho with
      | 0, ho =>
        obtain rfl := Option.some.inj ho
        have d5 : b.tmps.getD 5 undef = .bool true := hold 5 (base_of (by kernel_rfl))
        refine .inl ⟨rfl, yields_value (v := .bool true) (u' := u) ?_ (Below.refl _ _) (valIs_inl (by kernel_rfl))⟩
        simp [execOp, Act.eval, d5]
      | 1, ho =>
        obtain rfl := Option.some.inj ho
        have d40 : b.tmps.getD 40 undef = .bool true := of_inl (hdeps 0 40 (by kernel_rfl) (by kernel_rfl)) (by kernel_rfl)
        refine .inl ⟨rfl, yields_value (v := .bool true) (u' := u) ?_ (Below.refl _ _) (valIs_inl (by kernel_rfl))⟩
        simp [execOp, Act.eval, d40]
      | 2, ho =>
        obtain rfl := Option.some.inj ho
        have d0 : b.tmps.getD 0 undef = .string a0 := hold 0 (base_of (by kernel_rfl))
        have gd : b.tmps.getD 41 undef = .bool true := of_inl (hdeps 1 41 (by kernel_rfl) (by kernel_rfl)) (by kernel_rfl)
        refine .inl ⟨wanted_yes (j := 1) (t := 41) (c := true) (by kernel_rfl) (by kernel_rfl) gd, yields_value (v := .string a0) (u' := u) ?_ (Below.refl _ _) (valIs_inl (by kernel_rfl))⟩
        simp [execOp, Act.eval, d0]
      | 3, ho =>
        obtain rfl := Option.some.inj ho
        have d42 : b.tmps.getD 42 undef = .string a0 := of_inl (hdeps 2 42 (by kernel_rfl) (by kernel_rfl)) (by kernel_rfl)
        have gd : b.tmps.getD 41 undef = .bool true := of_inl (hdeps 1 41 (by kernel_rfl) (by kernel_rfl)) (by kernel_rfl)
        refine .inl ⟨wanted_yes (j := 1) (t := 41) (c := true) (by kernel_rfl) (by kernel_rfl) gd, yields_call (f := 13) (args := #[.string a0]) ?_ (hs0 u) (fun u' => valIs_inl (by kernel_rfl))⟩
        simp [Act.eval, d42, go_sem]
      | 4, ho =>
        obtain rfl := Option.some.inj ho
        have d0 : b.tmps.getD 0 undef = .string a0 := hold 0 (base_of (by kernel_rfl))
        have gd : b.tmps.getD 41 undef = .bool true := of_inl (hdeps 1 41 (by kernel_rfl) (by kernel_rfl)) (by kernel_rfl)
        refine .inl ⟨wanted_yes (j := 1) (t := 41) (c := true) (by kernel_rfl) (by kernel_rfl) gd, yields_value (v := .string a0) (u' := u) ?_ (Below.refl _ _) (valIs_inl (by kernel_rfl))⟩
        simp [execOp, Act.eval, d0]
      | 5, ho =>
        obtain rfl := Option.some.inj ho
        have d1 : b.tmps.getD 1 undef = .int .i64 (k : Int) := hold 1 (base_of (by kernel_rfl))
        have gd : b.tmps.getD 41 undef = .bool true := of_inl (hdeps 1 41 (by kernel_rfl) (by kernel_rfl)) (by kernel_rfl)
        refine .inl ⟨wanted_yes (j := 1) (t := 41) (c := true) (by kernel_rfl) (by kernel_rfl) gd, yields_value (v := .int .i64 (k : Int)) (u' := u) ?_ (Below.refl _ _) (valIs_inl (by kernel_rfl))⟩
        simp [execOp, Act.eval, d1]
      | 6, ho =>
        obtain rfl := Option.some.inj ho
        have d44 : b.tmps.getD 44 undef = .string a0 := of_inl (hdeps 4 44 (by kernel_rfl) (by kernel_rfl)) (by kernel_rfl)
        have d45 : b.tmps.getD 45 undef = .int .i64 (k : Int) := of_inl (hdeps 5 45 (by kernel_rfl) (by kernel_rfl)) (by kernel_rfl)
        have gd : b.tmps.getD 41 undef = .bool true := of_inl (hdeps 1 41 (by kernel_rfl) (by kernel_rfl)) (by kernel_rfl)
        refine .inl ⟨wanted_yes (j := 1) (t := 41) (c := true) (by kernel_rfl) (by kernel_rfl) gd, yields_value (v := .string X1) (u' := u) ?_ (Below.refl _ _) (valIs_inl (by kernel_rfl))⟩
        simp [Act.eval, d44, d45, go_sem, kk, hx1]
      | 7, ho =>
        obtain rfl := Option.some.inj ho
        have d46 : b.tmps.getD 46 undef = .string X1 := of_inl (hdeps 6 46 (by kernel_rfl) (by kernel_rfl)) (by kernel_rfl)
        have gd : b.tmps.getD 41 undef = .bool true := of_inl (hdeps 1 41 (by kernel_rfl) (by kernel_rfl)) (by kernel_rfl)
        refine .inl ⟨wanted_yes (j := 1) (t := 41) (c := true) (by kernel_rfl) (by kernel_rfl) gd, yields_call (f := 13) (args := #[.string X1]) ?_ (hs1 u) (fun u' => valIs_inl (by kernel_rfl))⟩
        simp [Act.eval, d46, go_sem]
      | 8, ho =>
        obtain rfl := Option.some.inj ho
        have d0 : b.tmps.getD 0 undef = .string a0 := hold 0 (base_of (by kernel_rfl))
        have gd : b.tmps.getD 41 undef = .bool true := of_inl (hdeps 1 41 (by kernel_rfl) (by kernel_rfl)) (by kernel_rfl)
        refine .inl ⟨wanted_yes (j := 1) (t := 41) (c := true) (by kernel_rfl) (by kernel_rfl) gd, yields_value (v := .string a0) (u' := u) ?_ (Below.refl _ _) (valIs_inl (by kernel_rfl))⟩
        simp [execOp, Act.eval, d0]
      | 9, ho =>
        obtain rfl := Option.some.inj ho
        have d1 : b.tmps.getD 1 undef = .int .i64 (k : Int) := hold 1 (base_of (by kernel_rfl))
        have gd : b.tmps.getD 41 undef = .bool true := of_inl (hdeps 1 41 (by kernel_rfl) (by kernel_rfl)) (by kernel_rfl)
        refine .inl ⟨wanted_yes (j := 1) (t := 41) (c := true) (by kernel_rfl) (by kernel_rfl) gd, yields_value (v := .int .i64 (k : Int)) (u' := u) ?_ (Below.refl _ _) (valIs_inl (by kernel_rfl))⟩
        simp [execOp, Act.eval, d1]
      | 10, ho =>
        obtain rfl := Option.some.inj ho
        have d48 : b.tmps.getD 48 undef = .string a0 := of_inl (hdeps 8 48 (by kernel_rfl) (by kernel_rfl)) (by kernel_rfl)
        have d49 : b.tmps.getD 49 undef = .int .i64 (k : Int) := of_inl (hdeps 9 49 (by kernel_rfl) (by kernel_rfl)) (by kernel_rfl)
        have gd : b.tmps.getD 41 undef = .bool true := of_inl (hdeps 1 41 (by kernel_rfl) (by kernel_rfl)) (by kernel_rfl)
        refine .inl ⟨wanted_yes (j := 1) (t := 41) (c := true) (by kernel_rfl) (by kernel_rfl) gd, yields_value (v := .string X2) (u' := u) ?_ (Below.refl _ _) (valIs_inl (by kernel_rfl))⟩
        simp [Act.eval, d48, d49, go_sem, kk, hx2]
      | 11, ho =>
        obtain rfl := Option.some.inj ho
        have d50 : b.tmps.getD 50 undef = .string X2 := of_inl (hdeps 10 50 (by kernel_rfl) (by kernel_rfl)) (by kernel_rfl)
        have gd : b.tmps.getD 41 undef = .bool true := of_inl (hdeps 1 41 (by kernel_rfl) (by kernel_rfl)) (by kernel_rfl)
        refine .inl ⟨wanted_yes (j := 1) (t := 41) (c := true) (by kernel_rfl) (by kernel_rfl) gd, yields_call (f := 13) (args := #[.string X2]) ?_ (hs2 u) (fun u' => valIs_inl (by kernel_rfl))⟩
        simp [Act.eval, d50, go_sem]
      | 12, ho =>
        obtain rfl := Option.some.inj ho
        have d47 : b.tmps.getD 47 undef = .int .u16 (S1) := of_inl (hdeps 7 47 (by kernel_rfl) (by kernel_rfl)) (by kernel_rfl)
        have q47 : b.tmps[47]?.getD undef = .int .u16 (S1) := by rw [← Array.getD_eq_getD_getElem?]; exact d47
        have d51 : b.tmps.getD 51 undef = .int .u16 (S2) := of_inl (hdeps 11 51 (by kernel_rfl) (by kernel_rfl)) (by kernel_rfl)
        have q51 : b.tmps[51]?.getD undef = .int .u16 (S2) := by rw [← Array.getD_eq_getD_getElem?]; exact d51
        have gd : b.tmps.getD 41 undef = .bool true := of_inl (hdeps 1 41 (by kernel_rfl) (by kernel_rfl)) (by kernel_rfl)
        refine .inl ⟨wanted_yes (j := 1) (t := 41) (c := true) (by kernel_rfl) (by kernel_rfl) gd, yields_value (v := .slice (some ⟨u.heap.size, 0, none⟩) 2 2) (u' := u.alloc (.cells #[.int .u16 (S1), .int .u16 (S2)] 25)) ?_ ((Below.refl _ _).alloc (Nat.le_refl _) _) (valIs_inr (cs := [.int .u16 (S1), .int .u16 (S2)]) (by kernel_rfl) (fun j x hj => two_cells u _ _ _ j x hj))⟩
        simp [Act.eval, q47, q51, go_sem]
      | 13, ho =>
        obtain rfl := Option.some.inj ho
        obtain ⟨g, d52, dc⟩ : ∃ g, b.tmps.getD 52 undef = .slice (some ⟨g, 0, none⟩) 2 2 ∧ ∀ j x, ([.int .u16 (S1), .int .u16 (S2)] : List Value)[j]? = some x → u.cell? ⟨g, j, none⟩ = some x := of_inr (cs := [.int .u16 (S1), .int .u16 (S2)]) (hdeps 12 52 (by kernel_rfl) (by kernel_rfl)) (by kernel_rfl)
        have gd : b.tmps.getD 41 undef = .bool true := of_inl (hdeps 1 41 (by kernel_rfl) (by kernel_rfl)) (by kernel_rfl)
        refine .inl ⟨wanted_yes (j := 1) (t := 41) (c := true) (by kernel_rfl) (by kernel_rfl) gd, yields_call (f := 17) (args := #[.slice (some ⟨g, 0, none⟩) 2 2]) ?_ (hjn u g (dc 0 _ rfl) (dc 1 _ rfl)) (fun u' => valIs_inl (by kernel_rfl))⟩
        simp [Act.eval, d52, go_sem]
      | 14, ho =>
        obtain rfl := Option.some.inj ho
        have d43 : b.tmps.getD 43 undef = .int .u16 (S0) := of_inl (hdeps 3 43 (by kernel_rfl) (by kernel_rfl)) (by kernel_rfl)
        have d53 : b.tmps.getD 53 undef = .int .u16 (S0) := of_inl (hdeps 13 53 (by kernel_rfl) (by kernel_rfl)) (by kernel_rfl)
        have gd : b.tmps.getD 41 undef = .bool true := of_inl (hdeps 1 41 (by kernel_rfl) (by kernel_rfl)) (by kernel_rfl)
        refine .inl ⟨wanted_yes (j := 1) (t := 41) (c := true) (by kernel_rfl) (by kernel_rfl) gd, yields_value (v := .bool true) (u' := u) ?_ (Below.refl _ _) (valIs_inl (by kernel_rfl))⟩
        simp [Act.eval, d43, d53, go_sem]
      | 15, ho =>
        obtain rfl := Option.some.inj ho
        have d41 : b.tmps.getD 41 undef = .bool true := of_inl (hdeps 1 41 (by kernel_rfl) (by kernel_rfl)) (by kernel_rfl)
        have d54 : b.tmps.getD 54 undef = .bool true := of_inl (hdeps 14 54 (by kernel_rfl) (by kernel_rfl)) (by kernel_rfl)
        refine .inl ⟨rfl, yields_value (v := .bool true) (u' := u) ?_ (Below.refl _ _) (valIs_inl (by kernel_rfl))⟩
        simp [Act.eval, d41, d54, go_sem]
      | 16, ho =>
        obtain rfl := Option.some.inj ho
        have d55 : b.tmps.getD 55 undef = .bool true := of_inl (hdeps 15 55 (by kernel_rfl) (by kernel_rfl)) (by kernel_rfl)
        refine .inl ⟨rfl, yields_value (v := .bool true) (u' := u) ?_ (Below.refl _ _) (valIs_inl (by kernel_rfl))⟩
        simp [execOp, Act.eval, d55]
      | 17, ho =>
        obtain rfl := Option.some.inj ho
        have d0 : b.tmps.getD 0 undef = .string a0 := hold 0 (base_of (by kernel_rfl))
        have gd : b.tmps.getD 56 undef = .bool true := of_inl (hdeps 16 56 (by kernel_rfl) (by kernel_rfl)) (by kernel_rfl)
        refine .inl ⟨wanted_yes (j := 16) (t := 56) (c := true) (by kernel_rfl) (by kernel_rfl) gd, yields_value (v := .string a0) (u' := u) ?_ (Below.refl _ _) (valIs_inl (by kernel_rfl))⟩
        simp [execOp, Act.eval, d0]
      | 18, ho =>
        obtain rfl := Option.some.inj ho
        have d57 : b.tmps.getD 57 undef = .string a0 := of_inl (hdeps 17 57 (by kernel_rfl) (by kernel_rfl)) (by kernel_rfl)
        have gd : b.tmps.getD 56 undef = .bool true := of_inl (hdeps 16 56 (by kernel_rfl) (by kernel_rfl)) (by kernel_rfl)
        refine .inl ⟨wanted_yes (j := 16) (t := 56) (c := true) (by kernel_rfl) (by kernel_rfl) gd, yields_value (v := .string Z0) (u' := u) ?_ (Below.refl _ _) (valIs_inl (by kernel_rfl))⟩
        simp [Act.eval, d57, go_sem, ha3]
      | 19, ho =>
        obtain rfl := Option.some.inj ho
        have d58 : b.tmps.getD 58 undef = .string Z0 := of_inl (hdeps 18 58 (by kernel_rfl) (by kernel_rfl)) (by kernel_rfl)
        have gd : b.tmps.getD 56 undef = .bool true := of_inl (hdeps 16 56 (by kernel_rfl) (by kernel_rfl)) (by kernel_rfl)
        refine .inl ⟨wanted_yes (j := 16) (t := 56) (c := true) (by kernel_rfl) (by kernel_rfl) gd, yields_call (f := 13) (args := #[.string Z0]) ?_ (hsz u) (fun u' => valIs_inl (by kernel_rfl))⟩
        simp [Act.eval, d58, go_sem]
      | 20, ho =>
        obtain rfl := Option.some.inj ho
        have d0 : b.tmps.getD 0 undef = .string a0 := hold 0 (base_of (by kernel_rfl))
        have gd : b.tmps.getD 56 undef = .bool true := of_inl (hdeps 16 56 (by kernel_rfl) (by kernel_rfl)) (by kernel_rfl)
        refine .inl ⟨wanted_yes (j := 16) (t := 56) (c := true) (by kernel_rfl) (by kernel_rfl) gd, yields_value (v := .string a0) (u' := u) ?_ (Below.refl _ _) (valIs_inl (by kernel_rfl))⟩
        simp [execOp, Act.eval, d0]
      | 21, ho =>
        obtain rfl := Option.some.inj ho
        have d60 : b.tmps.getD 60 undef = .string a0 := of_inl (hdeps 20 60 (by kernel_rfl) (by kernel_rfl)) (by kernel_rfl)
        have gd : b.tmps.getD 56 undef = .bool true := of_inl (hdeps 16 56 (by kernel_rfl) (by kernel_rfl)) (by kernel_rfl)
        refine .inl ⟨wanted_yes (j := 16) (t := 56) (c := true) (by kernel_rfl) (by kernel_rfl) gd, yields_call (f := 13) (args := #[.string a0]) ?_ (hs0 u) (fun u' => valIs_inl (by kernel_rfl))⟩
        simp [Act.eval, d60, go_sem]
      | 22, ho =>
        obtain rfl := Option.some.inj ho
        have d59 : b.tmps.getD 59 undef = .int .u16 (S0) := of_inl (hdeps 19 59 (by kernel_rfl) (by kernel_rfl)) (by kernel_rfl)
        have d61 : b.tmps.getD 61 undef = .int .u16 (S0) := of_inl (hdeps 21 61 (by kernel_rfl) (by kernel_rfl)) (by kernel_rfl)
        have gd : b.tmps.getD 56 undef = .bool true := of_inl (hdeps 16 56 (by kernel_rfl) (by kernel_rfl)) (by kernel_rfl)
        refine .inl ⟨wanted_yes (j := 16) (t := 56) (c := true) (by kernel_rfl) (by kernel_rfl) gd, yields_value (v := .bool true) (u' := u) ?_ (Below.refl _ _) (valIs_inl (by kernel_rfl))⟩
        simp [Act.eval, d59, d61, go_sem]
      | 23, ho =>
        obtain rfl := Option.some.inj ho
        have d56 : b.tmps.getD 56 undef = .bool true := of_inl (hdeps 16 56 (by kernel_rfl) (by kernel_rfl)) (by kernel_rfl)
        have d62 : b.tmps.getD 62 undef = .bool true := of_inl (hdeps 22 62 (by kernel_rfl) (by kernel_rfl)) (by kernel_rfl)
        refine .inl ⟨rfl, yields_value (v := .bool true) (u' := u) ?_ (Below.refl _ _) (valIs_inl (by kernel_rfl))⟩
        simp [Act.eval, d56, d62, go_sem]
      | 24, ho =>
        obtain rfl := Option.some.inj ho
        have d63 : b.tmps.getD 63 undef = .bool true := of_inl (hdeps 23 63 (by kernel_rfl) (by kernel_rfl)) (by kernel_rfl)
        refine .inl ⟨rfl, yields_value (v := .bool true) (u' := u) ?_ (Below.refl _ _) (valIs_inl (by kernel_rfl))⟩
        simp [execOp, Act.eval, d63]
      | 25, ho =>
        obtain rfl := Option.some.inj ho
        have d7 : b.tmps.getD 7 undef = .string AL := hold 7 (base_of (by kernel_rfl))
        have gd : b.tmps.getD 64 undef = .bool true := of_inl (hdeps 24 64 (by kernel_rfl) (by kernel_rfl)) (by kernel_rfl)
        refine .inl ⟨wanted_yes (j := 24) (t := 64) (c := true) (by kernel_rfl) (by kernel_rfl) gd, yields_value (v := .string AL) (u' := u) ?_ (Below.refl _ _) (valIs_inl (by kernel_rfl))⟩
        simp [execOp, Act.eval, d7]
      | 26, ho =>
        obtain rfl := Option.some.inj ho
        have d65 : b.tmps.getD 65 undef = .string AL := of_inl (hdeps 25 65 (by kernel_rfl) (by kernel_rfl)) (by kernel_rfl)
        have gd : b.tmps.getD 64 undef = .bool true := of_inl (hdeps 24 64 (by kernel_rfl) (by kernel_rfl)) (by kernel_rfl)
        refine .inl ⟨wanted_yes (j := 24) (t := 64) (c := true) (by kernel_rfl) (by kernel_rfl) gd, yields_call (f := 13) (args := #[.string AL]) ?_ (hsa u) (fun u' => valIs_inl (by kernel_rfl))⟩
        simp [Act.eval, d65, go_sem]
      | 27, ho =>
        obtain rfl := Option.some.inj ho
        have d66 : b.tmps.getD 66 undef = .int .u16 (65535) := of_inl (hdeps 26 66 (by kernel_rfl) (by kernel_rfl)) (by kernel_rfl)
        have gd : b.tmps.getD 64 undef = .bool true := of_inl (hdeps 24 64 (by kernel_rfl) (by kernel_rfl)) (by kernel_rfl)
        refine .inl ⟨wanted_yes (j := 24) (t := 64) (c := true) (by kernel_rfl) (by kernel_rfl) gd, yields_value (v := .bool true) (u' := u) ?_ (Below.refl _ _) (valIs_inl (by kernel_rfl))⟩
        simp [Act.eval, d66, go_sem]
      | 28, ho =>
        obtain rfl := Option.some.inj ho
        have d64 : b.tmps.getD 64 undef = .bool true := of_inl (hdeps 24 64 (by kernel_rfl) (by kernel_rfl)) (by kernel_rfl)
        have d67 : b.tmps.getD 67 undef = .bool true := of_inl (hdeps 27 67 (by kernel_rfl) (by kernel_rfl)) (by kernel_rfl)
        refine .inl ⟨rfl, yields_value (v := .bool true) (u' := u) ?_ (Below.refl _ _) (valIs_inl (by kernel_rfl))⟩
        simp [Act.eval, d64, d67, go_sem]
      | 29, ho =>
        obtain rfl := Option.some.inj ho
        have d68 : b.tmps.getD 68 undef = .bool true := of_inl (hdeps 28 68 (by kernel_rfl) (by kernel_rfl)) (by kernel_rfl)
        refine .inl ⟨rfl, yields_value (v := .bool true) (u' := u) ?_ (Below.refl _ _) (valIs_inl (by kernel_rfl))⟩
        simp [execOp, Act.eval, d68]
      | n + 30, ho => exact absurd ho (by simp)
    case fin =>
      intro b u hG hm
      have hv : b.tmps.getD 4 undef = .bool true := of_inl (hm.new 29 4 (by decide) (by kernel_rfl)) (by kernel_rfl)
      go_wp2_with fail
      refine bodyPost_ret (v := .bool true) ?_ hm.defers ⟨rfl, Below.then (unhide HB3) ⟨hG.os, hG.tape, hG.output, hG.size, hG.block⟩⟩
      rw [results_tmp rfl, hv]

theorem own : ownKnob Try.prog.godebug = none := by kernel_rfl
set_option maxRecDepth 100000 in
theorem lifted (os : Os) (started : os.Started) (H : Type) (enc : TypeId × Value → H) :
    ReturnsInHanded {} Try.checked os 5 .any (Rows.cksumPartsSpec.pre6 enc Try.prog Try.f5 Rows.cksumPartsRow.domain false) (Rows.cksumPartsSpec.post enc Try.prog Try.f5 false true false false) := by
  refine returnsInHanded_of_change_sized (C := Try.checked) own started (by kernel_rfl) Try.func5
    (ChangeSpec.witness6 (enc := enc) (C := Try.checked) false ⟨#[], #[.string ByteArray.empty, .int .i64 0], []⟩ 8 (by kernel_rfl) (by kernel_rfl) (by kernel_rfl) (by kernel_rfl)) ?_
  intro W base args ds gs before hval0 hW hcnd hsz _
  have hval : ∀ (j : Nat) t v, Try.f5.params[j]? = some t → args[j]? = some v → Value.okWide Try.prog W .any base t v := hval0
  have hW' := hW
  obtain ⟨p, q, hA0, hV, rfl, hfz, hnd⟩ := hW
  have hA : DataW.TrodAll enc Try.prog W 0 (fun _ => true) true Try.f5.params.toList args.toList ds p := hA0
  rw [Try.params5] at hA hval
  obtain ⟨v0, vs0, d0, ds0, p0, q0, hargs, rfl, rfl, h0, r0⟩ := trodAll_cons hA
  obtain ⟨v1, vs1, d1, ds1, p1, q1, rfl, rfl, rfl, h1, r1⟩ := trodAll_cons r0
  obtain ⟨rfl, rfl, rfl⟩ := trodAll_nil r1
  obtain rfl : args = #[v0, v1] := by cases args; simp_all
  obtain ⟨rfl, rfl⟩ := trodVars_none hV
  obtain ⟨a0, rfl, rfl, rfl, w0⟩ := open_string Try.underlying9 (hval 0 9 v0 rfl rfl) h0
  obtain ⟨a1, rfl, rfl, rfl, w1⟩ := open_int Try.underlying3 (hval 1 3 v1 rfl rfl) h1
  clear hA0 hval0
  simp only [List.append_nil] at hW'
  have z0 : a0.size ≤ 140737488355328 := by
    have hq : a0.data.toList.length ≤ reachBytes := sized_string hsz (j := 0) (t := 9) rfl rfl
    have e : a0.data.toList.length = a0.size := by rw [Array.length_toList]; rfl
    rw [e] at hq
    exact Nat.le_trans hq (Nat.le_of_lt reachBytes_lt)
  refine (walk W a0 a1 z0 w1).mono fun e W' ⟨he, bel⟩ => ?_
  subst he
  exact ⟨_, rfl, _, _, _, [], _, [], hW', (trodAll_cons_mk (shut_bool Try.underlying4 _) trodAll_mk0), (trodAll_cons_mk (shut_string Try.underlying9 w0) (trodAll_cons_mk (shut_int Try.underlying3 w1) trodAll_mk0)), rfl, bel.frame _, fun h => by cases h⟩

theorem over : Rows.cksumPartsRow.holds Try.pinned (OpenSpec.ofChange Rows.cksumPartsSpec) :=
  OpenClaim.holds_of_wide 5 Try.f5 rfl rfl rfl rfl rfl rfl rfl ⟨rfl, rfl, rfl, rfl, rfl⟩ rfl rfl rfl rfl rfl (by kernel_rfl) Try.func5 (by kernel_rfl)
    (of_decide_eq_true (by kernel_rfl)) (by unfold Func.isWrapper; first | (rw [if_pos (by decide +kernel)]; kernel_rfl) | (rw [if_neg (by decide +kernel)]; exact ⟨rfl, rfl⟩))
    (fun os started H enc _ => lifted os started H enc)

theorem proved : Rows.CksumPartsSaid := over
#print axioms proved
end Go.Proofs.Ythhhedpnofommaa.cksumParts
