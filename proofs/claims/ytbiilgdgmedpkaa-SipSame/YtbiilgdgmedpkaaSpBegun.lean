/- begun. -/
import Derived.Test.YtbiilgdgmedpkaaSpTake
namespace Go.Proofs.Ytbiilgdgmedpkaa
open Go.ChangeShapes Go.WideShapes Go.ChangeAt Go.RowKit Sp

theorem ext_head (s : ByteArray) (a b : Nat) : (s.extract a b).data.toList = (s.data.toList.drop a).take (b - a) := by rw [ext_list, List.drop_take]
set_option maxHeartbeats 2000000 in
theorem begun_any (key : ByteArray) (w : World) (hk : key.size = 16) :
    Calls Try.prog 14 #[.string key] w fun e w' => e = .returned (.agg #[.int .u64 (nn (beg (wd key 0 0) (wd key 8 0)).a), .int .u64 (nn (beg (wd key 0 0) (wd key 8 0)).b), .int .u64 (nn (beg (wd key 0 0) (wd key 8 0)).c), .int .u64 (nn (beg (wd key 0 0) (wd key 8 0)).d)]) ∧ Below w.heap.size w w' := by
  obtain ⟨A, hA⟩ : ∃ A, key.extract 0 8 = A := ⟨_, rfl⟩
  obtain ⟨C, hC⟩ : ∃ C, key.extract 8 16 = C := ⟨_, rfl⟩
  obtain ⟨k, ek, HN0⟩ : ∃ k, Hid (wd key 0 0 = k) ∧ Hid (∀ W, Calls Try.prog 16 #[.string A] W fun e w' => e = .returned (.int .u64 (nn k)) ∧ w' = W) :=
    ⟨_, rfl, fun W => by have h := number_any A W (by rw [← hA, ext_size _ _ _ (by omega)]; omega); rw [← hA, ext_head] at h; rw [← hA]; exact h⟩
  obtain ⟨l, el, HN1⟩ : ∃ l, Hid (wd key 8 0 = l) ∧ Hid (∀ W, Calls Try.prog 16 #[.string C] W fun e w' => e = .returned (.int .u64 (nn l)) ∧ w' = W) :=
    ⟨_, rfl, fun W => by have h := number_any C W (by rw [← hC, ext_size _ _ _ (by omega)]; omega); rw [← hC, ext_head] at h; rw [← hC]; exact h⟩
  obtain ⟨s0, e0, f0⟩ : ∃ x, bits .xor .u64 8317987319222330741 (nn k) = nn x ∧ Hid (x = 0x736f6d6570736575#64 ^^^ k) := ⟨_, xor_nn 0x736f6d6570736575#64 k, rfl⟩
  have n0 : Hid (nn 0x736f6d6570736575#64 = 8317987319222330741) := rfl
  obtain ⟨s1, e1, f1⟩ : ∃ x, bits .xor .u64 7237128888997146477 (nn l) = nn x ∧ Hid (x = 0x646f72616e646f6d#64 ^^^ l) := ⟨_, xor_nn 0x646f72616e646f6d#64 l, rfl⟩
  have n1 : Hid (nn 0x646f72616e646f6d#64 = 7237128888997146477) := rfl
  obtain ⟨s2, e2, f2⟩ : ∃ x, bits .xor .u64 7816392313619706465 (nn k) = nn x ∧ Hid (x = 0x6c7967656e657261#64 ^^^ k) := ⟨_, xor_nn 0x6c7967656e657261#64 k, rfl⟩
  have n2 : Hid (nn 0x6c7967656e657261#64 = 7816392313619706465) := rfl
  obtain ⟨s3, e3, f3⟩ : ∃ x, bits .xor .u64 8387220255154660723 (nn l) = nn x ∧ Hid (x = 0x7465646279746573#64 ^^^ l) := ⟨_, xor_nn 0x7465646279746573#64 l, rfl⟩
  have n3 : Hid (nn 0x7465646279746573#64 = 8387220255154660723) := rfl
  have q8 : ¬ ((key.size : Int) < 8) := by omega
  rw [unhide ek, unhide el]
  go_enter Try.func14, Try.ntmps14
  go_wp2_with fail
  obtain ⟨V, hV⟩ : ∃ V, (w.alloc (.cells #[.int .u64 0, .int .u64 0, .int .u64 0, .int .u64 0] 35)).alloc (.cells #[.int .u64 8317987319222330741, .int .u64 7237128888997146477, .int .u64 7816392313619706465, .int .u64 8387220255154660723] 35) = V := ⟨_, rfl⟩
  obtain ⟨b0, hb0⟩ : ∃ b, w.heap.size = b := ⟨_, rfl⟩
  obtain ⟨b1, hb1⟩ : ∃ b, b0 + 1 = b := ⟨_, rfl⟩
  have hz : Row V b0 (cel [0#64, 0#64, 0#64, 0#64]) := by
    rw [← hV, ← hb0]
    exact (row_new w (cel [0#64, 0#64, 0#64, 0#64]) 35).on' ((Below.refl _ _).alloc (Nat.le_refl _) _)
  have hv : Row V b1 (cel [0x736f6d6570736575#64, 0x646f72616e646f6d#64, 0x6c7967656e657261#64, 0x7465646279746573#64]) := by
    rw [← hV, ← hb1, ← hb0]
    have := row_new (w.alloc (.cells #[.int .u64 0, .int .u64 0, .int .u64 0, .int .u64 0] 35)) (cel [0x736f6d6570736575#64, 0x646f72616e646f6d#64, 0x6c7967656e657261#64, 0x7465646279746573#64]) 35
    have e : (w.alloc (.cells #[.int .u64 0, .int .u64 0, .int .u64 0, .int .u64 0] 35)).heap.size = w.heap.size + 1 := by simp
    rw [e] at this
    exact this
  have hwV : But [b0, b1] w V := by rw [← hV]; exact But.of (((Below.refl _ _).alloc (Nat.le_refl _) _).alloc (by simp) _)
  simp only [hV, hb0, hb1]
  clear hV
  refine wp_region_alloc (by kernel_rfl) [.string key, .string A, .int .u64 (nn k), .string key, .string C, .int .u64 (nn l), .agg #[.int .u64 (nn k), .int .u64 (nn l)], .pointer (some ⟨V.heap.size, 0, none⟩), undef] 7 8 (V.drew.alloc (.cells #[.int .u64 0, .int .u64 0] 45)) (V.drew.alloc (.cells #[.int .u64 (nn k), .int .u64 (nn l)] 45)) (by kernel_rfl) (by decide) (by decide) (by kernel_rfl) rfl ?op ?alloc ?store ?fin
  case op =>
    intro i o bx u ho hne1 hne2 hS
    match i, ho with
    | 0, ho =>
      obtain rfl := Option.some.inj ho
      have d0 : bx.tmps.getD 0 undef = .string key := hS.base 0 (by kernel_rfl)
      refine ⟨rfl, rests_value (c := .string key) ?_⟩
      simp [execOp, Act.eval, d0]
    | 1, ho =>
      obtain rfl := Option.some.inj ho
      have d7 : bx.tmps.getD 7 undef = .string key := hS.dep 0 7 (by kernel_rfl) (by kernel_rfl)
      refine ⟨rfl, rests_value (c := .string A) ?_⟩
      simp [Act.eval, d7, go_sem, hA, q8]
    | 2, ho =>
      obtain rfl := Option.some.inj ho
      have d8 : bx.tmps.getD 8 undef = .string A := hS.dep 1 8 (by kernel_rfl) (by kernel_rfl)
      refine ⟨rfl, rests_call (c := .int .u64 (nn k)) (f := 16) (args := #[.string A]) ?_ (unhide HN0 u)⟩
      simp [Act.eval, d8, go_sem]
    | 3, ho =>
      obtain rfl := Option.some.inj ho
      have d0 : bx.tmps.getD 0 undef = .string key := hS.base 0 (by kernel_rfl)
      refine ⟨rfl, rests_value (c := .string key) ?_⟩
      simp [execOp, Act.eval, d0]
    | 4, ho =>
      obtain rfl := Option.some.inj ho
      have d10 : bx.tmps.getD 10 undef = .string key := hS.dep 3 10 (by kernel_rfl) (by kernel_rfl)
      refine ⟨rfl, rests_value (c := .string C) ?_⟩
      simp [Act.eval, d10, go_sem, hC, hk]
    | 5, ho =>
      obtain rfl := Option.some.inj ho
      have d11 : bx.tmps.getD 11 undef = .string C := hS.dep 4 11 (by kernel_rfl) (by kernel_rfl)
      refine ⟨rfl, rests_call (c := .int .u64 (nn l)) (f := 16) (args := #[.string C]) ?_ (unhide HN1 u)⟩
      simp [Act.eval, d11, go_sem]
    | 6, ho =>
      obtain rfl := Option.some.inj ho
      have d9 : bx.tmps.getD 9 undef = .int .u64 (nn k) := hS.dep 2 9 (by kernel_rfl) (by kernel_rfl)
      have q9 : bx.tmps[9]?.getD undef = .int .u64 (nn k) := by rw [← Array.getD_eq_getD_getElem?]; exact d9
      have d12 : bx.tmps.getD 12 undef = .int .u64 (nn l) := hS.dep 5 12 (by kernel_rfl) (by kernel_rfl)
      have q12 : bx.tmps[12]?.getD undef = .int .u64 (nn l) := by rw [← Array.getD_eq_getD_getElem?]; exact d12
      refine ⟨rfl, rests_value (c := .agg #[.int .u64 (nn k), .int .u64 (nn l)]) ?_⟩
      simp [Act.eval, q9, q12, go_sem]
    | 7, _ => exact absurd rfl hne1
    | 8, _ => exact absurd rfl hne2
    | n + 9, ho => exact absurd ho (by simp)
  case alloc =>
    intro o bx ho hS
    obtain rfl := Option.some.inj ho
    refine ⟨rfl, ?_⟩
    simp [go_sem]
  case store =>
    intro o bx ho hS
    obtain rfl := Option.some.inj ho
    have d4 : bx.tmps.getD 4 undef = .pointer (some ⟨V.heap.size, 0, none⟩) := hS.dep 7 4 (by kernel_rfl) (by kernel_rfl)
    have d13 : bx.tmps.getD 13 undef = .agg #[.int .u64 (nn k), .int .u64 (nn l)] := hS.dep 6 13 (by kernel_rfl) (by kernel_rfl)
    refine ⟨rfl, ?_⟩
    simp [Act.eval, d4, d13, go_sem]
  case fin =>
    simp [putAll, dstAt, Act.put]
    have hv1 : Row (V.drew.alloc (.cells #[.int .u64 (nn k), .int .u64 (nn l)] 45)) b1 (cel [0x736f6d6570736575#64, 0x646f72616e646f6d#64, 0x6c7967656e657261#64, 0x7465646279746573#64]) := (row_drew hv).on' ((Below.refl _ _).alloc (Nat.le_refl _) _)
    have hz1 : Row (V.drew.alloc (.cells #[.int .u64 (nn k), .int .u64 (nn l)] 45)) b0 (cel [0#64, 0#64, 0#64, 0#64]) := (row_drew hz).on' ((Below.refl _ _).alloc (Nat.le_refl _) _)
    have hh1 : Row (V.drew.alloc (.cells #[.int .u64 (nn k), .int .u64 (nn l)] 45)) V.heap.size (cel [k, l]) := row_new V.drew (cel [k, l]) 45
    have hB1 : But [b0, b1] V (V.drew.alloc (.cells #[.int .u64 (nn k), .int .u64 (nn l)] 45)) := (But.of ((Below.refl _ _).drew.alloc (Nat.le_refl _) _))
    have hgz : b0 ≠ b1 := by omega
    have hg0 : V.heap.size ≠ b0 := by have := hz.lt; omega
    have hg1 : V.heap.size ≠ b1 := by have := hv.lt; omega
    generalize V.drew.alloc (.cells #[.int .u64 (nn k), .int .u64 (nn l)] 45) = V1 at *
    generalize hg : V.heap.size = g at *
    have k0 := hh1.cell 0 _ (cel_get (xs := [k, l]) (x := k) rfl)
    have k1 := hh1.cell 1 _ (cel_get (xs := [k, l]) (x := l) rfl)
    have HH := hide hh1
    have HV := hide hv1
    have HZ := hide hz1
    have HB := hide (hwV.trans hB1)
    clear hv1 hz1 hB1 hh1 hv hz hwV HN0 HN1 hg
    go_wp2_with fail
    refine wp_loop_rounds 5 ?_
    rw [rounds_succ]
    have cv := (unhide HV).cell 0 _ (cel_get (xs := [0x736f6d6570736575#64, 0x646f72616e646f6d#64, 0x6c7967656e657261#64, 0x7465646279746573#64]) (x := 0x736f6d6570736575#64) rfl)
    have fv := (unhide HV).free 0
    rw [unhide n0] at cv
    go_wp2_with fail
    go_region
    have hv1 : Row (V1.setCell ⟨b1, 0, none⟩ (.int .u64 (nn s0))).drew b1 (cel [s0, 0x646f72616e646f6d#64, 0x6c7967656e657261#64, 0x7465646279746573#64]) := by
      have := (unhide HV).set 0 (.int .u64 (nn s0))
      rw [cel_set] at this
      exact row_drew this
    have hz1 : Row (V1.setCell ⟨b1, 0, none⟩ (.int .u64 (nn s0))).drew b0 (cel [0#64, 0#64, 0#64, 0#64]) := row_drew ((unhide HZ).other hgz 0 _)
    have hh1 : Row (V1.setCell ⟨b1, 0, none⟩ (.int .u64 (nn s0))).drew g (cel [k, l]) := row_drew ((unhide HH).other hg1 0 _)
    have hB1 := ((unhide HB).setCell (g := b1) (by simp) 0 (.int .u64 (nn s0))).drew
    generalize (V1.setCell ⟨b1, 0, none⟩ (.int .u64 (nn s0))).drew = W1 at *
    have k0 := hh1.cell 0 _ (cel_get (xs := [k, l]) (x := k) rfl)
    have k1 := hh1.cell 1 _ (cel_get (xs := [k, l]) (x := l) rfl)
    have HH := hide hh1
    have HV := hide hv1
    have HZ := hide hz1
    have HB := hide hB1
    clear hv1 hz1 hB1 hh1 cv fv
    go_wp2_with fail
    rw [rounds_succ]
    have cv := (unhide HV).cell 1 _ (cel_get (xs := [s0, 0x646f72616e646f6d#64, 0x6c7967656e657261#64, 0x7465646279746573#64]) (x := 0x646f72616e646f6d#64) rfl)
    have fv := (unhide HV).free 1
    rw [unhide n1] at cv
    go_wp2_with fail
    go_region
    have hv1 : Row (W1.setCell ⟨b1, 1, none⟩ (.int .u64 (nn s1))).drew b1 (cel [s0, s1, 0x6c7967656e657261#64, 0x7465646279746573#64]) := by
      have := (unhide HV).set 1 (.int .u64 (nn s1))
      rw [cel_set] at this
      exact row_drew this
    have hz1 : Row (W1.setCell ⟨b1, 1, none⟩ (.int .u64 (nn s1))).drew b0 (cel [0#64, 0#64, 0#64, 0#64]) := row_drew ((unhide HZ).other hgz 1 _)
    have hh1 : Row (W1.setCell ⟨b1, 1, none⟩ (.int .u64 (nn s1))).drew g (cel [k, l]) := row_drew ((unhide HH).other hg1 1 _)
    have hB1 := ((unhide HB).setCell (g := b1) (by simp) 1 (.int .u64 (nn s1))).drew
    generalize (W1.setCell ⟨b1, 1, none⟩ (.int .u64 (nn s1))).drew = W2 at *
    have k0 := hh1.cell 0 _ (cel_get (xs := [k, l]) (x := k) rfl)
    have k1 := hh1.cell 1 _ (cel_get (xs := [k, l]) (x := l) rfl)
    have HH := hide hh1
    have HV := hide hv1
    have HZ := hide hz1
    have HB := hide hB1
    clear hv1 hz1 hB1 hh1 cv fv
    go_wp2_with fail
    rw [rounds_succ]
    have cv := (unhide HV).cell 2 _ (cel_get (xs := [s0, s1, 0x6c7967656e657261#64, 0x7465646279746573#64]) (x := 0x6c7967656e657261#64) rfl)
    have fv := (unhide HV).free 2
    rw [unhide n2] at cv
    go_wp2_with fail
    go_region
    have hv1 : Row (W2.setCell ⟨b1, 2, none⟩ (.int .u64 (nn s2))).drew b1 (cel [s0, s1, s2, 0x7465646279746573#64]) := by
      have := (unhide HV).set 2 (.int .u64 (nn s2))
      rw [cel_set] at this
      exact row_drew this
    have hz1 : Row (W2.setCell ⟨b1, 2, none⟩ (.int .u64 (nn s2))).drew b0 (cel [0#64, 0#64, 0#64, 0#64]) := row_drew ((unhide HZ).other hgz 2 _)
    have hh1 : Row (W2.setCell ⟨b1, 2, none⟩ (.int .u64 (nn s2))).drew g (cel [k, l]) := row_drew ((unhide HH).other hg1 2 _)
    have hB1 := ((unhide HB).setCell (g := b1) (by simp) 2 (.int .u64 (nn s2))).drew
    generalize (W2.setCell ⟨b1, 2, none⟩ (.int .u64 (nn s2))).drew = W3 at *
    have k0 := hh1.cell 0 _ (cel_get (xs := [k, l]) (x := k) rfl)
    have k1 := hh1.cell 1 _ (cel_get (xs := [k, l]) (x := l) rfl)
    have HH := hide hh1
    have HV := hide hv1
    have HZ := hide hz1
    have HB := hide hB1
    clear hv1 hz1 hB1 hh1 cv fv
    go_wp2_with fail
    rw [rounds_succ]
    have cv := (unhide HV).cell 3 _ (cel_get (xs := [s0, s1, s2, 0x7465646279746573#64]) (x := 0x7465646279746573#64) rfl)
    have fv := (unhide HV).free 3
    rw [unhide n3] at cv
    go_wp2_with fail
    go_region
    have hv1 : Row (W3.setCell ⟨b1, 3, none⟩ (.int .u64 (nn s3))).drew b1 (cel [s0, s1, s2, s3]) := by
      have := (unhide HV).set 3 (.int .u64 (nn s3))
      rw [cel_set] at this
      exact row_drew this
    have hz1 : Row (W3.setCell ⟨b1, 3, none⟩ (.int .u64 (nn s3))).drew b0 (cel [0#64, 0#64, 0#64, 0#64]) := row_drew ((unhide HZ).other hgz 3 _)
    have hh1 : Row (W3.setCell ⟨b1, 3, none⟩ (.int .u64 (nn s3))).drew g (cel [k, l]) := row_drew ((unhide HH).other hg1 3 _)
    have hB1 := ((unhide HB).setCell (g := b1) (by simp) 3 (.int .u64 (nn s3))).drew
    generalize (W3.setCell ⟨b1, 3, none⟩ (.int .u64 (nn s3))).drew = W4 at *
    have k0 := hh1.cell 0 _ (cel_get (xs := [k, l]) (x := k) rfl)
    have k1 := hh1.cell 1 _ (cel_get (xs := [k, l]) (x := l) rfl)
    have HH := hide hh1
    have HV := hide hv1
    have HZ := hide hz1
    have HB := hide hB1
    clear hv1 hz1 hB1 hh1 cv fv
    go_wp2_with fail
    rw [rounds_succ]
    have c0 := (unhide HV).cell 0 _ (cel_get (xs := [s0, s1, s2, s3]) (x := s0) rfl)
    have c1 := (unhide HV).cell 1 _ (cel_get (xs := [s0, s1, s2, s3]) (x := s1) rfl)
    have c2 := (unhide HV).cell 2 _ (cel_get (xs := [s0, s1, s2, s3]) (x := s2) rfl)
    have c3 := (unhide HV).cell 3 _ (cel_get (xs := [s0, s1, s2, s3]) (x := s3) rfl)
    have z0 := (unhide HZ).cell 0 _ (cel_get (xs := [0#64, 0#64, 0#64, 0#64]) (x := 0#64) rfl)
    have y0 := (unhide HZ).free 0
    have z1 := (unhide HZ).cell 1 _ (cel_get (xs := [0#64, 0#64, 0#64, 0#64]) (x := 0#64) rfl)
    have y1 := (unhide HZ).free 1
    have z2 := (unhide HZ).cell 2 _ (cel_get (xs := [0#64, 0#64, 0#64, 0#64]) (x := 0#64) rfl)
    have y2 := (unhide HZ).free 2
    have z3 := (unhide HZ).cell 3 _ (cel_get (xs := [0#64, 0#64, 0#64, 0#64]) (x := 0#64) rfl)
    have y3 := (unhide HZ).free 3
    have HW : Hid (Row (setRow W4 b0 0 (cel [s0, s1, s2, s3])) b0 (cel [s0, s1, s2, s3])) := row_all _ (unhide HZ) rfl
    have HWB := hide ((unhide HB).setRow (g := b0) (by simp) 0 (cel [s0, s1, s2, s3]))
    have HS : Hid (setRow W4 b0 0 (cel [s0, s1, s2, s3]) = (((W4.setCell ⟨b0, 0, none⟩ (.int .u64 (nn s0))).setCell ⟨b0, 1, none⟩ (.int .u64 (nn s1))).setCell ⟨b0, 2, none⟩ (.int .u64 (nn s2))).setCell ⟨b0, 3, none⟩ (.int .u64 (nn s3))) := rfl
    go_wp2_with fail
    rw [← unhide HS]
    clear HS c0 c1 c2 c3 z0 z1 z2 z3 y0 y1 y2 y3
    generalize setRow W4 b0 0 (cel [s0, s1, s2, s3]) = Z at *
    have hw := unhide HW
    have g0 := hw.cell 0 _ (cel_get (xs := [s0, s1, s2, s3]) (x := s0) rfl)
    have g1 := hw.cell 1 _ (cel_get (xs := [s0, s1, s2, s3]) (x := s1) rfl)
    have g2 := hw.cell 2 _ (cel_get (xs := [s0, s1, s2, s3]) (x := s2) rfl)
    have g3 := hw.cell 3 _ (cel_get (xs := [s0, s1, s2, s3]) (x := s3) rfl)
    refine bodyPost_ret (v := .agg #[.int .u64 (nn s0), .int .u64 (nn s1), .int .u64 (nn s2), .int .u64 (nn s3)]) ?_ rfl ⟨by rw [unhide f0, unhide f1, unhide f2, unhide f3]; rfl, ?_⟩
    · simp [results, Try.results14, go_sem, g0, g1, g2, g3]
    · exact (unhide HWB).below (Below.refl _ _) (by intro x hx; simp at hx; omega)
end Go.Proofs.Ytbiilgdgmedpkaa
