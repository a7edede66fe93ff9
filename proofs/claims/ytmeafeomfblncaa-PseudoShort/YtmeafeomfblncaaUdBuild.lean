/- What text and Build of package udp compute: one contract a function. -/
import Derived.Test.YtmeafeomfblncaaUdMath
namespace Go.Proofs.Ytmeafeomfblncaa
open Go.ChangeShapes Go.WideShapes Go.ChangeAt Go.RowKit

theorem put2_any (n : Int) (w : World) : Calls Try.prog 34 #[.int .i64 2, .int .i64 n] w fun e w' => e = .returned (.tuple #[.string (laid 2 n), .bool (inP n)]) ∧ Below w.heap.size w w' := by
  have h := put_any 2 n w
  rw [laidB_two] at h
  exact h

set_option maxHeartbeats 1000000 in
theorem text_any (a b : Int) (g : Nat) (w : World) (hr : Rds w g [a, b]) :
    Calls Try.prog 32 #[.slice (some ⟨g, 0, none⟩) 2 2] w fun e w' => e = .returned (.tuple #[.string (textS a b), .bool (textB a b)]) ∧ Below w.heap.size w w' := by
  have c0 : w.cell? ⟨g, 0, none⟩ = some (.int .i64 a) := hr 0 (by simp)
  have HR := hide hr
  have e1 : (⟨#[]⟩ : ByteArray) ++ laid 2 a = laid 2 a := Oct.ba_ext (by rw [app_list]; rfl)
  have ha := add_run ⟨#[]⟩ (laid 2 a) (by decide) (by have := laid_size 2 a; omega)
  have hb := add_run (laid 2 a) (laid 2 b) (by have := laid_size 2 a; omega) (by have := laid_size 2 b; omega)
  rw [e1] at ha
  have HA := hide (put2_any a)
  have HP := hide (put2_any b)
  clear hr e1
  cases ea : inP a with
  | false =>
    have HB : Hid (textB a b = false) := by show _ = _; unfold textB; rw [ea]; rfl
    have HS : Hid (textS a b = ⟨#[]⟩) := by show _ = _; unfold textS; rw [HB.out, if_neg (by decide)]
    rw [ea] at HA
    generalize laid 2 a = A at *
    go_enter Try.func32, Try.ntmps32
    go_wp2
    refine wp_loop_rounds 1 ?_
    rw [rounds_succ]
    go_wp2_with fail
    refine (unhide HA _).mono ?_
    rintro e w1 ⟨rfl, hb1⟩
    have HB1 := hide hb1
    clear hb1
    go_wp2_with fail
    go_ret2
    exact ⟨ret_sb HS.out.symm HB.out.symm, unhide HB1⟩
  | true =>
    rw [ea] at HA
    cases eb : inP b with
    | false =>
      have HB : Hid (textB a b = false) := by show _ = _; unfold textB; rw [ea, eb]; rfl
      have HS : Hid (textS a b = ⟨#[]⟩) := by show _ = _; unfold textS; rw [HB.out, if_neg (by decide)]
      rw [eb] at HP
      generalize laid 2 a = A at *
      generalize laid 2 b = B at *
      go_enter Try.func32, Try.ntmps32
      go_wp2
      refine wp_loop_rounds 2 ?_
      rw [rounds_succ]
      go_wp2_with fail
      refine (unhide HA _).mono ?_
      rintro e w1 ⟨rfl, hb1⟩
      have c1 : w1.cell? ⟨g, 1, none⟩ = some (.int .i64 b) := (unhide HR).on hb1 1 (by simp)
      have HB1 := hide hb1
      clear hb1
      go_wp2_with fail
      rw [rounds_succ]
      go_wp2_with fail
      refine (unhide HP _).mono ?_
      rintro e w2 ⟨rfl, hb2⟩
      have HB2 := hide (Below.then (unhide HB1) hb2)
      clear hb2
      go_wp2_with fail
      go_ret2
      exact ⟨ret_sb HS.out.symm HB.out.symm, unhide HB2⟩
    | true =>
      have HB : Hid (textB a b = true) := by show _ = _; unfold textB; rw [ea, eb]; rfl
      have HS : Hid (textS a b = laid 2 a ++ laid 2 b) := by show _ = _; unfold textS; rw [HB.out, if_pos rfl]
      rw [eb] at HP
      generalize laid 2 a = A at *
      generalize laid 2 b = B at *
      go_enter Try.func32, Try.ntmps32
      go_wp2
      refine wp_loop_rounds 3 ?_
      rw [rounds_succ]
      go_wp2_with fail
      refine (unhide HA _).mono ?_
      rintro e w1 ⟨rfl, hb1⟩
      have c1 : w1.cell? ⟨g, 1, none⟩ = some (.int .i64 b) := (unhide HR).on hb1 1 (by simp)
      have HB1 := hide hb1
      clear hb1
      go_wp2_with fail
      rw [rounds_succ]
      go_wp2_with fail
      refine (unhide HP _).mono ?_
      rintro e w2 ⟨rfl, hb2⟩
      have HB2 := hide (Below.then (unhide HB1) hb2)
      clear hb2
      go_wp2_with fail
      rw [rounds_succ]
      go_wp2_with fail
      go_ret2
      exact ⟨ret_sb HS.out.symm HB.out.symm, unhide HB2⟩

set_option maxHeartbeats 1000000 in
theorem build_any (a b : Int) (body : ByteArray) (w : World) (hbody : body.size ≤ 140737488355328) :
    Calls Try.prog 18 #[.int .i64 a, .int .i64 b, .string body] w fun e w' => e = .returned (.tuple #[.string (buildS a b body), .int .i64 (buildE a b body)]) ∧ Below w.heap.size w w' := by
  have HT := hide (fun (x y : Int) (u : World) => text_any x y u.heap.size (u.alloc (.cells #[.int .i64 x, .int .i64 y] 3)) (rds_new2 u _ x y))
  cases ht : textB a b with
  | false =>
    have HE : Hid (buildE a b body = 1) := by show _ = _; unfold buildE; rw [if_pos ht]
    have HS : Hid (buildS a b body = ⟨#[]⟩) := buildS_no (by rw [HE.out]; decide)
    have H1 := hide (fun u => unhide HT a b u)
    rw [ht] at H1
    generalize textS a b = TA at *
    go_enter Try.func18, Try.ntmps18
    go_wp2_with fail
    refine (unhide H1 _).mono ?_
    rintro e w1 ⟨rfl, hb1⟩
    have HB1 := hide (Below.then ((Below.refl w.heap.size w).alloc (Nat.le_refl _) _) hb1)
    clear hb1
    go_wp2_with fail
    go_ret2
    exact ⟨ret_si HS.out.symm HE.out.symm, unhide HB1⟩
  | true =>
    have H1 := hide (fun u => unhide HT a b u)
    rw [ht] at H1
    by_cases hl : 1500 < 8 + (body.size : Int)
    · have HE : Hid (buildE a b body = 18) := by show _ = _; unfold buildE; rw [if_neg (by rw [ht]; decide), if_pos hl]
      have HS : Hid (buildS a b body = ⟨#[]⟩) := buildS_no (by rw [HE.out]; decide)
      have hd : decide (1500 < 8 + (body.size : Int)) = true := by simpa using hl
      generalize textS a b = TA at *
      go_enter Try.func18, Try.ntmps18
      go_wp2_with fail
      refine (unhide H1 _).mono ?_
      rintro e w1 ⟨rfl, hb1⟩
      have HB1 := hide (Below.then ((Below.refl w.heap.size w).alloc (Nat.le_refl _) _) hb1)
      clear hb1
      go_wp2_with fail
      go_ret2
      exact ⟨ret_si HS.out.symm HE.out.symm, unhide HB1⟩
    · have HE : Hid (buildE a b body = 0) := by show _ = _; unfold buildE; rw [if_neg (by rw [ht]; decide), if_neg hl]
      have hd : decide (1500 < 8 + (body.size : Int)) = false := by simpa using hl
      have h2 : textB (8 + (body.size : Int)) 0 = true := by
        unfold textB; rw [(inP_iff _).2 (by omega), (inP_iff _).2 (by omega)]; rfl
      have HS : Hid (buildS a b body = textS a b ++ textS (8 + (body.size : Int)) 0 ++ body) := by
        show _ = _
        rw [buildS_of HE.out]; unfold built textS; rw [if_pos ht, if_pos h2]
      have H2 := hide (fun u => unhide HT (8 + (body.size : Int)) 0 u)
      rw [h2] at H2
      have z1 := textS_size a b
      have z2 := textS_size (8 + (body.size : Int)) 0
      generalize textS a b = TA at *
      generalize textS (8 + (body.size : Int)) 0 = TR at *
      have a1 := add_run TA TR (by omega) (by omega)
      have a2 := add_run (TA ++ TR) body (by rw [ByteArray.size_append]; omega) (by omega)
      generalize hM : TA ++ TR = M at *
      clear h2 z1 z2 HT
      go_enter Try.func18, Try.ntmps18
      go_wp2_with fail
      refine (unhide H1 _).mono ?_
      rintro e w1 ⟨rfl, hb1⟩
      have HB1 := hide (Below.then ((Below.refl w.heap.size w).alloc (Nat.le_refl _) _) hb1)
      clear hb1
      go_wp2_with fail
      refine (unhide H2 _).mono ?_
      rintro e w2 ⟨rfl, hb2⟩
      have HB2 := hide (Below.then (unhide HB1) (Below.then ((Below.refl w1.heap.size w1).alloc (Nat.le_refl _) _) hb2))
      clear hb2
      go_wp2_with fail
      go_ret2
      exact ⟨ret_si HS.out.symm HE.out.symm, unhide HB2⟩
end Go.Proofs.Ytmeafeomfblncaa
