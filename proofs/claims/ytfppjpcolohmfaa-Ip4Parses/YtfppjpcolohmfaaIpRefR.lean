/- What the reference's Right computes: the same as Right. -/
import Derived.Test.YtfppjpcolohmfaaIpRight
namespace Go.Proofs.Ytfppjpcolohmfaa
open Go.ChangeShapes Go.WideShapes Go.ChangeAt Go.RowKit

theorem rin_any (n m : Int) (w : World) : Calls Try.prog 30 #[.int .i64 n, .int .i64 m] w fun e w' => e = .returned (.bool (inB n m)) ∧ w' = w := in_any n m w

set_option maxRecDepth 100000 in
set_option maxHeartbeats 4000000 in
theorem rright_any (h : Hd) (w : World) (hw : h.Wf) :
    Calls Try.prog 15 #[h.val] w fun e w' => e = .returned (.bool (rightB h)) ∧ Below w.heap.size w w' := by
  have hos := hw.opts
  have hsz9 : (h.opts.size : Int) ≤ 140737488355328 := by omega
  clear hw
  cases t0 : inB h.tos 255 with
  | false =>
    have HR : Hid (rightB h = false) := by show _ = _; unfold rightB; rw [t0]; simp
    go_enter Try.func15, Try.ntmps15
    go_wp2_with fail
    refine (roptsRight_any _ _ hos).mono ?_
    rintro e w1 ⟨rfl, rfl⟩
    go_wp2_with fail
    refine (rin_any _ _ _).mono ?_
    rintro e w1 ⟨rfl, rfl⟩
    rw [t0]
    go_wp2_with fail
    go_ret
    refine ⟨ret_bool HR.out.symm, ?_⟩
    (repeat first | exact Below.refl _ _ | refine Below.drew ?_ | refine Below.alloc ?_ (by simp <;> omega) _ | refine Below.setCell ?_ (by simp <;> omega) _)
  | true =>
    cases t1 : inB h.ttl 255 with
    | false =>
      have HR : Hid (rightB h = false) := by show _ = _; unfold rightB; rw [t0]; rw [t1]; simp
      go_enter Try.func15, Try.ntmps15
      go_wp2_with fail
      refine (roptsRight_any _ _ hos).mono ?_
      rintro e w1 ⟨rfl, rfl⟩
      go_wp2_with fail
      refine (rin_any _ _ _).mono ?_
      rintro e w1 ⟨rfl, rfl⟩
      rw [t0]
      go_wp2_with fail
      refine (rin_any _ _ _).mono ?_
      rintro e w1 ⟨rfl, rfl⟩
      rw [t1]
      go_wp2_with fail
      go_ret
      refine ⟨ret_bool HR.out.symm, ?_⟩
      (repeat first | exact Below.refl _ _ | refine Below.drew ?_ | refine Below.alloc ?_ (by simp <;> omega) _ | refine Below.setCell ?_ (by simp <;> omega) _)
    | true =>
      cases t2 : inB h.proto 255 with
      | false =>
        have HR : Hid (rightB h = false) := by show _ = _; unfold rightB; rw [t0]; rw [t1]; rw [t2]; simp
        go_enter Try.func15, Try.ntmps15
        go_wp2_with fail
        refine (roptsRight_any _ _ hos).mono ?_
        rintro e w1 ⟨rfl, rfl⟩
        go_wp2_with fail
        refine (rin_any _ _ _).mono ?_
        rintro e w1 ⟨rfl, rfl⟩
        rw [t0]
        go_wp2_with fail
        refine (rin_any _ _ _).mono ?_
        rintro e w1 ⟨rfl, rfl⟩
        rw [t1]
        go_wp2_with fail
        refine (rin_any _ _ _).mono ?_
        rintro e w1 ⟨rfl, rfl⟩
        rw [t2]
        go_wp2_with fail
        go_ret
        refine ⟨ret_bool HR.out.symm, ?_⟩
        (repeat first | exact Below.refl _ _ | refine Below.drew ?_ | refine Below.alloc ?_ (by simp <;> omega) _ | refine Below.setCell ?_ (by simp <;> omega) _)
      | true =>
        cases t3 : inB h.id 65535 with
        | false =>
          have HR : Hid (rightB h = false) := by show _ = _; unfold rightB; rw [t0]; rw [t1]; rw [t2]; rw [t3]; simp
          go_enter Try.func15, Try.ntmps15
          go_wp2_with fail
          refine (roptsRight_any _ _ hos).mono ?_
          rintro e w1 ⟨rfl, rfl⟩
          go_wp2_with fail
          refine (rin_any _ _ _).mono ?_
          rintro e w1 ⟨rfl, rfl⟩
          rw [t0]
          go_wp2_with fail
          refine (rin_any _ _ _).mono ?_
          rintro e w1 ⟨rfl, rfl⟩
          rw [t1]
          go_wp2_with fail
          refine (rin_any _ _ _).mono ?_
          rintro e w1 ⟨rfl, rfl⟩
          rw [t2]
          go_wp2_with fail
          refine (rin_any _ _ _).mono ?_
          rintro e w1 ⟨rfl, rfl⟩
          rw [t3]
          go_wp2_with fail
          go_ret
          refine ⟨ret_bool HR.out.symm, ?_⟩
          (repeat first | exact Below.refl _ _ | refine Below.drew ?_ | refine Below.alloc ?_ (by simp <;> omega) _ | refine Below.setCell ?_ (by simp <;> omega) _)
        | true =>
          cases t4 : inB h.flags 7 with
          | false =>
            have HR : Hid (rightB h = false) := by show _ = _; unfold rightB; rw [t0]; rw [t1]; rw [t2]; rw [t3]; rw [t4]; simp
            go_enter Try.func15, Try.ntmps15
            go_wp2_with fail
            refine (roptsRight_any _ _ hos).mono ?_
            rintro e w1 ⟨rfl, rfl⟩
            go_wp2_with fail
            refine (rin_any _ _ _).mono ?_
            rintro e w1 ⟨rfl, rfl⟩
            rw [t0]
            go_wp2_with fail
            refine (rin_any _ _ _).mono ?_
            rintro e w1 ⟨rfl, rfl⟩
            rw [t1]
            go_wp2_with fail
            refine (rin_any _ _ _).mono ?_
            rintro e w1 ⟨rfl, rfl⟩
            rw [t2]
            go_wp2_with fail
            refine (rin_any _ _ _).mono ?_
            rintro e w1 ⟨rfl, rfl⟩
            rw [t3]
            go_wp2_with fail
            refine (rin_any _ _ _).mono ?_
            rintro e w1 ⟨rfl, rfl⟩
            rw [t4]
            go_wp2_with fail
            go_ret
            refine ⟨ret_bool HR.out.symm, ?_⟩
            (repeat first | exact Below.refl _ _ | refine Below.drew ?_ | refine Below.alloc ?_ (by simp <;> omega) _ | refine Below.setCell ?_ (by simp <;> omega) _)
          | true =>
            cases t5 : inB h.frag 8191 with
            | false =>
              have HR : Hid (rightB h = false) := by show _ = _; unfold rightB; rw [t0]; rw [t1]; rw [t2]; rw [t3]; rw [t4]; rw [t5]; simp
              go_enter Try.func15, Try.ntmps15
              go_wp2_with fail
              refine (roptsRight_any _ _ hos).mono ?_
              rintro e w1 ⟨rfl, rfl⟩
              go_wp2_with fail
              refine (rin_any _ _ _).mono ?_
              rintro e w1 ⟨rfl, rfl⟩
              rw [t0]
              go_wp2_with fail
              refine (rin_any _ _ _).mono ?_
              rintro e w1 ⟨rfl, rfl⟩
              rw [t1]
              go_wp2_with fail
              refine (rin_any _ _ _).mono ?_
              rintro e w1 ⟨rfl, rfl⟩
              rw [t2]
              go_wp2_with fail
              refine (rin_any _ _ _).mono ?_
              rintro e w1 ⟨rfl, rfl⟩
              rw [t3]
              go_wp2_with fail
              refine (rin_any _ _ _).mono ?_
              rintro e w1 ⟨rfl, rfl⟩
              rw [t4]
              go_wp2_with fail
              refine (rin_any _ _ _).mono ?_
              rintro e w1 ⟨rfl, rfl⟩
              rw [t5]
              go_wp2_with fail
              go_ret
              refine ⟨ret_bool HR.out.symm, ?_⟩
              (repeat first | exact Below.refl _ _ | refine Below.drew ?_ | refine Below.alloc ?_ (by simp <;> omega) _ | refine Below.setCell ?_ (by simp <;> omega) _)
            | true =>
              by_cases h40 : h.opts.size ≤ 40
              case neg =>
                have HR : Hid (rightB h = false) := by show _ = _; unfold rightB optB; rw [t0]; rw [t1]; rw [t2]; rw [t3]; rw [t4]; rw [t5]; rw [decide_eq_false h40]; simp
                have hd : decide ((h.opts.size : Int) ≤ 40) = false := by simp; omega
                go_enter Try.func15, Try.ntmps15
                go_wp2_with fail
                refine (roptsRight_any _ _ hos).mono ?_
                rintro e w1 ⟨rfl, rfl⟩
                go_wp2_with fail
                refine (rin_any _ _ _).mono ?_
                rintro e w1 ⟨rfl, rfl⟩
                rw [t0]
                go_wp2_with fail
                refine (rin_any _ _ _).mono ?_
                rintro e w1 ⟨rfl, rfl⟩
                rw [t1]
                go_wp2_with fail
                refine (rin_any _ _ _).mono ?_
                rintro e w1 ⟨rfl, rfl⟩
                rw [t2]
                go_wp2_with fail
                refine (rin_any _ _ _).mono ?_
                rintro e w1 ⟨rfl, rfl⟩
                rw [t3]
                go_wp2_with fail
                refine (rin_any _ _ _).mono ?_
                rintro e w1 ⟨rfl, rfl⟩
                rw [t4]
                go_wp2_with fail
                refine (rin_any _ _ _).mono ?_
                rintro e w1 ⟨rfl, rfl⟩
                rw [t5]
                go_wp2_with fail
                go_ret
                refine ⟨ret_bool HR.out.symm, ?_⟩
                (repeat first | exact Below.refl _ _ | refine Below.drew ?_ | refine Below.alloc ?_ (by simp <;> omega) _ | refine Below.setCell ?_ (by simp <;> omega) _)
              case pos =>
                have hd : decide ((h.opts.size : Int) ≤ 40) = true := by simp; omega
                by_cases h4 : h.opts.size % 4 = 0
                case neg =>
                  have HR : Hid (rightB h = false) := by show _ = _; unfold rightB optB; rw [t0]; rw [t1]; rw [t2]; rw [t3]; rw [t4]; rw [t5]; rw [decide_eq_false h4]; simp
                  have hd4 : ((h.opts.size : Int) % 4 == 0) = false := by simp; omega
                  go_enter Try.func15, Try.ntmps15
                  go_wp2_with fail
                  refine (roptsRight_any _ _ hos).mono ?_
                  rintro e w1 ⟨rfl, rfl⟩
                  go_wp2_with fail
                  refine (rin_any _ _ _).mono ?_
                  rintro e w1 ⟨rfl, rfl⟩
                  rw [t0]
                  go_wp2_with fail
                  refine (rin_any _ _ _).mono ?_
                  rintro e w1 ⟨rfl, rfl⟩
                  rw [t1]
                  go_wp2_with fail
                  refine (rin_any _ _ _).mono ?_
                  rintro e w1 ⟨rfl, rfl⟩
                  rw [t2]
                  go_wp2_with fail
                  refine (rin_any _ _ _).mono ?_
                  rintro e w1 ⟨rfl, rfl⟩
                  rw [t3]
                  go_wp2_with fail
                  refine (rin_any _ _ _).mono ?_
                  rintro e w1 ⟨rfl, rfl⟩
                  rw [t4]
                  go_wp2_with fail
                  refine (rin_any _ _ _).mono ?_
                  rintro e w1 ⟨rfl, rfl⟩
                  rw [t5]
                  go_wp2_with fail
                  go_ret
                  refine ⟨ret_bool HR.out.symm, ?_⟩
                  (repeat first | exact Below.refl _ _ | refine Below.drew ?_ | refine Below.alloc ?_ (by simp <;> omega) _ | refine Below.setCell ?_ (by simp <;> omega) _)
                case pos =>
                  have HR : Hid (rightB h = optsOk h.opts.data.toList) := by show _ = _; unfold rightB optB; rw [t0]; rw [t1]; rw [t2]; rw [t3]; rw [t4]; rw [t5]; rw [decide_eq_true h40, decide_eq_true h4]; simp
                  have hd4 : ((h.opts.size : Int) % 4 == 0) = true := by simp; omega
                  go_enter Try.func15, Try.ntmps15
                  go_wp2_with fail
                  refine (roptsRight_any _ _ hos).mono ?_
                  rintro e w1 ⟨rfl, rfl⟩
                  go_wp2_with fail
                  refine (rin_any _ _ _).mono ?_
                  rintro e w1 ⟨rfl, rfl⟩
                  rw [t0]
                  go_wp2_with fail
                  refine (rin_any _ _ _).mono ?_
                  rintro e w1 ⟨rfl, rfl⟩
                  rw [t1]
                  go_wp2_with fail
                  refine (rin_any _ _ _).mono ?_
                  rintro e w1 ⟨rfl, rfl⟩
                  rw [t2]
                  go_wp2_with fail
                  refine (rin_any _ _ _).mono ?_
                  rintro e w1 ⟨rfl, rfl⟩
                  rw [t3]
                  go_wp2_with fail
                  refine (rin_any _ _ _).mono ?_
                  rintro e w1 ⟨rfl, rfl⟩
                  rw [t4]
                  go_wp2_with fail
                  refine (rin_any _ _ _).mono ?_
                  rintro e w1 ⟨rfl, rfl⟩
                  rw [t5]
                  go_wp2_with fail
                  go_ret
                  refine ⟨ret_bool HR.out.symm, ?_⟩
                  (repeat first | exact Below.refl _ _ | refine Below.drew ?_ | refine Below.alloc ?_ (by simp <;> omega) _ | refine Below.setCell ?_ (by simp <;> omega) _)
end Go.Proofs.Ytfppjpcolohmfaa
