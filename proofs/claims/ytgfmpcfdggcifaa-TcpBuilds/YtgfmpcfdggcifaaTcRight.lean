/- What Right computes, and the reference's Right: each field has room, and the options are right. -/
import Derived.Test.YtgfmpcfdggcifaaTcHd
import Derived.Test.YtgfmpcfdggcifaaTcVar
import Derived.Test.YtgfmpcfdggcifaaIpOpts
namespace Go.Proofs.Ytgfmpcfdggcifaa
open Go.ChangeShapes Go.WideShapes Go.ChangeAt Go.RowKit

theorem reads_at1 (w : World) (t : TypeId) (a : Int) (g : Nat) (hg : w.heap.size = g) : Reads (w.alloc (.cells #[.int .i64 a] t)) g [a] := by subst hg; exact reads_new1 w t a
theorem reads_at2 (w : World) (t : TypeId) (a b : Int) (g : Nat) (hg : w.heap.size = g) : Reads (w.alloc (.cells #[.int .i64 a, .int .i64 b] t)) g [a, b] := by subst hg; exact reads_new2 w t a b
theorem reads_at4 (w : World) (t : TypeId) (a b c d : Int) (g : Nat) (hg : w.heap.size = g) : Reads (w.alloc (.cells #[.int .i64 a, .int .i64 b, .int .i64 c, .int .i64 d] t)) g [a, b, c, d] := by subst hg; exact reads_new4 w t a b c d

set_option maxHeartbeats 400000 in
theorem toptsRight_any (s : ByteArray) (w : World) (hs : s.size ≤ 140737488355328) :
    Calls Try.prog 16 #[.string s] w fun e w' => e = .returned (.bool (optsOk s.data.toList)) ∧ w' = w := by
  go_enter Try.func16, Try.ntmps16
  go_wp2_with fail
  refine (optsRight_any s _ hs).mono ?_
  rintro e w' ⟨rfl, rfl⟩
  go_wp2_with fail
  go_ret
  exact ⟨rfl, rfl⟩

def inB (n m : Int) : Bool := decide (0 ≤ n) && decide (n ≤ m)
def optB (o : ByteArray) : Bool := decide (o.size ≤ 40) && decide (o.size % 4 = 0) && optsOk o.data.toList
def portsB (h : Hd) : Bool := okAll 65535 [h.src, h.dst, h.win, h.urg]
def flagsB (h : Hd) : Bool := okAll 4095 [h.flags]
def rightB (h : Hd) : Bool := portsB h && flagsB h && optB h.opts
theorem inB_iff (n m : Int) : inB n m = true ↔ 0 ≤ n ∧ n ≤ m := by unfold inB; simp
theorem portsB_in (h : Hd) : portsB h = (inB h.src 65535 && inB h.dst 65535 && inB h.win 65535 && inB h.urg 65535) := by
  unfold portsB okAll inB; simp [Bool.and_assoc]
theorem flagsB_in (h : Hd) : flagsB h = inB h.flags 4095 := by unfold flagsB okAll inB; simp
theorem word_any (n : Int) (w : World) : Calls Try.prog 25 #[.int .i64 n] w fun e w' => e = .returned (.bool (inB n 65535)) ∧ w' = w := by
  unfold inB
  by_cases h0 : 0 ≤ n
  · rw [decide_eq_true h0, Bool.true_and]
    go_enter Try.func25, Try.ntmps25
    go_wp2_with fail
    go_ret
    exact ⟨rfl, rfl⟩
  · rw [decide_eq_false h0, Bool.false_and]
    go_enter Try.func25, Try.ntmps25
    go_wp2_with fail
    go_ret
    exact ⟨rfl, rfl⟩

set_option maxRecDepth 100000 in
set_option maxHeartbeats 4000000 in
theorem tright_any (h : Hd) (w : World) (hw : h.Wf) :
    Calls Try.prog 14 #[h.val] w fun e w' => e = .returned (.bool (rightB h)) ∧ Below w.heap.size w w' := by
  have hos := hw.opts
  have hsz9 : (h.opts.size : Int) ≤ 140737488355328 := by omega
  clear hw
  cases t0 : portsB h with
  | false =>
    have HR : Hid (rightB h = false) := by show _ = _; unfold rightB; rw [t0]; rfl
    go_enter Try.func14, Try.ntmps14
    go_wp2_with fail
    refine (twithin_any 65535 [h.src, h.dst, h.win, h.urg] 4 _ _ rfl (by decide) (reads_at4 _ _ _ _ _ _ _ (by simp))).mono ?_
    rintro e w1 ⟨rfl, hq⟩
    have hq := hq.symm
    subst hq
    rw [show okAll 65535 [h.src, h.dst, h.win, h.urg] = false from t0]
    go_wp2_with fail
    go_ret
    refine ⟨ret_bool HR.out.symm, ?_⟩
    (repeat first | exact Below.refl _ _ | refine Below.drew ?_ | refine Below.alloc ?_ (by simp <;> omega) _ | refine Below.setCell ?_ (by simp <;> omega) _)
  | true =>
    cases t1 : flagsB h with
    | false =>
      have HR : Hid (rightB h = false) := by show _ = _; unfold rightB; rw [t0, t1]; rfl
      go_enter Try.func14, Try.ntmps14
      go_wp2_with fail
      refine (twithin_any 65535 [h.src, h.dst, h.win, h.urg] 4 _ _ rfl (by decide) (reads_at4 _ _ _ _ _ _ _ (by simp))).mono ?_
      rintro e w1 ⟨rfl, hq⟩
      have hq := hq.symm
      subst hq
      rw [show okAll 65535 [h.src, h.dst, h.win, h.urg] = true from t0]
      go_wp2_with fail
      refine (twithin_any 4095 [h.flags] 1 _ _ rfl (by decide) (reads_at1 _ _ _ _ (by simp))).mono ?_
      rintro e w1 ⟨rfl, hq⟩
      have hq := hq.symm
      subst hq
      rw [show okAll 4095 [h.flags] = false from t1]
      go_wp2_with fail
      go_ret
      refine ⟨ret_bool HR.out.symm, ?_⟩
      (repeat first | exact Below.refl _ _ | refine Below.drew ?_ | refine Below.alloc ?_ (by simp <;> omega) _ | refine Below.setCell ?_ (by simp <;> omega) _)
    | true =>
      by_cases h40 : h.opts.size ≤ 40
      case neg =>
        have d40 : decide ((h.opts.size : Int) ≤ 40) = false := by simp; omega
        have HR : Hid (rightB h = false) := by show _ = _; unfold rightB optB; rw [t0, t1, decide_eq_false h40]; rfl
        go_enter Try.func14, Try.ntmps14
        go_wp2_with fail
        refine (twithin_any 65535 [h.src, h.dst, h.win, h.urg] 4 _ _ rfl (by decide) (reads_at4 _ _ _ _ _ _ _ (by simp))).mono ?_
        rintro e w1 ⟨rfl, hq⟩
        have hq := hq.symm
        subst hq
        rw [show okAll 65535 [h.src, h.dst, h.win, h.urg] = true from t0]
        go_wp2_with fail
        refine (twithin_any 4095 [h.flags] 1 _ _ rfl (by decide) (reads_at1 _ _ _ _ (by simp))).mono ?_
        rintro e w1 ⟨rfl, hq⟩
        have hq := hq.symm
        subst hq
        rw [show okAll 4095 [h.flags] = true from t1]
        go_wp2_with fail
        go_ret
        refine ⟨ret_bool HR.out.symm, ?_⟩
        (repeat first | exact Below.refl _ _ | refine Below.drew ?_ | refine Below.alloc ?_ (by simp <;> omega) _ | refine Below.setCell ?_ (by simp <;> omega) _)
      case pos =>
        have d40 : decide ((h.opts.size : Int) ≤ 40) = true := by simp; omega
        by_cases h4 : h.opts.size % 4 = 0
        case neg =>
          have d4 : ¬ ((h.opts.size : Int) % 4 = 0) := by omega
          have HR : Hid (rightB h = false) := by show _ = _; unfold rightB optB; rw [t0, t1, decide_eq_true h40, decide_eq_false h4]; rfl
          go_enter Try.func14, Try.ntmps14
          go_wp2_with fail
          refine (twithin_any 65535 [h.src, h.dst, h.win, h.urg] 4 _ _ rfl (by decide) (reads_at4 _ _ _ _ _ _ _ (by simp))).mono ?_
          rintro e w1 ⟨rfl, hq⟩
          have hq := hq.symm
          subst hq
          rw [show okAll 65535 [h.src, h.dst, h.win, h.urg] = true from t0]
          go_wp2_with fail
          refine (twithin_any 4095 [h.flags] 1 _ _ rfl (by decide) (reads_at1 _ _ _ _ (by simp))).mono ?_
          rintro e w1 ⟨rfl, hq⟩
          have hq := hq.symm
          subst hq
          rw [show okAll 4095 [h.flags] = true from t1]
          go_wp2_with fail
          go_ret
          refine ⟨ret_bool HR.out.symm, ?_⟩
          (repeat first | exact Below.refl _ _ | refine Below.drew ?_ | refine Below.alloc ?_ (by simp <;> omega) _ | refine Below.setCell ?_ (by simp <;> omega) _)
        case pos =>
          have d4 : (h.opts.size : Int) % 4 = 0 := by omega
          have HR : Hid (rightB h = optsOk h.opts.data.toList) := by show _ = _; unfold rightB optB; rw [t0, t1, decide_eq_true h40, decide_eq_true h4]; rfl
          go_enter Try.func14, Try.ntmps14
          go_wp2_with fail
          refine (twithin_any 65535 [h.src, h.dst, h.win, h.urg] 4 _ _ rfl (by decide) (reads_at4 _ _ _ _ _ _ _ (by simp))).mono ?_
          rintro e w1 ⟨rfl, hq⟩
          have hq := hq.symm
          subst hq
          rw [show okAll 65535 [h.src, h.dst, h.win, h.urg] = true from t0]
          go_wp2_with fail
          refine (twithin_any 4095 [h.flags] 1 _ _ rfl (by decide) (reads_at1 _ _ _ _ (by simp))).mono ?_
          rintro e w1 ⟨rfl, hq⟩
          have hq := hq.symm
          subst hq
          rw [show okAll 4095 [h.flags] = true from t1]
          go_wp2_with fail
          refine (toptsRight_any _ _ hos).mono ?_
          rintro e w1 ⟨rfl, hq⟩
          have hq := hq.symm
          subst hq
          go_wp2_with fail
          go_ret
          refine ⟨ret_bool HR.out.symm, ?_⟩
          (repeat first | exact Below.refl _ _ | refine Below.drew ?_ | refine Below.alloc ?_ (by simp <;> omega) _ | refine Below.setCell ?_ (by simp <;> omega) _)

set_option maxRecDepth 100000 in
set_option maxHeartbeats 4000000 in
theorem rright_any (h : Hd) (w : World) (hw : h.Wf) :
    Calls Try.prog 15 #[h.val] w fun e w' => e = .returned (.bool (rightB h)) ∧ Below w.heap.size w w' := by
  have hos := hw.opts
  have hsz9 : (h.opts.size : Int) ≤ 140737488355328 := by omega
  clear hw
  cases s0 : inB h.src 65535 with
  | false =>
    have HR : Hid (rightB h = false) := by show _ = _; unfold rightB; rw [portsB_in, s0]; simp
    go_enter Try.func15, Try.ntmps15
    go_wp2_with fail
    refine (roptsRight_any _ _ hos).mono ?_
    rintro e w1 ⟨rfl, hq⟩
    have hq := hq.symm
    subst hq
    go_wp2_with fail
    refine (word_any _ _).mono ?_
    rintro e w1 ⟨rfl, hq⟩
    have hq := hq.symm
    subst hq
    rw [show inB h.src 65535 = false from s0]
    go_wp2_with fail
    go_ret
    refine ⟨ret_bool HR.out.symm, ?_⟩
    (repeat first | exact Below.refl _ _ | refine Below.drew ?_ | refine Below.alloc ?_ (by simp <;> omega) _ | refine Below.setCell ?_ (by simp <;> omega) _)
  | true =>
    cases s1 : inB h.dst 65535 with
    | false =>
      have HR : Hid (rightB h = false) := by show _ = _; unfold rightB; rw [portsB_in, s0, s1]; simp
      go_enter Try.func15, Try.ntmps15
      go_wp2_with fail
      refine (roptsRight_any _ _ hos).mono ?_
      rintro e w1 ⟨rfl, hq⟩
      have hq := hq.symm
      subst hq
      go_wp2_with fail
      refine (word_any _ _).mono ?_
      rintro e w1 ⟨rfl, hq⟩
      have hq := hq.symm
      subst hq
      rw [show inB h.src 65535 = true from s0]
      go_wp2_with fail
      refine (word_any _ _).mono ?_
      rintro e w1 ⟨rfl, hq⟩
      have hq := hq.symm
      subst hq
      rw [show inB h.dst 65535 = false from s1]
      go_wp2_with fail
      go_ret
      refine ⟨ret_bool HR.out.symm, ?_⟩
      (repeat first | exact Below.refl _ _ | refine Below.drew ?_ | refine Below.alloc ?_ (by simp <;> omega) _ | refine Below.setCell ?_ (by simp <;> omega) _)
    | true =>
      cases s2 : inB h.win 65535 with
      | false =>
        have HR : Hid (rightB h = false) := by show _ = _; unfold rightB; rw [portsB_in, s0, s1, s2]; simp
        go_enter Try.func15, Try.ntmps15
        go_wp2_with fail
        refine (roptsRight_any _ _ hos).mono ?_
        rintro e w1 ⟨rfl, hq⟩
        have hq := hq.symm
        subst hq
        go_wp2_with fail
        refine (word_any _ _).mono ?_
        rintro e w1 ⟨rfl, hq⟩
        have hq := hq.symm
        subst hq
        rw [show inB h.src 65535 = true from s0]
        go_wp2_with fail
        refine (word_any _ _).mono ?_
        rintro e w1 ⟨rfl, hq⟩
        have hq := hq.symm
        subst hq
        rw [show inB h.dst 65535 = true from s1]
        go_wp2_with fail
        refine (word_any _ _).mono ?_
        rintro e w1 ⟨rfl, hq⟩
        have hq := hq.symm
        subst hq
        rw [show inB h.win 65535 = false from s2]
        go_wp2_with fail
        go_ret
        refine ⟨ret_bool HR.out.symm, ?_⟩
        (repeat first | exact Below.refl _ _ | refine Below.drew ?_ | refine Below.alloc ?_ (by simp <;> omega) _ | refine Below.setCell ?_ (by simp <;> omega) _)
      | true =>
        cases s3 : inB h.urg 65535 with
        | false =>
          have HR : Hid (rightB h = false) := by show _ = _; unfold rightB; rw [portsB_in, s0, s1, s2, s3]; simp
          go_enter Try.func15, Try.ntmps15
          go_wp2_with fail
          refine (roptsRight_any _ _ hos).mono ?_
          rintro e w1 ⟨rfl, hq⟩
          have hq := hq.symm
          subst hq
          go_wp2_with fail
          refine (word_any _ _).mono ?_
          rintro e w1 ⟨rfl, hq⟩
          have hq := hq.symm
          subst hq
          rw [show inB h.src 65535 = true from s0]
          go_wp2_with fail
          refine (word_any _ _).mono ?_
          rintro e w1 ⟨rfl, hq⟩
          have hq := hq.symm
          subst hq
          rw [show inB h.dst 65535 = true from s1]
          go_wp2_with fail
          refine (word_any _ _).mono ?_
          rintro e w1 ⟨rfl, hq⟩
          have hq := hq.symm
          subst hq
          rw [show inB h.win 65535 = true from s2]
          go_wp2_with fail
          refine (word_any _ _).mono ?_
          rintro e w1 ⟨rfl, hq⟩
          have hq := hq.symm
          subst hq
          rw [show inB h.urg 65535 = false from s3]
          go_wp2_with fail
          go_ret
          refine ⟨ret_bool HR.out.symm, ?_⟩
          (repeat first | exact Below.refl _ _ | refine Below.drew ?_ | refine Below.alloc ?_ (by simp <;> omega) _ | refine Below.setCell ?_ (by simp <;> omega) _)
        | true =>
          have t0 : portsB h = true := by rw [portsB_in, s0, s1, s2, s3]; rfl
          by_cases hf0 : 0 ≤ h.flags
          case neg =>
            have HR : Hid (rightB h = false) := by show _ = _; unfold rightB; rw [flagsB_in]; unfold inB; rw [decide_eq_false hf0]; simp
            go_enter Try.func15, Try.ntmps15
            go_wp2_with fail
            refine (roptsRight_any _ _ hos).mono ?_
            rintro e w1 ⟨rfl, hq⟩
            have hq := hq.symm
            subst hq
            go_wp2_with fail
            refine (word_any _ _).mono ?_
            rintro e w1 ⟨rfl, hq⟩
            have hq := hq.symm
            subst hq
            rw [show inB h.src 65535 = true from s0]
            go_wp2_with fail
            refine (word_any _ _).mono ?_
            rintro e w1 ⟨rfl, hq⟩
            have hq := hq.symm
            subst hq
            rw [show inB h.dst 65535 = true from s1]
            go_wp2_with fail
            refine (word_any _ _).mono ?_
            rintro e w1 ⟨rfl, hq⟩
            have hq := hq.symm
            subst hq
            rw [show inB h.win 65535 = true from s2]
            go_wp2_with fail
            refine (word_any _ _).mono ?_
            rintro e w1 ⟨rfl, hq⟩
            have hq := hq.symm
            subst hq
            rw [show inB h.urg 65535 = true from s3]
            go_wp2_with fail
            go_ret
            refine ⟨ret_bool HR.out.symm, ?_⟩
            (repeat first | exact Below.refl _ _ | refine Below.drew ?_ | refine Below.alloc ?_ (by simp <;> omega) _ | refine Below.setCell ?_ (by simp <;> omega) _)
          case pos =>
            by_cases hf1 : h.flags ≤ 4095
            case neg =>
              have HR : Hid (rightB h = false) := by show _ = _; unfold rightB; rw [flagsB_in]; unfold inB; rw [decide_eq_false hf1]; simp
              go_enter Try.func15, Try.ntmps15
              go_wp2_with fail
              refine (roptsRight_any _ _ hos).mono ?_
              rintro e w1 ⟨rfl, hq⟩
              have hq := hq.symm
              subst hq
              go_wp2_with fail
              refine (word_any _ _).mono ?_
              rintro e w1 ⟨rfl, hq⟩
              have hq := hq.symm
              subst hq
              rw [show inB h.src 65535 = true from s0]
              go_wp2_with fail
              refine (word_any _ _).mono ?_
              rintro e w1 ⟨rfl, hq⟩
              have hq := hq.symm
              subst hq
              rw [show inB h.dst 65535 = true from s1]
              go_wp2_with fail
              refine (word_any _ _).mono ?_
              rintro e w1 ⟨rfl, hq⟩
              have hq := hq.symm
              subst hq
              rw [show inB h.win 65535 = true from s2]
              go_wp2_with fail
              refine (word_any _ _).mono ?_
              rintro e w1 ⟨rfl, hq⟩
              have hq := hq.symm
              subst hq
              rw [show inB h.urg 65535 = true from s3]
              go_wp2_with fail
              go_ret
              refine ⟨ret_bool HR.out.symm, ?_⟩
              (repeat first | exact Below.refl _ _ | refine Below.drew ?_ | refine Below.alloc ?_ (by simp <;> omega) _ | refine Below.setCell ?_ (by simp <;> omega) _)
            case pos =>
              have t1 : flagsB h = true := by rw [flagsB_in]; exact (inB_iff _ _).2 ⟨hf0, hf1⟩
              by_cases h40 : h.opts.size ≤ 40
              case neg =>
                have d40 : decide ((h.opts.size : Int) ≤ 40) = false := by simp; omega
                have HR : Hid (rightB h = false) := by show _ = _; unfold rightB optB; rw [t0, t1, decide_eq_false h40]; rfl
                go_enter Try.func15, Try.ntmps15
                go_wp2_with fail
                refine (roptsRight_any _ _ hos).mono ?_
                rintro e w1 ⟨rfl, hq⟩
                have hq := hq.symm
                subst hq
                go_wp2_with fail
                refine (word_any _ _).mono ?_
                rintro e w1 ⟨rfl, hq⟩
                have hq := hq.symm
                subst hq
                rw [show inB h.src 65535 = true from s0]
                go_wp2_with fail
                refine (word_any _ _).mono ?_
                rintro e w1 ⟨rfl, hq⟩
                have hq := hq.symm
                subst hq
                rw [show inB h.dst 65535 = true from s1]
                go_wp2_with fail
                refine (word_any _ _).mono ?_
                rintro e w1 ⟨rfl, hq⟩
                have hq := hq.symm
                subst hq
                rw [show inB h.win 65535 = true from s2]
                go_wp2_with fail
                refine (word_any _ _).mono ?_
                rintro e w1 ⟨rfl, hq⟩
                have hq := hq.symm
                subst hq
                rw [show inB h.urg 65535 = true from s3]
                go_wp2_with fail
                go_ret
                refine ⟨ret_bool HR.out.symm, ?_⟩
                (repeat first | exact Below.refl _ _ | refine Below.drew ?_ | refine Below.alloc ?_ (by simp <;> omega) _ | refine Below.setCell ?_ (by simp <;> omega) _)
              case pos =>
                have d40 : decide ((h.opts.size : Int) ≤ 40) = true := by simp; omega
                by_cases h4 : h.opts.size % 4 = 0
                case neg =>
                  have d4 : ¬ ((h.opts.size : Int) % 4 = 0) := by omega
                  have HR : Hid (rightB h = false) := by show _ = _; unfold rightB optB; rw [t0, t1, decide_eq_true h40, decide_eq_false h4]; rfl
                  go_enter Try.func15, Try.ntmps15
                  go_wp2_with fail
                  refine (roptsRight_any _ _ hos).mono ?_
                  rintro e w1 ⟨rfl, hq⟩
                  have hq := hq.symm
                  subst hq
                  go_wp2_with fail
                  refine (word_any _ _).mono ?_
                  rintro e w1 ⟨rfl, hq⟩
                  have hq := hq.symm
                  subst hq
                  rw [show inB h.src 65535 = true from s0]
                  go_wp2_with fail
                  refine (word_any _ _).mono ?_
                  rintro e w1 ⟨rfl, hq⟩
                  have hq := hq.symm
                  subst hq
                  rw [show inB h.dst 65535 = true from s1]
                  go_wp2_with fail
                  refine (word_any _ _).mono ?_
                  rintro e w1 ⟨rfl, hq⟩
                  have hq := hq.symm
                  subst hq
                  rw [show inB h.win 65535 = true from s2]
                  go_wp2_with fail
                  refine (word_any _ _).mono ?_
                  rintro e w1 ⟨rfl, hq⟩
                  have hq := hq.symm
                  subst hq
                  rw [show inB h.urg 65535 = true from s3]
                  go_wp2_with fail
                  go_ret
                  refine ⟨ret_bool HR.out.symm, ?_⟩
                  (repeat first | exact Below.refl _ _ | refine Below.drew ?_ | refine Below.alloc ?_ (by simp <;> omega) _ | refine Below.setCell ?_ (by simp <;> omega) _)
                case pos =>
                  have d4 : (h.opts.size : Int) % 4 = 0 := by omega
                  have HR : Hid (rightB h = optsOk h.opts.data.toList) := by show _ = _; unfold rightB optB; rw [t0, t1, decide_eq_true h40, decide_eq_true h4]; rfl
                  go_enter Try.func15, Try.ntmps15
                  go_wp2_with fail
                  refine (roptsRight_any _ _ hos).mono ?_
                  rintro e w1 ⟨rfl, hq⟩
                  have hq := hq.symm
                  subst hq
                  go_wp2_with fail
                  refine (word_any _ _).mono ?_
                  rintro e w1 ⟨rfl, hq⟩
                  have hq := hq.symm
                  subst hq
                  rw [show inB h.src 65535 = true from s0]
                  go_wp2_with fail
                  refine (word_any _ _).mono ?_
                  rintro e w1 ⟨rfl, hq⟩
                  have hq := hq.symm
                  subst hq
                  rw [show inB h.dst 65535 = true from s1]
                  go_wp2_with fail
                  refine (word_any _ _).mono ?_
                  rintro e w1 ⟨rfl, hq⟩
                  have hq := hq.symm
                  subst hq
                  rw [show inB h.win 65535 = true from s2]
                  go_wp2_with fail
                  refine (word_any _ _).mono ?_
                  rintro e w1 ⟨rfl, hq⟩
                  have hq := hq.symm
                  subst hq
                  rw [show inB h.urg 65535 = true from s3]
                  go_wp2_with fail
                  go_ret
                  refine ⟨ret_bool HR.out.symm, ?_⟩
                  (repeat first | exact Below.refl _ _ | refine Below.drew ?_ | refine Below.alloc ?_ (by simp <;> omega) _ | refine Below.setCell ?_ (by simp <;> omega) _)
end Go.Proofs.Ytgfmpcfdggcifaa
