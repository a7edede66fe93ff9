/- A header as a value; its fixed part; the reference's header and its small functions. -/
import Derived.Test.YtfppjpcolohmfaaIpFix
import Derived.Test.YtfppjpcolohmfaaIpOpts
namespace Go.Proofs.Ytfppjpcolohmfaa
open Go.ChangeShapes Go.WideShapes Go.ChangeAt Go.RowKit

structure Hd where
  tos : Int
  id : Int
  flags : Int
  frag : Int
  ttl : Int
  proto : Int
  src : Int
  dst : Int
  opts : ByteArray
/-- The numbers fit their kinds; the options are no longer than any text. -/
structure Hd.Wf (h : Hd) : Prop where
  tos : -9223372036854775808 ≤ h.tos ∧ h.tos ≤ 9223372036854775807
  id : -9223372036854775808 ≤ h.id ∧ h.id ≤ 9223372036854775807
  flags : -9223372036854775808 ≤ h.flags ∧ h.flags ≤ 9223372036854775807
  frag : -9223372036854775808 ≤ h.frag ∧ h.frag ≤ 9223372036854775807
  ttl : -9223372036854775808 ≤ h.ttl ∧ h.ttl ≤ 9223372036854775807
  proto : -9223372036854775808 ≤ h.proto ∧ h.proto ≤ 9223372036854775807
  src : 0 ≤ h.src ∧ h.src ≤ 4294967295
  dst : 0 ≤ h.dst ∧ h.dst ≤ 4294967295
  opts : h.opts.size ≤ 140737488355328
abbrev Hd.val (h : Hd) : Value := .agg #[.int .i64 h.tos, .int .i64 h.id, .int .i64 h.flags, .int .i64 h.frag, .int .i64 h.ttl, .int .i64 h.proto, .int .u32 h.src, .int .u32 h.dst, .string h.opts]

/-- Twelve numbers as a function of their place. -/
def fx (a0 a1 a2 a3 a4 a5 a6 a7 a8 a9 a10 a11 : Int) : Nat → Int
  | 0 => a0 | 1 => a1 | 2 => a2 | 3 => a3 | 4 => a4 | 5 => a5 | 6 => a6 | 7 => a7 | 8 => a8 | 9 => a9 | 10 => a10 | _ => a11
/-- The fixed part of h, with this total and this check. -/
def hfix (h : Hd) (total check : Int) : Nat → Int := fx 4 ((20 + h.opts.size) / 4) h.tos total h.id h.flags h.frag h.ttl h.proto check h.src h.dst
abbrev fixVal (F : Nat → Int) : Value := .agg #[.int .i64 (F 0), .int .i64 (F 1), .int .i64 (F 2), .int .i64 (F 3), .int .i64 (F 4), .int .i64 (F 5), .int .i64 (F 6), .int .i64 (F 7), .int .i64 (F 8), .int .i64 (F 9), .int .i64 (F 10), .int .i64 (F 11)]

set_option maxHeartbeats 1000000 in
theorem fixedOf_any (h : Hd) (w : World) (hw : h.Wf) :
    Calls Try.prog 23 #[h.val] w fun e w' => e = .returned (fixVal (hfix h 0 0)) ∧ Below w.heap.size w w' := by
  obtain ⟨h1, h2, h3, h4, h5, h6, h7, h8, h9⟩ := hw
  obtain ⟨tos, id, flags, frag, ttl, proto, src, dst, opts⟩ := h
  simp only at *
  go_enter Try.func23, Try.ntmps23
  go_wp2
  refine bodyPost_ret (v := fixVal (hfix ⟨tos, id, flags, frag, ttl, proto, src, dst, opts⟩ 0 0)) (by simp [results, Try.results23, go_sem, hfix, fx]) rfl ⟨rfl, ?_⟩
  (repeat first | exact Below.refl _ _ | refine Below.drew ?_ | refine Below.alloc ?_ (by simp <;> omega) _ | refine Below.setCell ?_ (by simp <;> omega) _)

set_option maxHeartbeats 1000000 in
theorem ref_any (h : Hd) (w : World) :
    Calls Try.prog 13 #[h.val] w fun e w' => e = .returned h.val ∧ Below w.heap.size w w' := by
  obtain ⟨tos, id, flags, frag, ttl, proto, src, dst, opts⟩ := h
  go_enter Try.func13, Try.ntmps13
  go_wp2
  refine bodyPost_ret (v := Hd.val ⟨tos, id, flags, frag, ttl, proto, src, dst, opts⟩) (by simp [results, Try.results13, go_sem]) rfl ⟨rfl, ?_⟩
  (repeat first | exact Below.refl _ _ | refine Below.drew ?_ | refine Below.alloc ?_ (by simp <;> omega) _ | refine Below.setCell ?_ (by simp <;> omega) _)

set_option maxHeartbeats 400000 in
theorem in_any (n m : Int) (w : World) :
    Calls Try.prog 30 #[.int .i64 n, .int .i64 m] w fun e w' => e = .returned (.bool (decide (0 ≤ n) && decide (n ≤ m))) ∧ w' = w := by
  by_cases h0 : 0 ≤ n
  · rw [decide_eq_true h0, Bool.true_and]
    go_enter Try.func30, Try.ntmps30
    go_wp2_with fail
    go_ret
    exact ⟨rfl, rfl⟩
  · rw [decide_eq_false h0, Bool.false_and]
    go_enter Try.func30, Try.ntmps30
    go_wp2_with fail
    go_ret
    exact ⟨rfl, rfl⟩

set_option maxHeartbeats 400000 in
theorem num_any (size n : Int) (w : World) :
    Calls Try.prog 27 #[.int .i64 size, .int .i64 n] w fun e w' => e = .returned (.string (laid size n)) ∧ Below w.heap.size w w' := by
  go_enter Try.func27, Try.ntmps27
  go_wp2_with fail
  refine (rput_any _ _ _).mono ?_
  rintro e w' ⟨rfl, hb⟩
  go_wp2_with fail
  go_ret
  exact ⟨rfl, hb⟩

set_option maxHeartbeats 400000 in
theorem nget_any (s : ByteArray) (pos size : Int) (w : World) (hs : s.size ≤ maxLen) :
    Calls Try.prog 36 #[.string s, .int .i64 pos, .int .i64 size] w fun e w' => e = .returned (.int .i64 (got s pos size)) ∧ w' = w := by
  go_enter Try.func36, Try.ntmps36
  go_wp2_with fail
  refine (rget_any _ _ _ _ hs).mono ?_
  rintro e w' ⟨rfl, rfl⟩
  go_wp2_with fail
  go_ret
  exact ⟨rfl, rfl⟩
end Go.Proofs.Ytfppjpcolohmfaa
