/- The law UdpPorts returns true for every two ports and every two bodies, and changes nothing that was there before; no condition but the form's own. -/
import Derived.Test.YteijemjbpfkghaaRows
import Derived.OpenShut
import Derived.ShutString
import Derived.ChangeOld
import Derived.Below
import Derived.SizedLaws
import Derived.Test.YteijemjbpfkghaaUdEx
import Derived.Test.YteijemjbpfkghaaUdRef
namespace Go.Proofs.Yteijemjbpfkghaa.udpPorts
open Go.ChangeShapes Go.WideShapes Go.ChangeAt Go.RowKit
open Go.ChangeMaps (open_string shut_string)
set_option linter.unusedVariables false
theorem at_list (s : ByteArray) (i : Nat) (h : i < s.size) : s.data.toList.getD i 0 = s[i] := by
  rw [List.getD_eq_getElem?_getD, Array.getElem?_toList, Array.getElem?_eq_getElem h]; rfl
theorem hi_byte (n : Int) (h0 : 0 ≤ n) (h1 : n ≤ 65535) : ((UInt8.ofNat (n.toNat / 256)).toNat : Int) = n / 256 := by simp only [UInt8.toNat_ofNat']; omega
theorem lo_byte (n : Int) (h0 : 0 ≤ n) : ((UInt8.ofNat n.toNat).toNat : Int) = n % 256 := by simp only [UInt8.toNat_ofNat']; omega
theorem be_two (n : Nat) : Oct.be 2 n = [UInt8.ofNat (n / 256), UInt8.ofNat n] := rfl
structure Parts (a b : Int) (body s : ByteArray) : Prop where
  size : s.size = 8 + body.size
  ports : (s.extract 0 4).data.toList = Oct.be 2 a.toNat ++ Oct.be 2 b.toNat
  check : s.extract 6 8 = ⟨#[0, 0]⟩
  body : s.extract 8 s.size = body
  i0 : ∀ h : 0 < s.size, ((s[0]'h).toNat : Int) = a / 256
  i1 : ∀ h : 1 < s.size, ((s[1]'h).toNat : Int) = a % 256
  i2 : ∀ h : 2 < s.size, ((s[2]'h).toNat : Int) = b / 256
  i3 : ∀ h : 3 < s.size, ((s[3]'h).toNat : Int) = b % 256
theorem parts_of {a b : Int} {body : ByteArray} (a0 : 0 ≤ a) (a1 : a ≤ 65535) (b0 : 0 ≤ b) (b1 : b ≤ 65535) (hs : body.size ≤ 1492) : Parts a b body (built a b body) := by
  have pa : inP a = true := (inP_iff _).2 ⟨a0, a1⟩
  have pb : inP b = true := (inP_iff _).2 ⟨b0, b1⟩
  have hl := built_list pa pb hs
  have hz := built_size pa pb hs
  generalize built a b body = s at *
  unfold hdL at hl
  refine ⟨hz, ?_, ?_, ?_, ?_, ?_, ?_, ?_⟩
  · rw [Oct.ext_list, hl]; simp [be_two]
  · apply Oct.ba_ext; rw [Oct.ext_list, hl]; simp [be_two]
  · apply Oct.ba_ext; rw [Oct.ext_list, ← Oct.len_eq, List.take_length, hl]; simp [be_two]
  · intro h; rw [← at_list, hl]; simp only [be_two, List.cons_append, List.getD_cons_zero]; exact hi_byte a a0 a1
  · intro h; rw [← at_list, hl]; simp only [be_two, List.cons_append, List.getD_cons_zero, List.getD_cons_succ]; exact lo_byte a a0
  · intro h; rw [← at_list, hl]; simp only [be_two, List.cons_append, List.nil_append, List.getD_cons_zero, List.getD_cons_succ]; exact hi_byte b b0 b1
  · intro h; rw [← at_list, hl]; simp only [be_two, List.cons_append, List.nil_append, List.getD_cons_zero, List.getD_cons_succ]; exact lo_byte b b0
theorem same_of {a b : Int} {x y s t : ByteArray} (h : Parts a b x s) (k : Parts a b y t) (e : s = built a b x) (f : t = built a b y) : (s.toList == t.toList) = (x.toList == y.toList) := by
  by_cases hx : x = y
  · have hs : s = t := by rw [e, f, hx]
    rw [hx, hs, beq_self_eq_true, beq_self_eq_true]
  · have hs : s ≠ t := fun hst => hx (by rw [← h.body, ← k.body, hst])
    have q : ∀ u v : ByteArray, u ≠ v → (u.toList == v.toList) = false := fun u v huv => by
      apply Bool.eq_false_iff.2
      intro hb
      exact huv (Oct.ba_ext (by have := eq_of_beq hb; rwa [ByteArray.toList_eq, ByteArray.toList_eq] at this))
    rw [q s t hs, q x y hx]
theorem join_bytes (n : Int) (h0 : 0 ≤ n) (h1 : n ≤ 65535) : bits .or .i64 (n / 256 * 256) (n % 256) = n := by
  rw [Oct.or_byte (n / 256) (n % 256) (by omega) (by omega) (by omega) (by omega)]; omega
set_option maxHeartbeats 1000000 in
set_option maxRecDepth 100000 in
theorem walk (w : World) (a0 : Int) (a1 : Int) (a2 : ByteArray) (a3 : ByteArray) (w0 : (Lit.int .u16 a0).wf = true) (w1 : (Lit.int .u16 a1).wf = true) (z2 : a2.size ≤ 140737488355328) (z3 : a3.size ≤ 140737488355328) :
    Calls Try.prog 8 #[.int .u16 a0, .int .u16 a1, .string a2, .string a3] w fun e w' => e = .returned (.bool true) ∧ Below w.heap.size w w' := by
  obtain ⟨x0, x1⟩ := bounds_u16 w0
  obtain ⟨y0, y1⟩ := bounds_u16 w1
  obtain ⟨m, hmin⟩ : ∃ m : Nat, min (a2.size : Int) 100 = m := ⟨min a2.size 100, by omega⟩
  obtain ⟨n, hmin'⟩ : ∃ n : Nat, min (a3.size : Int) 100 = n := ⟨min a3.size 100, by omega⟩
  have hm2 : m ≤ a2.size := by omega
  have hn2 : n ≤ a3.size := by omega
  have hm3 : (m : Int) ≤ a2.size := by omega
  have hn3 : (n : Int) ≤ a3.size := by omega
  have pa : inP a0 = true := (inP_iff _).2 ⟨x0, x1⟩
  have pb : inP a1 = true := (inP_iff _).2 ⟨y0, y1⟩
  have hBs : (a2.extract 0 m).size = m := by rw [Oct.ext_size _ _ _ hm2]; rfl
  have hCs : (a3.extract 0 n).size = n := by rw [Oct.ext_size _ _ _ hn2]; rfl
  have hB : (a2.extract 0 m).size ≤ 1492 := by rw [hBs]; omega
  have hC : (a3.extract 0 n).size ≤ 1492 := by rw [hCs]; omega
  have bc : ∀ (B : ByteArray), B.size ≤ 1492 → ∀ u, Calls Try.prog 10 #[.int .i64 a0, .int .i64 a1, .string B] u fun e u' => e = .returned (.tuple #[.string (built a0 a1 B), .int .i64 0]) ∧ Below u.heap.size u u' := fun B hB u => by
    have := build_any a0 a1 B u (by omega)
    have hbe := buildE_of pa pb hB
    rw [hbe, buildS_of hbe] at this
    exact this
  have H1 := hide (bc _ hB)
  have H2 := hide (bc _ hC)
  have P := parts_of x0 x1 y0 y1 hB
  have Q := parts_of x0 x1 y0 y1 hC
  have hsame := same_of P Q rfl rfl
  clear bc
  generalize hBB : a2.extract 0 m = B at *
  generalize hCC : a3.extract 0 n = C at *
  generalize built a0 a1 B = S at *
  generalize built a0 a1 C = T at *
  have hz := P.size
  have hy := Q.size
  have hS : S.size ≤ 1000 := by omega
  have hT : T.size ≤ 1000 := by omega
  have hS8 : (8 : Int) ≤ S.size := by omega
  have hT8 : (8 : Int) ≤ T.size := by omega
  have e4 : S.extract 0 4 = T.extract 0 4 := Oct.ba_ext (by rw [P.ports, Q.ports])
  have e6 := P.check
  have e8 := P.body
  have f8 := Q.body
  have k0 : 0 < S.size := by omega
  have k1 : 1 < S.size := by omega
  have k2 : 2 < S.size := by omega
  have k3 : 3 < S.size := by omega
  have i0 := P.i0 k0
  have i1 := P.i1 k1
  have i2 := P.i2 k2
  have i3 := P.i3 k3
  have j0 := join_bytes a0 x0 x1
  have j1 := join_bytes a1 y0 y1
  clear P Q hz hy hBs hCs hB hC w0 w1 pa pb hm2 hn2
  go_enter Try.func8, Try.ntmps8
  go_wp2_with fail
  refine (examples_ok _).mono ?_
  rintro e w1' ⟨rfl, hb1⟩
  have HB := hide hb1
  clear hb1
  go_wp2_with fail
  refine (unhide H1 _).mono ?_
  rintro e w2' ⟨rfl, hb1⟩
  have HB := hide (Below.then (unhide HB) hb1)
  clear hb1
  go_wp2_with fail
  refine (unhide H2 _).mono ?_
  rintro e w3' ⟨rfl, hb1⟩
  have HB := hide (Below.then (unhide HB) hb1)
  clear hb1
  go_wp2_with fail
  go_quiet (fail)
  go_wp2_with fail
  go_ret
  exact ⟨rfl, below_drewN (unhide HB) _⟩

theorem own : ownKnob Try.prog.godebug = none := by kernel_rfl
set_option maxRecDepth 100000 in
theorem lifted (os : Os) (started : os.Started) (H : Type) (enc : TypeId × Value → H) :
    ReturnsInHanded {} Try.checked os 8 .any (Rows.udpPortsSpec.pre6 enc Try.prog Try.f8 Rows.udpPortsRow.domain false) (Rows.udpPortsSpec.post enc Try.prog Try.f8 false true false false) := by
  refine returnsInHanded_of_change_sized (C := Try.checked) own started (by kernel_rfl) Try.func8
    (ChangeSpec.witness6 (enc := enc) (C := Try.checked) false ⟨#[], #[.int .u16 0, .int .u16 0, .string ByteArray.empty, .string ByteArray.empty], []⟩ 8 (by kernel_rfl) (by kernel_rfl) (by kernel_rfl) (by kernel_rfl)) ?_
  intro W base args ds gs before hval0 hW hcnd hsz _
  have hval : ∀ (j : Nat) t v, Try.f8.params[j]? = some t → args[j]? = some v → Value.okWide Try.prog W .any base t v := hval0
  have hW' := hW
  obtain ⟨p, q, hA0, hV, rfl, hfz, hnd⟩ := hW
  have hA : DataW.TrodAll enc Try.prog W 0 (fun _ => true) true Try.f8.params.toList args.toList ds p := hA0
  rw [Try.params8] at hA hval
  obtain ⟨v0, vs0, d0, ds0, p0, q0, hargs, rfl, rfl, h0, r0⟩ := trodAll_cons hA
  obtain ⟨v1, vs1, d1, ds1, p1, q1, rfl, rfl, rfl, h1, r1⟩ := trodAll_cons r0
  obtain ⟨v2, vs2, d2, ds2, p2, q2, rfl, rfl, rfl, h2, r2⟩ := trodAll_cons r1
  obtain ⟨v3, vs3, d3, ds3, p3, q3, rfl, rfl, rfl, h3, r3⟩ := trodAll_cons r2
  obtain ⟨rfl, rfl, rfl⟩ := trodAll_nil r3
  obtain rfl : args = #[v0, v1, v2, v3] := by cases args; simp_all
  obtain ⟨rfl, rfl⟩ := trodVars_none hV
  obtain ⟨a0, rfl, rfl, rfl, w0⟩ := open_int Try.underlying36 (hval 0 36 v0 rfl rfl) h0
  obtain ⟨a1, rfl, rfl, rfl, w1⟩ := open_int Try.underlying36 (hval 1 36 v1 rfl rfl) h1
  obtain ⟨a2, rfl, rfl, rfl, w2⟩ := open_string Try.underlying9 (hval 2 9 v2 rfl rfl) h2
  obtain ⟨a3, rfl, rfl, rfl, w3⟩ := open_string Try.underlying9 (hval 3 9 v3 rfl rfl) h3
  clear hA0 hval0
  simp only [List.append_nil] at hW'
  have z2 : a2.size ≤ 140737488355328 := by
    have hq : a2.data.toList.length ≤ reachBytes := sized_string hsz (j := 2) (t := 9) rfl rfl
    have e : a2.data.toList.length = a2.size := by rw [Array.length_toList]; rfl
    rw [e] at hq
    exact Nat.le_trans hq (Nat.le_of_lt reachBytes_lt)
  have z3 : a3.size ≤ 140737488355328 := by
    have hq : a3.data.toList.length ≤ reachBytes := sized_string hsz (j := 3) (t := 9) rfl rfl
    have e : a3.data.toList.length = a3.size := by rw [Array.length_toList]; rfl
    rw [e] at hq
    exact Nat.le_trans hq (Nat.le_of_lt reachBytes_lt)
  refine (walk W a0 a1 a2 a3 w0 w1 z2 z3).mono fun e W' ⟨he, bel⟩ => ?_
  subst he
  exact ⟨_, rfl, _, _, _, [], _, [], hW', (trodAll_cons_mk (shut_bool Try.underlying4 _) trodAll_mk0), (trodAll_cons_mk (shut_int Try.underlying36 w0) (trodAll_cons_mk (shut_int Try.underlying36 w1) (trodAll_cons_mk (shut_string Try.underlying9 w2) (trodAll_cons_mk (shut_string Try.underlying9 w3) trodAll_mk0)))), rfl, bel.frame _, fun h => by cases h⟩

theorem over : Rows.udpPortsRow.holds Try.pinned (OpenSpec.ofChange Rows.udpPortsSpec) :=
  OpenClaim.holds_of_wide 8 Try.f8 rfl rfl rfl rfl rfl rfl rfl ⟨rfl, rfl, rfl, rfl, rfl⟩ rfl rfl rfl rfl rfl (by kernel_rfl) Try.func8 (by kernel_rfl)
    (of_decide_eq_true (by kernel_rfl)) (by unfold Func.isWrapper; first | (rw [if_pos (by decide +kernel)]; kernel_rfl) | (rw [if_neg (by decide +kernel)]; exact ⟨rfl, rfl⟩))
    (fun os started H enc _ => lifted os started H enc)

theorem proved : Rows.UdpPortsSaid := over
#print axioms proved
end Go.Proofs.Yteijemjbpfkghaa.udpPorts
