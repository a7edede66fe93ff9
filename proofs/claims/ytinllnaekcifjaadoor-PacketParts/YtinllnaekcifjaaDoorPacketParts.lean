/- PacketParts: a part of a packet alone is refused, whichever part it is; so is a protocol that is not carried; under the given ties of the package's listed variables. -/
import Derived.Test.YtinllnaekcifjaaDoorPkLaidD
import Derived.Test.YtinllnaekcifjaaDoorPkOpM
import Derived.Test.YtinllnaekcifjaaDoorPkEx
import Derived.Test.YtinllnaekcifjaaDoorPkKey
namespace Go.Proofs.YtinllnaekcifjaaDoor.packetParts
open Go.ChangeShapes Go.WideShapes Go.ChangeAt Go.RowKit
open Go.ChangeMaps (open_string shut_string)
open MO
set_option linter.unusedVariables false
theorem parts_frag {s d k : Int} (hs : 0 ≤ s ∧ s ≤ 4294967295) (hd : 0 ≤ d ∧ d ≤ 4294967295) (hk : 1 ≤ k ∧ k ≤ 8191) {B : ByteArray} (hB : B.size ≤ 1480) :
    Ip.Built ⟨0, 0, 0, k, 5, 6, s, d, ⟨#[]⟩⟩ B ∧ clsE (Ip.built ⟨0, 0, 0, k, 5, 6, s, d, ⟨#[]⟩⟩ B) = 8 := by
  have b : Ip.Built ⟨0, 0, 0, k, 5, 6, s, d, ⟨#[]⟩⟩ B := ip_built (by decide) (by decide) (by omega) (by decide) (by decide) hs hd hB
  have h := cls_part b rfl (by unfold fragB; simp; omega) ⟨#[]⟩
  rw [Ps.app_nil] at h
  exact ⟨b, h⟩
theorem parts_flag {s d : Int} (hs : 0 ≤ s ∧ s ≤ 4294967295) (hd : 0 ≤ d ∧ d ≤ 4294967295) {B : ByteArray} (hB : B.size ≤ 1480) :
    Ip.Built ⟨0, 0, 1, 0, 5, 6, s, d, ⟨#[]⟩⟩ B ∧ clsE (Ip.built ⟨0, 0, 1, 0, 5, 6, s, d, ⟨#[]⟩⟩ B) = 8 := by
  have b : Ip.Built ⟨0, 0, 1, 0, 5, 6, s, d, ⟨#[]⟩⟩ B := ip_built (by decide) (by decide) (by decide) (by decide) (by decide) hs hd hB
  have h := cls_part b rfl rfl ⟨#[]⟩
  rw [Ps.app_nil] at h
  exact ⟨b, h⟩
theorem first_not {a b : Int} (ha : a ≠ 9) (hb : b ≠ 9) : firstL [a, b] ≠ 9 := by
  by_cases h : a = 0
  · rw [first2 h]; exact hb
  · rw [first1 h]; exact ha
theorem tcE_not (s : ByteArray) : Tc.parseE s ≠ 9 := by unfold Tc.parseE; split; decide; split; decide; split; decide; split <;> decide
theorem udE_not (s : ByteArray) : Ps.measE s ≠ 9 := by unfold Ps.measE; split; decide; split; decide; split <;> decide
theorem parts_proto {s d p : Int} (hs : 0 ≤ s ∧ s ≤ 4294967295) (hd : 0 ≤ d ∧ d ≤ 4294967295) (hp : 0 ≤ p ∧ p ≤ 255) {B : ByteArray} (hB : B.size ≤ 1480) :
    Ip.Built ⟨0, 0, 0, 0, 5, p, s, d, ⟨#[]⟩⟩ B ∧ (¬ p = 1 → (clsE (Ip.built ⟨0, 0, 0, 0, 5, p, s, d, ⟨#[]⟩⟩ B) == 9) = !((p == 6) || (p == 17))) := by
  have b : Ip.Built ⟨0, 0, 0, 0, 5, p, s, d, ⟨#[]⟩⟩ B := ip_built (by decide) (by decide) (by decide) (by decide) hp hs hd hB
  have h := (cls_whole b rfl rfl ⟨#[]⟩).1
  rw [Ps.app_nil] at h
  refine ⟨b, fun h1 => ?_⟩
  rw [h]
  show (inE p _ B == 9) = _
  unfold inE
  by_cases h6 : p = 6
  · subst h6
    rw [if_pos rfl]
    have : segE ⟨0, 20, 20 + B.size, zeroTp, 0, 5, s, d, 0, 0⟩ B ≠ 9 := first_not (tcE_not B) (Ps.verE_not9 rfl)
    simpa using this
  · rw [if_neg h6]
    by_cases h17 : p = 17
    · subst h17
      rw [if_pos rfl]
      have : datE ⟨0, 20, 20 + B.size, zeroTp, 0, 5, s, d, 0, 0⟩ B ≠ 9 := first_not (udE_not B) (Ps.verE_not9 rfl)
      simpa using this
    · rw [if_neg h17, if_neg h1]
      simp [h6, h17]
set_option maxHeartbeats 4000000 in
set_option maxRecDepth 100000 in
theorem walk (w : World) (hE : Ic.Env w) (a0 : Mk) (w0 : a0.Wf) (a1 : Int) (w1 : (Lit.int .u16 a1).wf = true) (a2 : Int) (w2 : (Lit.int .u8 a2).wf = true) :
    Calls Tryd.prog 6 #[a0.val, .int .u16 a1, .int .u8 a2] w fun e w' => e = .returned (.bool true) ∧ Below w.heap.size w w' := by
  have hm : ((⟨a0.kind % 2, a0.src, a0.dst, a0.sport, a0.dport, a0.flags, a0.ttl, a0.body, a0.zero, a0.frm, a0.dest⟩ : Mk)).Wf := ⟨by show 0 ≤ a0.kind % 2 ∧ a0.kind % 2 ≤ 255; omega, w0.src, w0.dst, w0.sport, w0.dport, w0.flags, w0.ttl, w0.body, w0.frm, w0.dest⟩
  have hf2 : 0 ≤ a1 ∧ a1 ≤ 65535 := bounds_u16 w1
  have hp2 : 0 ≤ a2 ∧ a2 ≤ 255 := bounds_u8 w2
  have KE := hide (fun u h => examples_any u h)
  have FA := hide (fun u => frame_any ((⟨a0.kind % 2, a0.src, a0.dst, a0.sport, a0.dport, a0.flags, a0.ttl, a0.body, a0.zero, a0.frm, a0.dest⟩ : Mk)) u hm)
  obtain ⟨sz1, sz2⟩ := frame_size hm
  generalize hFe : frameS ((⟨a0.kind % 2, a0.src, a0.dst, a0.sport, a0.dport, a0.flags, a0.ttl, a0.body, a0.zero, a0.frm, a0.dest⟩ : Mk)) = F at *
  obtain ⟨B, hB1⟩ : ∃ B, F.extract 20 F.size = B := ⟨_, rfl⟩
  have hBs : B.size ≤ 1480 := by rw [← hB1, ByteArray.size_extract]; omega
  have hB2 : (20 : Int) ≤ F.size := by omega
  have k1 : a1.tmod 8191 = a1 % 8191 := Int.tmod_eq_emod_of_nonneg hf2.1
  have k1w : IntKind.u16.wrap (a1 % 8191) = a1 % 8191 := by rw [IntKind.wrap_u16]; omega
  have k1i : IntKind.i64.wrap (a1 % 8191) = a1 % 8191 := Oct.wraps_i64 _ (by omega) (by omega)
  have m0 : 0 ≤ a1 % 8191 := by omega
  have m1 : a1 % 8191 < 8191 := by omega
  have kp : IntKind.i64.wrap a2 = a2 := Oct.wraps_i64 _ hp2.1 (by omega)
  have k2 : a0.kind.tmod 2 = a0.kind % 2 := Int.tmod_eq_emod_of_nonneg w0.kind.1
  have k2w : IntKind.u8.wrap (a0.kind % 2) = a0.kind % 2 := by rw [IntKind.wrap_u8]; omega
  obtain ⟨kd0, kd1⟩ := w0.kind
  obtain ⟨K, hK⟩ : ∃ K, 1 + a1 % 8191 = K := ⟨_, rfl⟩
  obtain ⟨p1, q1⟩ := parts_frag w0.src w0.dst (show 1 ≤ K ∧ K ≤ 8191 by omega) hBs
  obtain ⟨p2, q2⟩ := parts_flag w0.src w0.dst hBs
  obtain ⟨p3, q3⟩ := parts_proto w0.src w0.dst hp2 hBs
  have B1 := hide (fun u => Ip.rbuild_any _ B u p1.w (by omega))
  have B2 := hide (fun u => Ip.rbuild_any _ B u p2.w (by omega))
  have B3 := hide (fun u => Ip.rbuild_any _ B u p3.w (by omega))
  rw [(ip_build p1).1, (ip_build p1).2] at B1
  rw [(ip_build p2).1, (ip_build p2).2] at B2
  rw [(ip_build p3).1, (ip_build p3).2] at B3
  have C1 := hide (fun u h => classify_any (Ip.built ⟨0, 0, 0, K, 5, 6, a0.src, a0.dst, ⟨#[]⟩⟩ B) u (by rw [ip_size _ rfl]; omega) h)
  have C2 := hide (fun u h => classify_any (Ip.built ⟨0, 0, 1, 0, 5, 6, a0.src, a0.dst, ⟨#[]⟩⟩ B) u (by rw [ip_size _ rfl]; omega) h)
  have C3 := hide (fun u h => classify_any (Ip.built ⟨0, 0, 0, 0, 5, a2, a0.src, a0.dst, ⟨#[]⟩⟩ B) u (by rw [ip_size _ rfl]; omega) h)
  rw [q1] at C1
  rw [q2] at C2
  change Hid (∀ u, Calls _ _ #[.agg #[.int .i64 0, .int .i64 0, .int .i64 0, .int .i64 K, .int .i64 5, .int .i64 6, .int .u32 a0.src, .int .u32 a0.dst, .string ⟨#[]⟩], .string B] u fun e w' => e = .returned (.tuple #[.string (Ip.built ⟨0, 0, 0, K, 5, 6, a0.src, a0.dst, ⟨#[]⟩⟩ B), .int .i64 0]) ∧ Below u.heap.size u w') at B1
  change Hid (∀ u, Calls _ _ #[.agg #[.int .i64 0, .int .i64 0, .int .i64 1, .int .i64 0, .int .i64 5, .int .i64 6, .int .u32 a0.src, .int .u32 a0.dst, .string ⟨#[]⟩], .string B] u fun e w' => e = .returned (.tuple #[.string (Ip.built ⟨0, 0, 1, 0, 5, 6, a0.src, a0.dst, ⟨#[]⟩⟩ B), .int .i64 0]) ∧ Below u.heap.size u w') at B2
  change Hid (∀ u, Calls _ _ #[.agg #[.int .i64 0, .int .i64 0, .int .i64 0, .int .i64 0, .int .i64 5, .int .i64 a2, .int .u32 a0.src, .int .u32 a0.dst, .string ⟨#[]⟩], .string B] u fun e w' => e = .returned (.tuple #[.string (Ip.built ⟨0, 0, 0, 0, 5, a2, a0.src, a0.dst, ⟨#[]⟩⟩ B), .int .i64 0]) ∧ Below u.heap.size u w') at B3
  generalize clsP (Ip.built ⟨0, 0, 0, K, 5, 6, a0.src, a0.dst, ⟨#[]⟩⟩ B) = P1 at *
  generalize clsP (Ip.built ⟨0, 0, 1, 0, 5, 6, a0.src, a0.dst, ⟨#[]⟩⟩ B) = P2 at *
  generalize clsP (Ip.built ⟨0, 0, 0, 0, 5, a2, a0.src, a0.dst, ⟨#[]⟩⟩ B) = P3 at *
  generalize clsE (Ip.built ⟨0, 0, 0, 0, 5, a2, a0.src, a0.dst, ⟨#[]⟩⟩ B) = Z at *
  generalize Ip.built ⟨0, 0, 0, K, 5, 6, a0.src, a0.dst, ⟨#[]⟩⟩ B = S1 at *
  generalize Ip.built ⟨0, 0, 1, 0, 5, 6, a0.src, a0.dst, ⟨#[]⟩⟩ B = S2 at *
  generalize Ip.built ⟨0, 0, 0, 0, 5, a2, a0.src, a0.dst, ⟨#[]⟩⟩ B = S3 at *
  have HZ := hide q3
  have hd28 : decide ((F.size : Int) < 28) = false := by simp; omega
  have HE := hide hE
  have HW := hide hm
  have hK2 := hide hK
  clear hE p1 p2 p3 q1 q2 q3 hm w0 w1 w2 hFe hBs hK
  have r0 := row_new w a0.cells 33
  have b0 := alloc_on w (.cells a0.cells.toArray 33)
  have HR := hide (And.intro r0 b0)
  clear r0 b0
  have hKc : 1 + a1 % 8191 = K := unhide hK2
  go_enter Tryd.func6, Tryd.ntmps6
  go_wp2_with fail
  refine (unhide KE _ ((unhide HE).on (unhide HR).2)).mono ?_
  rintro e w1 ⟨rfl, hb⟩
  obtain ⟨r0, b0⟩ := unhide HR
  have r1 := r0.on' hb
  have b1 := Below.then b0 hb
  have c0 := r1.cell 0 _ rfl
  have f0 := r1.free 0
  have r2 := r1.set 0 (.int .u8 (a0.kind % 2))
  have b2 := b1.setCell (p := ⟨w.heap.size, 0, none⟩) (Nat.le_refl _) (.int .u8 (a0.kind % 2))
  obtain ⟨W2, e2⟩ : ∃ V, w1.setCell ⟨w.heap.size, 0, none⟩ (.int .u8 (a0.kind % 2)) = V := ⟨_, rfl⟩
  rw [e2] at r2 b2
  replace r2 : Row W2 w.heap.size ((⟨a0.kind % 2, a0.src, a0.dst, a0.sport, a0.dport, a0.flags, a0.ttl, a0.body, a0.zero, a0.frm, a0.dest⟩ : Mk)).cells := r2
  have d0 := r2.cell 0 _ rfl
  have d1 := r2.cell 1 _ rfl
  have d2 := r2.cell 2 _ rfl
  have d3 := r2.cell 3 _ rfl
  have d4 := r2.cell 4 _ rfl
  have d5 := r2.cell 5 _ rfl
  have d6 := r2.cell 6 _ rfl
  have d7 := r2.cell 7 _ rfl
  have d8 := r2.cell 8 _ rfl
  have d9 := r2.cell 9 _ rfl
  have d10 := r2.cell 10 _ rfl
  have HR := hide (And.intro r2 b2)
  clear r0 b0 r1 b1 r2 b2 hb
  go_wp2_with fail
  refine (unhide FA _).mono ?_
  rintro e W3 ⟨rfl, hb⟩
  clear c0 f0 e2 d0 d1 d2 d3 d4 d5 d6 d7 d8 d9 d10
  obtain ⟨r2, b2⟩ := unhide HR
  have r3 := r2.on' hb
  have b3 := Below.then b2 hb
  have HR := hide (And.intro r3 b3)
  clear r2 b2 r3 b3 hb
  go_wp2_with fail
  clear hKc
  obtain ⟨r3, b3⟩ := unhide HR
  have up3 : ∀ x, Below W3.heap.size W3.drew x → Row x w.heap.size ((⟨a0.kind % 2, a0.src, a0.dst, a0.sport, a0.dport, a0.flags, a0.ttl, a0.body, a0.zero, a0.frm, a0.dest⟩ : Mk)).cells := fun x hb => (r3.of_block (W' := W3.drew) rfl).on hb r3.lt
  refine wp_region_grow (by kernel_rfl) [.int .i64 K, .pointer (some ⟨w.heap.size, 1, none⟩), .int .u32 a0.src, .pointer (some ⟨w.heap.size, 2, none⟩), .int .u32 a0.dst, .agg #[.int .i64 0, .int .i64 0, .int .i64 0, .int .i64 K, .int .i64 5, .int .i64 6, .int .u32 a0.src, .int .u32 a0.dst, .string ⟨#[]⟩], .string F, .string B, .tuple #[.string S1, .int .i64 0], .tuple #[.string S1, .int .i64 0], .string S1, .int .i64 0, .string S1, .int .i64 0] (by kernel_rfl) ?op ?fin
  case op =>
    intro i o bx u ho hbel hS
    match i, ho with
    | 0, ho =>
      obtain rfl := Option.some.inj ho
      have d9 : bx.tmps.getD 9 undef = .int .i64 K := hS.base 9 (by kernel_rfl)
      refine .inl ⟨rfl, ends_value' (c := .int .i64 K) ?_⟩
      simp [execOp, Act.eval, d9]
    | 1, ho =>
      obtain rfl := Option.some.inj ho
      have d3 : bx.tmps.getD 3 undef = .pointer (some ⟨w.heap.size, 0, none⟩) := hS.base 3 (by kernel_rfl)
      refine .inl ⟨rfl, ends_value' (c := .pointer (some ⟨w.heap.size, 1, none⟩)) ?_⟩
      simp [Act.eval, d3, go_sem]
    | 2, ho =>
      obtain rfl := Option.some.inj ho
      have d41 : bx.tmps.getD 41 undef = .pointer (some ⟨w.heap.size, 1, none⟩) := hS.dep 1 41 (by kernel_rfl) (by kernel_rfl)
      have hl := (up3 u hbel).cell 1 _ rfl
      refine .inl ⟨rfl, ends_value' (c := .int .u32 a0.src) ?_⟩
      simp [Act.eval, d41, go_sem, hl]
    | 3, ho =>
      obtain rfl := Option.some.inj ho
      have d3 : bx.tmps.getD 3 undef = .pointer (some ⟨w.heap.size, 0, none⟩) := hS.base 3 (by kernel_rfl)
      refine .inl ⟨rfl, ends_value' (c := .pointer (some ⟨w.heap.size, 2, none⟩)) ?_⟩
      simp [Act.eval, d3, go_sem]
    | 4, ho =>
      obtain rfl := Option.some.inj ho
      have d43 : bx.tmps.getD 43 undef = .pointer (some ⟨w.heap.size, 2, none⟩) := hS.dep 3 43 (by kernel_rfl) (by kernel_rfl)
      have hl := (up3 u hbel).cell 2 _ rfl
      refine .inl ⟨rfl, ends_value' (c := .int .u32 a0.dst) ?_⟩
      simp [Act.eval, d43, go_sem, hl]
    | 5, ho =>
      obtain rfl := Option.some.inj ho
      have d40 : bx.tmps.getD 40 undef = .int .i64 K := hS.dep 0 40 (by kernel_rfl) (by kernel_rfl)
      have q40 : bx.tmps[40]?.getD undef = .int .i64 K := by rw [← Array.getD_eq_getD_getElem?]; exact d40
      have d42 : bx.tmps.getD 42 undef = .int .u32 a0.src := hS.dep 2 42 (by kernel_rfl) (by kernel_rfl)
      have q42 : bx.tmps[42]?.getD undef = .int .u32 a0.src := by rw [← Array.getD_eq_getD_getElem?]; exact d42
      have d44 : bx.tmps.getD 44 undef = .int .u32 a0.dst := hS.dep 4 44 (by kernel_rfl) (by kernel_rfl)
      have q44 : bx.tmps[44]?.getD undef = .int .u32 a0.dst := by rw [← Array.getD_eq_getD_getElem?]; exact d44
      refine .inl ⟨rfl, ends_value' (c := .agg #[.int .i64 0, .int .i64 0, .int .i64 0, .int .i64 K, .int .i64 5, .int .i64 6, .int .u32 a0.src, .int .u32 a0.dst, .string ⟨#[]⟩]) ?_⟩
      simp [Act.eval, q40, q42, q44, go_sem]
    | 6, ho =>
      obtain rfl := Option.some.inj ho
      have d8 : bx.tmps.getD 8 undef = .string F := hS.base 8 (by kernel_rfl)
      refine .inl ⟨rfl, ends_value' (c := .string F) ?_⟩
      simp [execOp, Act.eval, d8]
    | 7, ho =>
      obtain rfl := Option.some.inj ho
      have d46 : bx.tmps.getD 46 undef = .string F := hS.dep 6 46 (by kernel_rfl) (by kernel_rfl)
      refine .inl ⟨rfl, ends_value' (c := .string B) ?_⟩
      simp [Act.eval, d46, go_sem, hB1, hB2]
    | 8, ho =>
      obtain rfl := Option.some.inj ho
      have d45 : bx.tmps.getD 45 undef = .agg #[.int .i64 0, .int .i64 0, .int .i64 0, .int .i64 K, .int .i64 5, .int .i64 6, .int .u32 a0.src, .int .u32 a0.dst, .string ⟨#[]⟩] := hS.dep 5 45 (by kernel_rfl) (by kernel_rfl)
      have d47 : bx.tmps.getD 47 undef = .string B := hS.dep 7 47 (by kernel_rfl) (by kernel_rfl)
      refine .inl ⟨rfl, ends_call' (c := .tuple #[.string S1, .int .i64 0]) (f := 15) (args := #[.agg #[.int .i64 0, .int .i64 0, .int .i64 0, .int .i64 K, .int .i64 5, .int .i64 6, .int .u32 a0.src, .int .u32 a0.dst, .string ⟨#[]⟩], .string B]) ?_ (unhide B1 u)⟩
      simp [Act.eval, d45, d47, go_sem]
    | 9, ho =>
      obtain rfl := Option.some.inj ho
      have d48 : bx.tmps.getD 48 undef = .tuple #[.string S1, .int .i64 0] := hS.dep 8 48 (by kernel_rfl) (by kernel_rfl)
      refine .inl ⟨rfl, ends_value' (c := .tuple #[.string S1, .int .i64 0]) ?_⟩
      simp [execOp, Act.eval, d48]
    | 10, ho =>
      obtain rfl := Option.some.inj ho
      have d39 : bx.tmps.getD 39 undef = .tuple #[.string S1, .int .i64 0] := hS.dep 9 39 (by kernel_rfl) (by kernel_rfl)
      refine .inl ⟨rfl, ends_value' (c := .string S1) ?_⟩
      simp [Act.eval, d39, go_sem]
    | 11, ho =>
      obtain rfl := Option.some.inj ho
      have d39 : bx.tmps.getD 39 undef = .tuple #[.string S1, .int .i64 0] := hS.dep 9 39 (by kernel_rfl) (by kernel_rfl)
      refine .inl ⟨rfl, ends_value' (c := .int .i64 0) ?_⟩
      simp [Act.eval, d39, go_sem]
    | 12, ho =>
      obtain rfl := Option.some.inj ho
      have d49 : bx.tmps.getD 49 undef = .string S1 := hS.dep 10 49 (by kernel_rfl) (by kernel_rfl)
      refine .inl ⟨rfl, ends_value' (c := .string S1) ?_⟩
      simp [execOp, Act.eval, d49]
    | 13, ho =>
      obtain rfl := Option.some.inj ho
      have d50 : bx.tmps.getD 50 undef = .int .i64 0 := hS.dep 11 50 (by kernel_rfl) (by kernel_rfl)
      refine .inl ⟨rfl, ends_value' (c := .int .i64 0) ?_⟩
      simp [execOp, Act.eval, d50]
    | n + 14, ho => exact absurd ho (by simp)
  case fin =>
    intro W4 hbel4
    simp [putAll, dstAt, Act.put]
    have b4 := Below.then b3 (show Below W3.heap.size W3 W4 from ⟨hbel4.os, hbel4.tape, hbel4.output, hbel4.size, hbel4.block⟩)
    have r4 := up3 W4 hbel4
    have HR := hide (And.intro r4 b4)
    clear up3 r3 b3 r4 b4 hbel4
    go_wp2_with fail
    obtain ⟨r4, b4⟩ := unhide HR
    have up4 : ∀ x, Below W4.heap.size W4.drew x → Row x w.heap.size ((⟨a0.kind % 2, a0.src, a0.dst, a0.sport, a0.dport, a0.flags, a0.ttl, a0.body, a0.zero, a0.frm, a0.dest⟩ : Mk)).cells := fun x hb => (r4.of_block (W' := W4.drew) rfl).on hb r4.lt
    refine wp_region_grow (by kernel_rfl) [.pointer (some ⟨w.heap.size, 1, none⟩), .int .u32 a0.src, .pointer (some ⟨w.heap.size, 2, none⟩), .int .u32 a0.dst, .agg #[.int .i64 0, .int .i64 0, .int .i64 1, .int .i64 0, .int .i64 5, .int .i64 6, .int .u32 a0.src, .int .u32 a0.dst, .string ⟨#[]⟩], .string F, .string B, .tuple #[.string S2, .int .i64 0], .tuple #[.string S2, .int .i64 0], .string S2, .int .i64 0, .string S2, .int .i64 0] (by kernel_rfl) ?op ?fin
    case op =>
      intro i o bx u ho hbel hS
      match i, ho with
      | 0, ho =>
        obtain rfl := Option.some.inj ho
        have d3 : bx.tmps.getD 3 undef = .pointer (some ⟨w.heap.size, 0, none⟩) := hS.base 3 (by kernel_rfl)
        refine .inl ⟨rfl, ends_value' (c := .pointer (some ⟨w.heap.size, 1, none⟩)) ?_⟩
        simp [Act.eval, d3, go_sem]
      | 1, ho =>
        obtain rfl := Option.some.inj ho
        have d52 : bx.tmps.getD 52 undef = .pointer (some ⟨w.heap.size, 1, none⟩) := hS.dep 0 52 (by kernel_rfl) (by kernel_rfl)
        have hl := (up4 u hbel).cell 1 _ rfl
        refine .inl ⟨rfl, ends_value' (c := .int .u32 a0.src) ?_⟩
        simp [Act.eval, d52, go_sem, hl]
      | 2, ho =>
        obtain rfl := Option.some.inj ho
        have d3 : bx.tmps.getD 3 undef = .pointer (some ⟨w.heap.size, 0, none⟩) := hS.base 3 (by kernel_rfl)
        refine .inl ⟨rfl, ends_value' (c := .pointer (some ⟨w.heap.size, 2, none⟩)) ?_⟩
        simp [Act.eval, d3, go_sem]
      | 3, ho =>
        obtain rfl := Option.some.inj ho
        have d54 : bx.tmps.getD 54 undef = .pointer (some ⟨w.heap.size, 2, none⟩) := hS.dep 2 54 (by kernel_rfl) (by kernel_rfl)
        have hl := (up4 u hbel).cell 2 _ rfl
        refine .inl ⟨rfl, ends_value' (c := .int .u32 a0.dst) ?_⟩
        simp [Act.eval, d54, go_sem, hl]
      | 4, ho =>
        obtain rfl := Option.some.inj ho
        have d53 : bx.tmps.getD 53 undef = .int .u32 a0.src := hS.dep 1 53 (by kernel_rfl) (by kernel_rfl)
        have q53 : bx.tmps[53]?.getD undef = .int .u32 a0.src := by rw [← Array.getD_eq_getD_getElem?]; exact d53
        have d55 : bx.tmps.getD 55 undef = .int .u32 a0.dst := hS.dep 3 55 (by kernel_rfl) (by kernel_rfl)
        have q55 : bx.tmps[55]?.getD undef = .int .u32 a0.dst := by rw [← Array.getD_eq_getD_getElem?]; exact d55
        refine .inl ⟨rfl, ends_value' (c := .agg #[.int .i64 0, .int .i64 0, .int .i64 1, .int .i64 0, .int .i64 5, .int .i64 6, .int .u32 a0.src, .int .u32 a0.dst, .string ⟨#[]⟩]) ?_⟩
        simp [Act.eval, q53, q55, go_sem]
      | 5, ho =>
        obtain rfl := Option.some.inj ho
        have d8 : bx.tmps.getD 8 undef = .string F := hS.base 8 (by kernel_rfl)
        refine .inl ⟨rfl, ends_value' (c := .string F) ?_⟩
        simp [execOp, Act.eval, d8]
      | 6, ho =>
        obtain rfl := Option.some.inj ho
        have d57 : bx.tmps.getD 57 undef = .string F := hS.dep 5 57 (by kernel_rfl) (by kernel_rfl)
        refine .inl ⟨rfl, ends_value' (c := .string B) ?_⟩
        simp [Act.eval, d57, go_sem, hB1, hB2]
      | 7, ho =>
        obtain rfl := Option.some.inj ho
        have d56 : bx.tmps.getD 56 undef = .agg #[.int .i64 0, .int .i64 0, .int .i64 1, .int .i64 0, .int .i64 5, .int .i64 6, .int .u32 a0.src, .int .u32 a0.dst, .string ⟨#[]⟩] := hS.dep 4 56 (by kernel_rfl) (by kernel_rfl)
        have d58 : bx.tmps.getD 58 undef = .string B := hS.dep 6 58 (by kernel_rfl) (by kernel_rfl)
        refine .inl ⟨rfl, ends_call' (c := .tuple #[.string S2, .int .i64 0]) (f := 15) (args := #[.agg #[.int .i64 0, .int .i64 0, .int .i64 1, .int .i64 0, .int .i64 5, .int .i64 6, .int .u32 a0.src, .int .u32 a0.dst, .string ⟨#[]⟩], .string B]) ?_ (unhide B2 u)⟩
        simp [Act.eval, d56, d58, go_sem]
      | 8, ho =>
        obtain rfl := Option.some.inj ho
        have d59 : bx.tmps.getD 59 undef = .tuple #[.string S2, .int .i64 0] := hS.dep 7 59 (by kernel_rfl) (by kernel_rfl)
        refine .inl ⟨rfl, ends_value' (c := .tuple #[.string S2, .int .i64 0]) ?_⟩
        simp [execOp, Act.eval, d59]
      | 9, ho =>
        obtain rfl := Option.some.inj ho
        have d51 : bx.tmps.getD 51 undef = .tuple #[.string S2, .int .i64 0] := hS.dep 8 51 (by kernel_rfl) (by kernel_rfl)
        refine .inl ⟨rfl, ends_value' (c := .string S2) ?_⟩
        simp [Act.eval, d51, go_sem]
      | 10, ho =>
        obtain rfl := Option.some.inj ho
        have d51 : bx.tmps.getD 51 undef = .tuple #[.string S2, .int .i64 0] := hS.dep 8 51 (by kernel_rfl) (by kernel_rfl)
        refine .inl ⟨rfl, ends_value' (c := .int .i64 0) ?_⟩
        simp [Act.eval, d51, go_sem]
      | 11, ho =>
        obtain rfl := Option.some.inj ho
        have d60 : bx.tmps.getD 60 undef = .string S2 := hS.dep 9 60 (by kernel_rfl) (by kernel_rfl)
        refine .inl ⟨rfl, ends_value' (c := .string S2) ?_⟩
        simp [execOp, Act.eval, d60]
      | 12, ho =>
        obtain rfl := Option.some.inj ho
        have d61 : bx.tmps.getD 61 undef = .int .i64 0 := hS.dep 10 61 (by kernel_rfl) (by kernel_rfl)
        refine .inl ⟨rfl, ends_value' (c := .int .i64 0) ?_⟩
        simp [execOp, Act.eval, d61]
      | n + 13, ho => exact absurd ho (by simp)
    case fin =>
      intro W5 hbel5
      simp [putAll, dstAt, Act.put]
      have b5 := Below.then b4 (show Below W4.heap.size W4 W5 from ⟨hbel5.os, hbel5.tape, hbel5.output, hbel5.size, hbel5.block⟩)
      have r5 := up4 W5 hbel5
      have HR := hide (And.intro r5 b5)
      clear up4 r4 b4 r5 b5 hbel5
      go_wp2_with fail
      obtain ⟨r5, b5⟩ := unhide HR
      have up5 : ∀ x, Below W5.heap.size W5.drew x → Row x w.heap.size ((⟨a0.kind % 2, a0.src, a0.dst, a0.sport, a0.dport, a0.flags, a0.ttl, a0.body, a0.zero, a0.frm, a0.dest⟩ : Mk)).cells := fun x hb => (r5.of_block (W' := W5.drew) rfl).on hb r5.lt
      refine wp_region_grow (by kernel_rfl) [.int .u8 a2, .int .i64 a2, .pointer (some ⟨w.heap.size, 1, none⟩), .int .u32 a0.src, .pointer (some ⟨w.heap.size, 2, none⟩), .int .u32 a0.dst, .agg #[.int .i64 0, .int .i64 0, .int .i64 0, .int .i64 0, .int .i64 5, .int .i64 a2, .int .u32 a0.src, .int .u32 a0.dst, .string ⟨#[]⟩], .string F, .string B, .tuple #[.string S3, .int .i64 0], .tuple #[.string S3, .int .i64 0], .string S3, .int .i64 0, .string S3, .int .i64 0] (by kernel_rfl) ?op ?fin
      case op =>
        intro i o bx u ho hbel hS
        match i, ho with
        | 0, ho =>
          obtain rfl := Option.some.inj ho
          have d2 : bx.tmps.getD 2 undef = .int .u8 a2 := hS.base 2 (by kernel_rfl)
          refine .inl ⟨rfl, ends_value' (c := .int .u8 a2) ?_⟩
          simp [execOp, Act.eval, d2]
        | 1, ho =>
          obtain rfl := Option.some.inj ho
          have d63 : bx.tmps.getD 63 undef = .int .u8 a2 := hS.dep 0 63 (by kernel_rfl) (by kernel_rfl)
          refine .inl ⟨rfl, ends_value' (c := .int .i64 a2) ?_⟩
          simp [Act.eval, d63, go_sem, kp]
        | 2, ho =>
          obtain rfl := Option.some.inj ho
          have d3 : bx.tmps.getD 3 undef = .pointer (some ⟨w.heap.size, 0, none⟩) := hS.base 3 (by kernel_rfl)
          refine .inl ⟨rfl, ends_value' (c := .pointer (some ⟨w.heap.size, 1, none⟩)) ?_⟩
          simp [Act.eval, d3, go_sem]
        | 3, ho =>
          obtain rfl := Option.some.inj ho
          have d65 : bx.tmps.getD 65 undef = .pointer (some ⟨w.heap.size, 1, none⟩) := hS.dep 2 65 (by kernel_rfl) (by kernel_rfl)
          have hl := (up5 u hbel).cell 1 _ rfl
          refine .inl ⟨rfl, ends_value' (c := .int .u32 a0.src) ?_⟩
          simp [Act.eval, d65, go_sem, hl]
        | 4, ho =>
          obtain rfl := Option.some.inj ho
          have d3 : bx.tmps.getD 3 undef = .pointer (some ⟨w.heap.size, 0, none⟩) := hS.base 3 (by kernel_rfl)
          refine .inl ⟨rfl, ends_value' (c := .pointer (some ⟨w.heap.size, 2, none⟩)) ?_⟩
          simp [Act.eval, d3, go_sem]
        | 5, ho =>
          obtain rfl := Option.some.inj ho
          have d67 : bx.tmps.getD 67 undef = .pointer (some ⟨w.heap.size, 2, none⟩) := hS.dep 4 67 (by kernel_rfl) (by kernel_rfl)
          have hl := (up5 u hbel).cell 2 _ rfl
          refine .inl ⟨rfl, ends_value' (c := .int .u32 a0.dst) ?_⟩
          simp [Act.eval, d67, go_sem, hl]
        | 6, ho =>
          obtain rfl := Option.some.inj ho
          have d64 : bx.tmps.getD 64 undef = .int .i64 a2 := hS.dep 1 64 (by kernel_rfl) (by kernel_rfl)
          have q64 : bx.tmps[64]?.getD undef = .int .i64 a2 := by rw [← Array.getD_eq_getD_getElem?]; exact d64
          have d66 : bx.tmps.getD 66 undef = .int .u32 a0.src := hS.dep 3 66 (by kernel_rfl) (by kernel_rfl)
          have q66 : bx.tmps[66]?.getD undef = .int .u32 a0.src := by rw [← Array.getD_eq_getD_getElem?]; exact d66
          have d68 : bx.tmps.getD 68 undef = .int .u32 a0.dst := hS.dep 5 68 (by kernel_rfl) (by kernel_rfl)
          have q68 : bx.tmps[68]?.getD undef = .int .u32 a0.dst := by rw [← Array.getD_eq_getD_getElem?]; exact d68
          refine .inl ⟨rfl, ends_value' (c := .agg #[.int .i64 0, .int .i64 0, .int .i64 0, .int .i64 0, .int .i64 5, .int .i64 a2, .int .u32 a0.src, .int .u32 a0.dst, .string ⟨#[]⟩]) ?_⟩
          simp [Act.eval, q64, q66, q68, go_sem]
        | 7, ho =>
          obtain rfl := Option.some.inj ho
          have d8 : bx.tmps.getD 8 undef = .string F := hS.base 8 (by kernel_rfl)
          refine .inl ⟨rfl, ends_value' (c := .string F) ?_⟩
          simp [execOp, Act.eval, d8]
        | 8, ho =>
          obtain rfl := Option.some.inj ho
          have d70 : bx.tmps.getD 70 undef = .string F := hS.dep 7 70 (by kernel_rfl) (by kernel_rfl)
          refine .inl ⟨rfl, ends_value' (c := .string B) ?_⟩
          simp [Act.eval, d70, go_sem, hB1, hB2]
        | 9, ho =>
          obtain rfl := Option.some.inj ho
          have d69 : bx.tmps.getD 69 undef = .agg #[.int .i64 0, .int .i64 0, .int .i64 0, .int .i64 0, .int .i64 5, .int .i64 a2, .int .u32 a0.src, .int .u32 a0.dst, .string ⟨#[]⟩] := hS.dep 6 69 (by kernel_rfl) (by kernel_rfl)
          have d71 : bx.tmps.getD 71 undef = .string B := hS.dep 8 71 (by kernel_rfl) (by kernel_rfl)
          refine .inl ⟨rfl, ends_call' (c := .tuple #[.string S3, .int .i64 0]) (f := 15) (args := #[.agg #[.int .i64 0, .int .i64 0, .int .i64 0, .int .i64 0, .int .i64 5, .int .i64 a2, .int .u32 a0.src, .int .u32 a0.dst, .string ⟨#[]⟩], .string B]) ?_ (unhide B3 u)⟩
          simp [Act.eval, d69, d71, go_sem]
        | 10, ho =>
          obtain rfl := Option.some.inj ho
          have d72 : bx.tmps.getD 72 undef = .tuple #[.string S3, .int .i64 0] := hS.dep 9 72 (by kernel_rfl) (by kernel_rfl)
          refine .inl ⟨rfl, ends_value' (c := .tuple #[.string S3, .int .i64 0]) ?_⟩
          simp [execOp, Act.eval, d72]
        | 11, ho =>
          obtain rfl := Option.some.inj ho
          have d62 : bx.tmps.getD 62 undef = .tuple #[.string S3, .int .i64 0] := hS.dep 10 62 (by kernel_rfl) (by kernel_rfl)
          refine .inl ⟨rfl, ends_value' (c := .string S3) ?_⟩
          simp [Act.eval, d62, go_sem]
        | 12, ho =>
          obtain rfl := Option.some.inj ho
          have d62 : bx.tmps.getD 62 undef = .tuple #[.string S3, .int .i64 0] := hS.dep 10 62 (by kernel_rfl) (by kernel_rfl)
          refine .inl ⟨rfl, ends_value' (c := .int .i64 0) ?_⟩
          simp [Act.eval, d62, go_sem]
        | 13, ho =>
          obtain rfl := Option.some.inj ho
          have d73 : bx.tmps.getD 73 undef = .string S3 := hS.dep 11 73 (by kernel_rfl) (by kernel_rfl)
          refine .inl ⟨rfl, ends_value' (c := .string S3) ?_⟩
          simp [execOp, Act.eval, d73]
        | 14, ho =>
          obtain rfl := Option.some.inj ho
          have d74 : bx.tmps.getD 74 undef = .int .i64 0 := hS.dep 12 74 (by kernel_rfl) (by kernel_rfl)
          refine .inl ⟨rfl, ends_value' (c := .int .i64 0) ?_⟩
          simp [execOp, Act.eval, d74]
        | n + 15, ho => exact absurd ho (by simp)
      case fin =>
        intro W6 hbel6
        simp [putAll, dstAt, Act.put]
        have HB7 := hide (Below.then b5 (show Below W5.heap.size W5 W6 from ⟨hbel6.os, hbel6.tape, hbel6.output, hbel6.size, hbel6.block⟩))
        clear up5 r5 b5 hbel6
        go_wp2_with fail
        refine (unhide C1 _ ((unhide HE).on (unhide HB7))).mono ?_
        rintro e w7 ⟨rfl, hb⟩
        have n7 := alloc_on w7 (.cells P1.cells.toArray 36)
        have HB8 := hide (Below.then (Below.then (unhide HB7) hb) n7)
        clear hb n7
        go_wp2_with fail
        refine (unhide C2 _ ((unhide HE).on (unhide HB8))).mono ?_
        rintro e w8 ⟨rfl, hb⟩
        have n8 := alloc_on w8 (.cells P2.cells.toArray 36)
        have HB9 := hide (Below.then (Below.then (unhide HB8) hb) n8)
        clear hb n8
        go_wp2_with fail
        refine (unhide C3 _ ((unhide HE).on (unhide HB9))).mono ?_
        rintro e w9 ⟨rfl, hb⟩
        have n9 := alloc_on w9 (.cells P3.cells.toArray 36)
        have HBX := hide (Below.then (Below.then (unhide HB9) hb) n9)
        clear hb n9
        by_cases p1 : a2 = 1
        · have t1 : (a2 == 1) = true := by simpa using p1
          go_wp2_with fail
          go_ret
          exact ⟨rfl, unhide HBX⟩
        · have t1 : (a2 == 1) = false := by simpa using p1
          have hz := (unhide HZ) p1
          cases t6 : (a2 == 6) with
          | true =>
            rw [t6] at hz
            replace hz : (Z == 9) = false := hz
            clear p1
            go_wp2_with fail
            go_ret
            exact ⟨rfl, unhide HBX⟩
          | false =>
            cases t17 : (a2 == 17) with
            | true =>
              rw [t6, t17] at hz
              replace hz : (Z == 9) = false := hz
              clear p1
              go_wp2_with fail
              go_ret
              exact ⟨rfl, unhide HBX⟩
            | false =>
              rw [t6, t17] at hz
              replace hz : (Z == 9) = true := hz
              clear p1
              go_wp2_with fail
              go_ret
              exact ⟨rfl, unhide HBX⟩

theorem reads (os : Os) {H : Type} (enc : TypeId × Value → H) : DataW.whole enc Tryd.prog ((World.laidAll Tryd.prog os Rows.packetKeysRow.laid).forCall (fun _ _ => 0) ⟨#[], #[.agg #[.int .u8 0, .int .u32 0, .int .u32 0, .int .u16 0, .int .u16 0, .int .u8 0, .int .u8 0, .string ByteArray.empty, .bool false, .int .u32 0, .int .u32 0], .int .u16 0, .int .u8 0], []⟩).memory Tryd.f6.params.toList Rows.packetPartsSpec.vars false (#[.agg #[.int .u8 0, .int .u32 0, .int .u32 0, .int .u16 0, .int .u16 0, .int .u8 0, .int .u8 0, .string ByteArray.empty, .bool false, .int .u32 0, .int .u32 0], .int .u16 0, .int .u8 0] : Array Value).toList 8 = some ([.agg [.lit (.int .u8 0), .lit (.int .u32 0), .lit (.int .u32 0), .lit (.int .u16 0), .lit (.int .u16 0), .lit (.int .u8 0), .lit (.int .u8 0), .lit (.string []), .lit (.bool false), .lit (.int .u32 0), .lit (.int .u32 0)], .lit (.int .u16 0), .lit (.int .u8 0)], [], []) := by kernel_rfl
set_option maxRecDepth 100000 in
theorem lifted (os : Os) (started : os.Started) (H : Type) (enc : TypeId × Value → H) (F : Stop.Interp) :
    ReturnsInHanded {} Tryd.checked os 6 .any ((OpenSpec.ofChange Rows.packetPartsSpec).preRow enc Tryd.prog Tryd.f6 Rows.packetPartsRow.domain false Rows.packetPartsRow.laid) (((OpenSpec.ofChange Rows.packetPartsSpec).at F).post enc Tryd.prog Tryd.f6 false true false false) := by
  refine returnsInHanded_of_row (C := Tryd.checked) (s := (OpenSpec.ofChange Rows.packetPartsSpec)) own started (by kernel_rfl) Tryd.func6
    (witness_row_at (enc := enc) (C := Tryd.checked) false (World.laidAll Tryd.prog os Rows.packetKeysRow.laid) #[.agg #[.int .u8 0, .int .u32 0, .int .u32 0, .int .u16 0, .int .u16 0, .int .u8 0, .int .u8 0, .string ByteArray.empty, .bool false, .int .u32 0, .int .u32 0], .int .u16 0, .int .u8 0] (World.laidAll_os _ _ _) (by kernel_rfl) (by kernel_rfl) (by kernel_rfl)
      (OpenSpec.preRow_of_cond 8 (reads os enc) (by kernel_rfl) (fun k hk => by cases hk) (by kernel_rfl) (laid_met os _))) ?_
  intro W base args ds gs before hval0 hW _ hcond hsz hL _ _
  have hval : ∀ (j : Nat) t v, Tryd.f6.params[j]? = some t → args[j]? = some v → Value.okWide Tryd.prog W .any base t v := hval0
  have hW' := hW
  obtain ⟨p, q, hA0, hV, rfl, hfz, hnd⟩ := hW
  have hA : DataW.TrodAll enc Tryd.prog W 0 (fun _ => true) true Tryd.f6.params.toList args.toList ds p := hA0
  rw [Tryd.params6] at hA hval
  obtain ⟨v0, vs0, d0, ds0, p0, q0, hargs, rfl, rfl, h0, r0⟩ := trodAll_cons hA
  obtain ⟨v1, vs1, d1, ds1, p1, q1, rfl, rfl, rfl, h1, r1⟩ := trodAll_cons r0
  obtain ⟨v2, vs2, d2, ds2, p2, q2, rfl, rfl, rfl, h2, r2⟩ := trodAll_cons r1
  obtain ⟨rfl, rfl, rfl⟩ := trodAll_nil r2
  obtain rfl : args = #[v0, v1, v2] := by cases args; simp_all
  obtain ⟨rfl, rfl⟩ := trodVars_none hV
  obtain ⟨a0, rfl, rfl, rfl, f0⟩ := open_head (hval 0 33 v0 rfl rfl) h0
  obtain ⟨a1, rfl, rfl, rfl, w1⟩ := open_int Tryd.underlying31 (hval 1 31 v1 rfl rfl) h1
  obtain ⟨a2, rfl, rfl, rfl, w2⟩ := open_int Tryd.underlying5 (hval 2 5 v2 rfl rfl) h2
  clear hA0 hval0
  simp only [List.append_nil] at hW'
  have w0 : a0.Wf := f0.wf (sized_head hsz (j := 0) rfl rfl)
  refine (walk W (env_of hL) a0 w0 a1 w1 a2 w2).mono fun e W' ⟨he, bel⟩ => ?_
  subst he
  exact ⟨_, rfl, _, _, _, [], _, [], hW', (trodAll_cons_mk (shut_bool Tryd.underlying4 _) trodAll_mk0), (trodAll_cons_mk (shut_head a0 f0) (trodAll_cons_mk (shut_int Tryd.underlying31 w1) (trodAll_cons_mk (shut_int Tryd.underlying5 w2) trodAll_mk0))), rfl, bel.frame _, fun h => by cases h⟩

theorem over : Rows.packetPartsRow.holds Tryd.pinned (OpenSpec.ofChange Rows.packetPartsSpec) :=
  OpenClaim.holds_of_cond 6 Tryd.f6 rfl rfl rfl rfl rfl rfl rfl ⟨rfl, rfl, rfl, rfl, rfl⟩ rfl rfl rfl rfl rfl (by kernel_rfl) Tryd.func6 (by kernel_rfl)
    (of_decide_eq_true (by kernel_rfl)) (by unfold Func.isWrapper; first | (rw [if_pos (by decide +kernel)]; kernel_rfl) | (rw [if_neg (by decide +kernel)]; exact ⟨rfl, rfl⟩))
    (fun os started H enc _ F => by rw [OpenClaim.pre_eq_preRow]; exact lifted os started H enc F)

/-- No parameter wants a stand-in; the program's own looks are off. -/
theorem plain (f : FuncId) (fn : Func) (hf : Tryd.pinned.checked.prog.funcNamed Rows.packetPartsRow.func = some f) (hfn : Tryd.pinned.checked.prog.funcs[f]? = some fn) :
    false = Tryd.pinned.checked.prog.looks [] ∧ ∀ (j : Nat) t, fn.params[j]? = some t → Tryd.pinned.checked.prog.wantsStandIn t = false := by
  obtain rfl : f = 6 := Option.some.inj ((show Tryd.prog.funcNamed Rows.packetPartsRow.func = some 6 by kernel_rfl).symm.trans hf) |>.symm
  obtain rfl : fn = Tryd.f6 := (Option.some.inj (Tryd.func6.symm.trans hfn)).symm
  refine ⟨by kernel_rfl, fun j t ht => ?_⟩
  rw [Tryd.params6] at ht
  have hm : t ∈ [33, 31, 5] := by simpa using Array.mem_of_getElem? ht
  have hall : ([33, 31, 5].all fun u => !Tryd.prog.wantsStandIn u) = true := by kernel_rfl
  exact (show Tryd.prog.wantsStandIn t = false by simpa using List.all_eq_true.1 hall t hm)

theorem proved : Rows.PacketPartsCardSaid :=
  Claim7.holds_tied_plain_at .later [] _ _ _ _ over (fun _ h => by cases h) (by kernel_rfl) (fun _ h => by cases h) packetParts_row_tie rfl ⟨rfl, rfl⟩ (by kernel_rfl) rfl plain (by kernel_rfl)
#print axioms proved
end Go.Proofs.YtinllnaekcifjaaDoor.packetParts
