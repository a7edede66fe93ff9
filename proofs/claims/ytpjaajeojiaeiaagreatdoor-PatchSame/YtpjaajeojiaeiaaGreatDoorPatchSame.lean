/- PatchSame: just the life, the addresses, the ports and the checks of a packet are others; a UDP check that is 0 stays 0, and none becomes 0; under the given ties of the package's listed variables. -/
import Derived.Test.YtpjaajeojiaeiaaGreatDoorPpLaid
import Derived.Test.YtpjaajeojiaeiaaGreatDoorPkOpM
import Derived.Test.YtpjaajeojiaeiaaGreatDoorPpEx
import Derived.Test.YtpjaajeojiaeiaaGreatDoorPpSame
namespace Go.Proofs.YtpjaajeojiaeiaaGreatDoor.patchSame
open Go.ChangeShapes Go.WideShapes Go.ChangeAt Go.RowKit
open Go.ChangeMaps (open_string shut_string)
open MO
set_option linter.unusedVariables false
theorem byte_of {n : Int} (h0 : 0 ≤ n) (h1 : n ≤ 255) : ((UInt8.ofNat n.toNat).toNat : Int) = n := by
  simp only [UInt8.toNat_ofNat']; omega
set_option maxHeartbeats 8000000 in
set_option maxRecDepth 100000 in
theorem same_t (w : World) (hE : Ic.Env w) (a0 : Mk) (w0 : a0.Wf) (a1 : Int) (w1 : (Lit.int .u32 a1).wf = true) (a2 : Int) (w2 : (Lit.int .u32 a2).wf = true) (a3 : Int) (w3 : (Lit.int .u16 a3).wf = true) (a4 : Int) (w4 : (Lit.int .u16 a4).wf = true) (hkd : a0.kind % 2 = 0) :
    Calls Tryz.prog 6 #[a0.val, .int .u32 a1, .int .u32 a2, .int .u16 a3, .int .u16 a4] w fun e w' => e = .returned (.bool true) ∧ Below w.heap.size w w' := by
  obtain ⟨T, hT⟩ : ∃ T : Int, max a0.ttl 2 = T := ⟨_, rfl⟩
  have T0 : 2 ≤ T := by omega
  have T1 : T ≤ 255 := by have := w0.ttl.2; omega
  obtain ⟨s0, s1⟩ := bounds_u16 w3
  obtain ⟨d0, d1⟩ := bounds_u16 w4
  have k3 : IntKind.i64.wrap a3 = a3 := Oct.wraps_i64 _ s0 (by omega)
  have k4 : IntKind.i64.wrap a4 = a4 := Oct.wraps_i64 _ d0 (by omega)
  have k5 : IntKind.i64.wrap a0.sport = a0.sport := Oct.wraps_i64 _ w0.sport.1 (by have := w0.sport.2; omega)
  have k6 : IntKind.i64.wrap a0.dport = a0.dport := Oct.wraps_i64 _ w0.dport.1 (by have := w0.dport.2; omega)
  have kk : a0.kind.tmod 2 = a0.kind % 2 := Int.tmod_eq_emod_of_nonneg w0.kind.1
  have kw : IntKind.u8.wrap (a0.kind % 2) = a0.kind % 2 := by rw [IntKind.wrap_u8]; omega
  obtain ⟨m, hm⟩ : ∃ m : Mk, (⟨a0.kind % 2, a0.src, a0.dst, a0.sport, a0.dport, a0.flags, T, a0.body, a0.zero, a0.frm, a0.dest⟩ : Mk) = m := ⟨_, rfl⟩
  have wm : m.Wf := by rw [← hm]; exact ⟨by show 0 ≤ a0.kind % 2 ∧ a0.kind % 2 ≤ 255; omega, w0.src, w0.dst, w0.sport, w0.dport, w0.flags, by show 0 ≤ T ∧ T ≤ 255; omega, w0.body, w0.frm, w0.dest⟩
  have hmk : m.kind % 4 < 2 := by rw [← hm]; show a0.kind % 2 % 4 < 2; omega
  have hpr : pr m = 6 := by rw [← hm]; exact if_neg (by show ¬ a0.kind % 2 % 2 = 1; omega)
  have ht0 : m.ttl = T := by rw [← hm]
  have ht1 : m.ttl - 1 = T - 1 := by rw [← hm]
  have wt : (⟨a1, a2, a3, a4⟩ : En).Wf := ⟨bounds_u32 w1, bounds_u32 w2, bounds_u16 w3, bounds_u16 w4⟩
  have tk : (a0.kind % 2 == 1) = false := by rw [hkd]; rfl
  obtain ⟨hsz, h8S, h8F, hsame, hcut⟩ := same_made wm hmk (by rw [ht0]; exact T0) wt
  have PM := plain_made wm hmk wt (by rw [ht0]; exact T0) ⟨#[]⟩
  rw [Ps.app_nil] at PM
  obtain ⟨zf0, zf1⟩ := frame_size wm
  have FA := hide (fun u => frame_any m u wm)
  have P1 := hide (fun u h => plain_any (frameS m) ⟨a1, a2, a3, a4⟩ u (by omega) ⟨wt.src, wt.dst⟩ h)
  rw [PM.1, PM.2] at P1
  clear PM wt
  generalize frameS (turn m ⟨a1, a2, a3, a4⟩ (m.ttl - 1)) = S at *
  generalize frameS m = F at *
  have z1 : (S.size : Int) = F.size := by omega
  have z2 : ¬ ((F.size : Int) < 28) := by omega
  have z3 : (28 : Int) ≤ F.size := by omega
  have k8 : IntKind.u8.wrap (T - 1) = T - 1 := by rw [IntKind.wrap_u8]; omega
  have HT := hide hT
  have HK := hide hkd
  clear hkd
  have hat : (if pr m = 6 then 36 else 26) = 36 := by rw [hpr]; rfl
  rw [hat] at hsame
  rw [← hm] at FA
  have HS := hide hsame
  have HG := hide (And.intro h8S h8F)
  clear hsame h8S h8F hcut hat hpr wm hmk hm hT
  have KE := hide (fun u h => examples_any u h)
  have r0 := row_new w a0.cells 25
  have bel := alloc_on' w (.cells a0.cells.toArray 25)
  go_enter Tryz.func6, Tryz.ntmps6
  have r0c0 := r0.cell 0 _ rfl
  have r0c1 := r0.cell 1 _ rfl
  have r0c2 := r0.cell 2 _ rfl
  have r0c3 := r0.cell 3 _ rfl
  have r0c4 := r0.cell 4 _ rfl
  have r0c5 := r0.cell 5 _ rfl
  have r0c6 := r0.cell 6 _ rfl
  have r0c7 := r0.cell 7 _ rfl
  have r0c8 := r0.cell 8 _ rfl
  have r0c9 := r0.cell 9 _ rfl
  have r0c10 := r0.cell 10 _ rfl
  go_wp2_with fail
  refine (unhide KE _ (hE.on bel)).mono ?_
  rintro e v1 ⟨rfl, hb⟩
  replace r0 := r0.on' hb
  replace bel := Below.then bel hb
  clear r0c0 r0c1 r0c2 r0c3 r0c4 r0c5 r0c6 r0c7 r0c8 r0c9 r0c10
  clear hb
  have hT := unhide HT
  have k0c0 := r0.cell 0 _ rfl
  have sr0c2 := r0.cell 0 _ rfl
  have sr0f2 := r0.free 0
  replace r0 := r0.set 0 (.int .u8 (a0.kind % 2))
  replace bel := bel.setCell (p := ⟨w.heap.size, 0, none⟩) (show w.heap.size ≤ w.heap.size by omega) (.int .u8 (a0.kind % 2))
  obtain ⟨V2, eV2⟩ : ∃ V, v1.setCell ⟨w.heap.size, 0, none⟩ (.int .u8 (a0.kind % 2)) = V := ⟨_, rfl⟩
  rw [eV2] at r0 bel
  replace r0 : Row V2 w.heap.size ([.int .u8 (a0.kind % 2), .int .u32 a0.src, .int .u32 a0.dst, .int .u16 a0.sport, .int .u16 a0.dport, .int .u8 a0.flags, .int .u8 a0.ttl, .string a0.body, .bool a0.zero, .int .u32 a0.frm, .int .u32 a0.dest]) := r0
  have k1c6 := r0.cell 6 _ rfl
  have sr0c3 := r0.cell 6 _ rfl
  have sr0f3 := r0.free 6
  replace r0 := r0.set 6 (.int .u8 T)
  replace bel := bel.setCell (p := ⟨w.heap.size, 6, none⟩) (show w.heap.size ≤ w.heap.size by omega) (.int .u8 T)
  obtain ⟨V3, eV3⟩ : ∃ V, V2.setCell ⟨w.heap.size, 6, none⟩ (.int .u8 T) = V := ⟨_, rfl⟩
  rw [eV3] at r0 bel
  replace r0 : Row V3 w.heap.size ([.int .u8 (a0.kind % 2), .int .u32 a0.src, .int .u32 a0.dst, .int .u16 a0.sport, .int .u16 a0.dport, .int .u8 a0.flags, .int .u8 T, .string a0.body, .bool a0.zero, .int .u32 a0.frm, .int .u32 a0.dest]) := r0
  have r0c0 := r0.cell 0 _ rfl
  have r0c1 := r0.cell 1 _ rfl
  have r0c2 := r0.cell 2 _ rfl
  have r0c3 := r0.cell 3 _ rfl
  have r0c4 := r0.cell 4 _ rfl
  have r0c5 := r0.cell 5 _ rfl
  have r0c6 := r0.cell 6 _ rfl
  have r0c7 := r0.cell 7 _ rfl
  have r0c8 := r0.cell 8 _ rfl
  have r0c9 := r0.cell 9 _ rfl
  have r0c10 := r0.cell 10 _ rfl
  go_wp2_with fail
  refine (unhide FA _).mono ?_
  rintro e v4 ⟨rfl, hb⟩
  replace r0 := r0.on' hb
  replace bel := Below.then bel hb
  clear k0c0 sr0c2 sr0f2 eV2 k1c6 sr0c3 sr0f3 eV3 r0c0 r0c1 r0c2 r0c3 r0c4 r0c5 r0c6 r0c7 r0c8 r0c9 r0c10
  clear hb
  go_wp2_with fail
  refine (unhide P1 _ (hE.on bel)).mono ?_
  rintro e v5 ⟨rfl, hb⟩
  replace r0 := r0.on' hb
  replace bel := Below.then bel hb
  clear hb
  have r0c0 := r0.cell 0 _ rfl
  have r0c8 := r0.cell 8 _ rfl
  go_wp2_with fail
  go_loopw [17] (fun i V => ∃ k : Nat, k ≤ S.size ∧ i = .int .i64 k ∧ Hid (Below w.heap.size w V)) (fun i _ => S.size - (intOf i).toNat)
  case atStart => exact ⟨0, Nat.zero_le _, rfl, bel⟩
  case round =>
    obtain ⟨k, hk, rfl, hq⟩ := hrel
    clear r0c0 r0c8 r0 bel
    by_cases hkn : k < S.size
    · have hkF : k < F.size := by omega
      have hkn' : ¬ ((S.size : Int) ≤ k) := by omega
      have hkF' : ¬ ((F.size : Int) ≤ k) := by omega
      by_cases h8 : k = 8
      case pos =>
        have t1 : ((k : Int) == 8) = true := by simp; omega
        clear h8
        have HB := hq
        clear hq
        go_wp2_with fail
        go_quiet (fail)
        go_wp2_with fail
        go_roundw
        case rel => exact ⟨k + 1, by omega, by go_num, below_drewN (unhide HB) _⟩
        case measure => simp [intOf]; omega
      by_cases hm1 : 10 ≤ k ∧ k < 24
      case pos =>
        have t1 : ((k : Int) == 8) = false := by simp; omega
        have t2 : (decide (10 ≤ (k : Int))) = true := by simp; omega
        have t3 : (decide ((k : Int) < 24)) = true := by simp; omega
        clear hm1
        have HB := hq
        clear hq
        go_wp2_with fail
        go_quiet (fail)
        go_wp2_with fail
        go_roundw
        case rel => exact ⟨k + 1, by omega, by go_num, below_drewN (unhide HB) _⟩
        case measure => simp [intOf]; omega
      by_cases hk1 : k = 36
      case pos =>
        have t1 : ((k : Int) == 8) = false := by simp; omega
        have t2 : (decide (10 ≤ (k : Int))) = true := by simp; omega
        have t3 : (decide ((k : Int) < 24)) = false := by simp; omega
        have t4 : ((k : Int) == 36) = true := by simp; omega
        clear hk1
        have HB := hq
        clear hq
        go_wp2_with fail
        go_quiet (fail)
        go_wp2_with fail
        go_roundw
        case rel => exact ⟨k + 1, by omega, by go_num, below_drewN (unhide HB) _⟩
        case measure => simp [intOf]; omega
      by_cases hk2 : k = 36 + 1
      case pos =>
        have t1 : ((k : Int) == 8) = false := by simp; omega
        have t2 : (decide (10 ≤ (k : Int))) = true := by simp; omega
        have t3 : (decide ((k : Int) < 24)) = false := by simp; omega
        have t4 : ((k : Int) == 36) = false := by simp; omega
        have t5 : ((k : Int) == 37) = true := by simp; omega
        clear hk2
        have HB := hq
        clear hq
        go_wp2_with fail
        go_quiet (fail)
        go_wp2_with fail
        go_roundw
        case rel => exact ⟨k + 1, by omega, by go_num, below_drewN (unhide HB) _⟩
        case measure => simp [intOf]; omega
      obtain ⟨y, hy⟩ : ∃ y : Int, ((F[k]'hkF).toNat : Int) = y := ⟨_, rfl⟩
      have hyS : ((S[k]'hkn).toNat : Int) = y := by
        have h := unhide HS k h8 hm1 hk1 hk2
        rw [Ps.at_list S k hkn, Ps.at_list F k hkF] at h
        rw [h]; exact hy
      by_cases hten : k < 10
      case pos =>
        have t1 : ((k : Int) == 8) = false := by simp; omega
        have t2 : (decide (10 ≤ (k : Int))) = false := by simp; omega
        have t4 : ((k : Int) == 36) = false := by simp; omega
        have t5 : ((k : Int) == 37) = false := by simp; omega
        clear h8 hm1 hk1 hk2 hten
        have HB := hq
        clear hq
        go_wp2_with fail
        go_quiet (fail)
        go_wp2_with fail
        go_roundw
        case rel => exact ⟨k + 1, by omega, by go_num, below_drewN (unhide HB) _⟩
        case measure => simp [intOf]; omega
      case neg =>
        have t1 : ((k : Int) == 8) = false := by simp; omega
        have t2 : (decide (10 ≤ (k : Int))) = true := by simp; omega
        have t3 : (decide ((k : Int) < 24)) = false := by simp; omega
        have t4 : ((k : Int) == 36) = false := by simp; omega
        have t5 : ((k : Int) == 37) = false := by simp; omega
        clear h8 hm1 hk1 hk2 hten
        have HB := hq
        clear hq
        go_wp2_with fail
        go_quiet (fail)
        go_wp2_with fail
        go_roundw
        case rel => exact ⟨k + 1, by omega, by go_num, below_drewN (unhide HB) _⟩
        case measure => simp [intOf]; omega
    · have hk2 : k = S.size := by omega
      subst hk2
      have h28 : 8 < S.size := by omega
      have h28F : 8 < F.size := by omega
      have l1 : ¬ ((S.size : Int) ≤ 8) := by omega
      have l2 : ¬ ((F.size : Int) ≤ 8) := by omega
      have yS : ((S[8]'h28).toNat : Int) = T - 1 := by
        have h := (unhide HG).1
        rw [Ps.at_list S 8 h28] at h
        rw [h, ht1]; exact byte_of (by omega) (by omega)
      have yF : ((F[8]'h28F).toNat : Int) = T := by
        have h := (unhide HG).2
        rw [Ps.at_list F 8 h28F] at h
        rw [h, ht0]; exact byte_of (by omega) (by omega)
      have HB := hq
      clear hq
      go_wp2_with fail
      go_quiet (fail)
      go_wp2_with fail
      go_ret
      exact ⟨rfl, below_drewN (unhide HB) _⟩
set_option maxHeartbeats 8000000 in
set_option maxRecDepth 100000 in
theorem same_z (w : World) (hE : Ic.Env w) (a0 : Mk) (w0 : a0.Wf) (a1 : Int) (w1 : (Lit.int .u32 a1).wf = true) (a2 : Int) (w2 : (Lit.int .u32 a2).wf = true) (a3 : Int) (w3 : (Lit.int .u16 a3).wf = true) (a4 : Int) (w4 : (Lit.int .u16 a4).wf = true) (hkd : a0.kind % 2 = 1) (hz : a0.zero = true) :
    Calls Tryz.prog 6 #[a0.val, .int .u32 a1, .int .u32 a2, .int .u16 a3, .int .u16 a4] w fun e w' => e = .returned (.bool true) ∧ Below w.heap.size w w' := by
  obtain ⟨T, hT⟩ : ∃ T : Int, max a0.ttl 2 = T := ⟨_, rfl⟩
  have T0 : 2 ≤ T := by omega
  have T1 : T ≤ 255 := by have := w0.ttl.2; omega
  obtain ⟨s0, s1⟩ := bounds_u16 w3
  obtain ⟨d0, d1⟩ := bounds_u16 w4
  have k3 : IntKind.i64.wrap a3 = a3 := Oct.wraps_i64 _ s0 (by omega)
  have k4 : IntKind.i64.wrap a4 = a4 := Oct.wraps_i64 _ d0 (by omega)
  have k5 : IntKind.i64.wrap a0.sport = a0.sport := Oct.wraps_i64 _ w0.sport.1 (by have := w0.sport.2; omega)
  have k6 : IntKind.i64.wrap a0.dport = a0.dport := Oct.wraps_i64 _ w0.dport.1 (by have := w0.dport.2; omega)
  have kk : a0.kind.tmod 2 = a0.kind % 2 := Int.tmod_eq_emod_of_nonneg w0.kind.1
  have kw : IntKind.u8.wrap (a0.kind % 2) = a0.kind % 2 := by rw [IntKind.wrap_u8]; omega
  obtain ⟨m, hm⟩ : ∃ m : Mk, (⟨a0.kind % 2, a0.src, a0.dst, a0.sport, a0.dport, a0.flags, T, a0.body, a0.zero, a0.frm, a0.dest⟩ : Mk) = m := ⟨_, rfl⟩
  have wm : m.Wf := by rw [← hm]; exact ⟨by show 0 ≤ a0.kind % 2 ∧ a0.kind % 2 ≤ 255; omega, w0.src, w0.dst, w0.sport, w0.dport, w0.flags, by show 0 ≤ T ∧ T ≤ 255; omega, w0.body, w0.frm, w0.dest⟩
  have hmk : m.kind % 4 < 2 := by rw [← hm]; show a0.kind % 2 % 4 < 2; omega
  have hpr : pr m = 17 := by rw [← hm]; exact if_pos (by show a0.kind % 2 % 2 = 1; omega)
  have ht0 : m.ttl = T := by rw [← hm]
  have ht1 : m.ttl - 1 = T - 1 := by rw [← hm]
  have wt : (⟨a1, a2, a3, a4⟩ : En).Wf := ⟨bounds_u32 w1, bounds_u32 w2, bounds_u16 w3, bounds_u16 w4⟩
  have tk : (a0.kind % 2 == 1) = true := by rw [hkd]; rfl
  obtain ⟨hsz, h8S, h8F, hsame, hcut⟩ := same_made wm hmk (by rw [ht0]; exact T0) wt
  have PM := plain_made wm hmk wt (by rw [ht0]; exact T0) ⟨#[]⟩
  rw [Ps.app_nil] at PM
  obtain ⟨zf0, zf1⟩ := frame_size wm
  have FA := hide (fun u => frame_any m u wm)
  have P1 := hide (fun u h => plain_any (frameS m) ⟨a1, a2, a3, a4⟩ u (by omega) ⟨wt.src, wt.dst⟩ h)
  rw [PM.1, PM.2] at P1
  clear PM wt
  generalize frameS (turn m ⟨a1, a2, a3, a4⟩ (m.ttl - 1)) = S at *
  generalize frameS m = F at *
  have z1 : (S.size : Int) = F.size := by omega
  have z2 : ¬ ((F.size : Int) < 28) := by omega
  have z3 : (28 : Int) ≤ F.size := by omega
  have k8 : IntKind.u8.wrap (T - 1) = T - 1 := by rw [IntKind.wrap_u8]; omega
  have HT := hide hT
  have HK := hide hkd
  clear hkd
  have hat : (if pr m = 6 then 36 else 26) = 26 := by rw [hpr]; rfl
  rw [hat] at hsame
  have hE := hcut hpr
  obtain ⟨E, hEe⟩ : ∃ E, S.extract 26 28 = E := ⟨_, rfl⟩
  rw [hEe] at hE
  rw [uck_zero (turn m ⟨a1, a2, a3, a4⟩ (m.ttl - 1)) (by rw [← hm]; exact hz)] at hE
  have tE : (E.toList == [0, 0]) = true := by rw [ByteArray.toList_eq, hE]; rfl
  clear hE
  rw [← hm] at FA
  have HZ := hide hz
  clear hz
  have HS := hide hsame
  have HG := hide (And.intro h8S h8F)
  clear hsame h8S h8F hcut hat hpr wm hmk hm hT
  have KE := hide (fun u h => examples_any u h)
  have r0 := row_new w a0.cells 25
  have bel := alloc_on' w (.cells a0.cells.toArray 25)
  go_enter Tryz.func6, Tryz.ntmps6
  have r0c0 := r0.cell 0 _ rfl
  have r0c1 := r0.cell 1 _ rfl
  have r0c2 := r0.cell 2 _ rfl
  have r0c3 := r0.cell 3 _ rfl
  have r0c4 := r0.cell 4 _ rfl
  have r0c5 := r0.cell 5 _ rfl
  have r0c6 := r0.cell 6 _ rfl
  have r0c7 := r0.cell 7 _ rfl
  have r0c8 := r0.cell 8 _ rfl
  have r0c9 := r0.cell 9 _ rfl
  have r0c10 := r0.cell 10 _ rfl
  go_wp2_with fail
  refine (unhide KE _ (hE.on bel)).mono ?_
  rintro e v1 ⟨rfl, hb⟩
  replace r0 := r0.on' hb
  replace bel := Below.then bel hb
  clear r0c0 r0c1 r0c2 r0c3 r0c4 r0c5 r0c6 r0c7 r0c8 r0c9 r0c10
  clear hb
  have hT := unhide HT
  have k0c0 := r0.cell 0 _ rfl
  have sr0c2 := r0.cell 0 _ rfl
  have sr0f2 := r0.free 0
  replace r0 := r0.set 0 (.int .u8 (a0.kind % 2))
  replace bel := bel.setCell (p := ⟨w.heap.size, 0, none⟩) (show w.heap.size ≤ w.heap.size by omega) (.int .u8 (a0.kind % 2))
  obtain ⟨V2, eV2⟩ : ∃ V, v1.setCell ⟨w.heap.size, 0, none⟩ (.int .u8 (a0.kind % 2)) = V := ⟨_, rfl⟩
  rw [eV2] at r0 bel
  replace r0 : Row V2 w.heap.size ([.int .u8 (a0.kind % 2), .int .u32 a0.src, .int .u32 a0.dst, .int .u16 a0.sport, .int .u16 a0.dport, .int .u8 a0.flags, .int .u8 a0.ttl, .string a0.body, .bool a0.zero, .int .u32 a0.frm, .int .u32 a0.dest]) := r0
  have k1c6 := r0.cell 6 _ rfl
  have sr0c3 := r0.cell 6 _ rfl
  have sr0f3 := r0.free 6
  replace r0 := r0.set 6 (.int .u8 T)
  replace bel := bel.setCell (p := ⟨w.heap.size, 6, none⟩) (show w.heap.size ≤ w.heap.size by omega) (.int .u8 T)
  obtain ⟨V3, eV3⟩ : ∃ V, V2.setCell ⟨w.heap.size, 6, none⟩ (.int .u8 T) = V := ⟨_, rfl⟩
  rw [eV3] at r0 bel
  replace r0 : Row V3 w.heap.size ([.int .u8 (a0.kind % 2), .int .u32 a0.src, .int .u32 a0.dst, .int .u16 a0.sport, .int .u16 a0.dport, .int .u8 a0.flags, .int .u8 T, .string a0.body, .bool a0.zero, .int .u32 a0.frm, .int .u32 a0.dest]) := r0
  have r0c0 := r0.cell 0 _ rfl
  have r0c1 := r0.cell 1 _ rfl
  have r0c2 := r0.cell 2 _ rfl
  have r0c3 := r0.cell 3 _ rfl
  have r0c4 := r0.cell 4 _ rfl
  have r0c5 := r0.cell 5 _ rfl
  have r0c6 := r0.cell 6 _ rfl
  have r0c7 := r0.cell 7 _ rfl
  have r0c8 := r0.cell 8 _ rfl
  have r0c9 := r0.cell 9 _ rfl
  have r0c10 := r0.cell 10 _ rfl
  go_wp2_with fail
  refine (unhide FA _).mono ?_
  rintro e v4 ⟨rfl, hb⟩
  replace r0 := r0.on' hb
  replace bel := Below.then bel hb
  clear k0c0 sr0c2 sr0f2 eV2 k1c6 sr0c3 sr0f3 eV3 r0c0 r0c1 r0c2 r0c3 r0c4 r0c5 r0c6 r0c7 r0c8 r0c9 r0c10
  clear hb
  go_wp2_with fail
  refine (unhide P1 _ (hE.on bel)).mono ?_
  rintro e v5 ⟨rfl, hb⟩
  replace r0 := r0.on' hb
  replace bel := Below.then bel hb
  clear hb
  have r0c0 := r0.cell 0 _ rfl
  have r0c8 := r0.cell 8 _ rfl
  rw [unhide HZ] at r0c8
  go_wp2_with fail
  go_loopw [17] (fun i V => ∃ k : Nat, k ≤ S.size ∧ i = .int .i64 k ∧ Hid (Below w.heap.size w V)) (fun i _ => S.size - (intOf i).toNat)
  case atStart => exact ⟨0, Nat.zero_le _, rfl, bel⟩
  case round =>
    obtain ⟨k, hk, rfl, hq⟩ := hrel
    clear r0c0 r0c8 r0 bel
    by_cases hkn : k < S.size
    · have hkF : k < F.size := by omega
      have hkn' : ¬ ((S.size : Int) ≤ k) := by omega
      have hkF' : ¬ ((F.size : Int) ≤ k) := by omega
      by_cases h8 : k = 8
      case pos =>
        have t1 : ((k : Int) == 8) = true := by simp; omega
        clear h8
        have HB := hq
        clear hq
        go_wp2_with fail
        go_quiet (fail)
        go_wp2_with fail
        go_roundw
        case rel => exact ⟨k + 1, by omega, by go_num, below_drewN (unhide HB) _⟩
        case measure => simp [intOf]; omega
      by_cases hm1 : 10 ≤ k ∧ k < 24
      case pos =>
        have t1 : ((k : Int) == 8) = false := by simp; omega
        have t2 : (decide (10 ≤ (k : Int))) = true := by simp; omega
        have t3 : (decide ((k : Int) < 24)) = true := by simp; omega
        clear hm1
        have HB := hq
        clear hq
        go_wp2_with fail
        go_quiet (fail)
        go_wp2_with fail
        go_roundw
        case rel => exact ⟨k + 1, by omega, by go_num, below_drewN (unhide HB) _⟩
        case measure => simp [intOf]; omega
      by_cases hk1 : k = 26
      case pos =>
        have t1 : ((k : Int) == 8) = false := by simp; omega
        have t2 : (decide (10 ≤ (k : Int))) = true := by simp; omega
        have t3 : (decide ((k : Int) < 24)) = false := by simp; omega
        have t4 : ((k : Int) == 26) = true := by simp; omega
        clear hk1
        have HB := hq
        clear hq
        go_wp2_with fail
        go_quiet (fail)
        go_wp2_with fail
        go_roundw
        case rel => exact ⟨k + 1, by omega, by go_num, below_drewN (unhide HB) _⟩
        case measure => simp [intOf]; omega
      by_cases hk2 : k = 26 + 1
      case pos =>
        have t1 : ((k : Int) == 8) = false := by simp; omega
        have t2 : (decide (10 ≤ (k : Int))) = true := by simp; omega
        have t3 : (decide ((k : Int) < 24)) = false := by simp; omega
        have t4 : ((k : Int) == 26) = false := by simp; omega
        have t5 : ((k : Int) == 27) = true := by simp; omega
        clear hk2
        have HB := hq
        clear hq
        go_wp2_with fail
        go_quiet (fail)
        go_wp2_with fail
        go_roundw
        case rel => exact ⟨k + 1, by omega, by go_num, below_drewN (unhide HB) _⟩
        case measure => simp [intOf]; omega
      obtain ⟨y, hy⟩ : ∃ y : Int, ((F[k]'hkF).toNat : Int) = y := ⟨_, rfl⟩
      have hyS : ((S[k]'hkn).toNat : Int) = y := by
        have h := unhide HS k h8 hm1 hk1 hk2
        rw [Ps.at_list S k hkn, Ps.at_list F k hkF] at h
        rw [h]; exact hy
      by_cases hten : k < 10
      case pos =>
        have t1 : ((k : Int) == 8) = false := by simp; omega
        have t2 : (decide (10 ≤ (k : Int))) = false := by simp; omega
        have t4 : ((k : Int) == 26) = false := by simp; omega
        have t5 : ((k : Int) == 27) = false := by simp; omega
        clear h8 hm1 hk1 hk2 hten
        have HB := hq
        clear hq
        go_wp2_with fail
        go_quiet (fail)
        go_wp2_with fail
        go_roundw
        case rel => exact ⟨k + 1, by omega, by go_num, below_drewN (unhide HB) _⟩
        case measure => simp [intOf]; omega
      case neg =>
        have t1 : ((k : Int) == 8) = false := by simp; omega
        have t2 : (decide (10 ≤ (k : Int))) = true := by simp; omega
        have t3 : (decide ((k : Int) < 24)) = false := by simp; omega
        have t4 : ((k : Int) == 26) = false := by simp; omega
        have t5 : ((k : Int) == 27) = false := by simp; omega
        clear h8 hm1 hk1 hk2 hten
        have HB := hq
        clear hq
        go_wp2_with fail
        go_quiet (fail)
        go_wp2_with fail
        go_roundw
        case rel => exact ⟨k + 1, by omega, by go_num, below_drewN (unhide HB) _⟩
        case measure => simp [intOf]; omega
    · have hk2 : k = S.size := by omega
      subst hk2
      have h28 : 8 < S.size := by omega
      have h28F : 8 < F.size := by omega
      have l1 : ¬ ((S.size : Int) ≤ 8) := by omega
      have l2 : ¬ ((F.size : Int) ≤ 8) := by omega
      have yS : ((S[8]'h28).toNat : Int) = T - 1 := by
        have h := (unhide HG).1
        rw [Ps.at_list S 8 h28] at h
        rw [h, ht1]; exact byte_of (by omega) (by omega)
      have yF : ((F[8]'h28F).toNat : Int) = T := by
        have h := (unhide HG).2
        rw [Ps.at_list F 8 h28F] at h
        rw [h, ht0]; exact byte_of (by omega) (by omega)
      have HB := hq
      clear hq
      go_wp2_with fail
      go_quiet (fail)
      go_wp2_with fail
      go_ret
      exact ⟨rfl, below_drewN (unhide HB) _⟩
set_option maxHeartbeats 8000000 in
set_option maxRecDepth 100000 in
theorem same_u (w : World) (hE : Ic.Env w) (a0 : Mk) (w0 : a0.Wf) (a1 : Int) (w1 : (Lit.int .u32 a1).wf = true) (a2 : Int) (w2 : (Lit.int .u32 a2).wf = true) (a3 : Int) (w3 : (Lit.int .u16 a3).wf = true) (a4 : Int) (w4 : (Lit.int .u16 a4).wf = true) (hkd : a0.kind % 2 = 1) (hz : a0.zero = false) :
    Calls Tryz.prog 6 #[a0.val, .int .u32 a1, .int .u32 a2, .int .u16 a3, .int .u16 a4] w fun e w' => e = .returned (.bool true) ∧ Below w.heap.size w w' := by
  obtain ⟨T, hT⟩ : ∃ T : Int, max a0.ttl 2 = T := ⟨_, rfl⟩
  have T0 : 2 ≤ T := by omega
  have T1 : T ≤ 255 := by have := w0.ttl.2; omega
  obtain ⟨s0, s1⟩ := bounds_u16 w3
  obtain ⟨d0, d1⟩ := bounds_u16 w4
  have k3 : IntKind.i64.wrap a3 = a3 := Oct.wraps_i64 _ s0 (by omega)
  have k4 : IntKind.i64.wrap a4 = a4 := Oct.wraps_i64 _ d0 (by omega)
  have k5 : IntKind.i64.wrap a0.sport = a0.sport := Oct.wraps_i64 _ w0.sport.1 (by have := w0.sport.2; omega)
  have k6 : IntKind.i64.wrap a0.dport = a0.dport := Oct.wraps_i64 _ w0.dport.1 (by have := w0.dport.2; omega)
  have kk : a0.kind.tmod 2 = a0.kind % 2 := Int.tmod_eq_emod_of_nonneg w0.kind.1
  have kw : IntKind.u8.wrap (a0.kind % 2) = a0.kind % 2 := by rw [IntKind.wrap_u8]; omega
  obtain ⟨m, hm⟩ : ∃ m : Mk, (⟨a0.kind % 2, a0.src, a0.dst, a0.sport, a0.dport, a0.flags, T, a0.body, a0.zero, a0.frm, a0.dest⟩ : Mk) = m := ⟨_, rfl⟩
  have wm : m.Wf := by rw [← hm]; exact ⟨by show 0 ≤ a0.kind % 2 ∧ a0.kind % 2 ≤ 255; omega, w0.src, w0.dst, w0.sport, w0.dport, w0.flags, by show 0 ≤ T ∧ T ≤ 255; omega, w0.body, w0.frm, w0.dest⟩
  have hmk : m.kind % 4 < 2 := by rw [← hm]; show a0.kind % 2 % 4 < 2; omega
  have hpr : pr m = 17 := by rw [← hm]; exact if_pos (by show a0.kind % 2 % 2 = 1; omega)
  have ht0 : m.ttl = T := by rw [← hm]
  have ht1 : m.ttl - 1 = T - 1 := by rw [← hm]
  have wt : (⟨a1, a2, a3, a4⟩ : En).Wf := ⟨bounds_u32 w1, bounds_u32 w2, bounds_u16 w3, bounds_u16 w4⟩
  have tk : (a0.kind % 2 == 1) = true := by rw [hkd]; rfl
  obtain ⟨hsz, h8S, h8F, hsame, hcut⟩ := same_made wm hmk (by rw [ht0]; exact T0) wt
  have PM := plain_made wm hmk wt (by rw [ht0]; exact T0) ⟨#[]⟩
  rw [Ps.app_nil] at PM
  obtain ⟨zf0, zf1⟩ := frame_size wm
  have FA := hide (fun u => frame_any m u wm)
  have P1 := hide (fun u h => plain_any (frameS m) ⟨a1, a2, a3, a4⟩ u (by omega) ⟨wt.src, wt.dst⟩ h)
  rw [PM.1, PM.2] at P1
  clear PM wt
  generalize frameS (turn m ⟨a1, a2, a3, a4⟩ (m.ttl - 1)) = S at *
  generalize frameS m = F at *
  have z1 : (S.size : Int) = F.size := by omega
  have z2 : ¬ ((F.size : Int) < 28) := by omega
  have z3 : (28 : Int) ≤ F.size := by omega
  have k8 : IntKind.u8.wrap (T - 1) = T - 1 := by rw [IntKind.wrap_u8]; omega
  have HT := hide hT
  have HK := hide hkd
  clear hkd
  have hat : (if pr m = 6 then 36 else 26) = 26 := by rw [hpr]; rfl
  rw [hat] at hsame
  have hE := hcut hpr
  obtain ⟨E, hEe⟩ : ∃ E, S.extract 26 28 = E := ⟨_, rfl⟩
  rw [hEe] at hE
  have hne := uck_some (turn m ⟨a1, a2, a3, a4⟩ (m.ttl - 1)) (by rw [← hm]; exact hz)
  rw [← hE] at hne
  have tE : (E.toList == [0, 0]) = false := by rw [ByteArray.toList_eq]; simpa using hne
  have tE2 : ¬ E.toList = [0, 0] := by simpa using tE
  clear hne
  clear hE
  rw [← hm] at FA
  have HZ := hide hz
  clear hz
  have HS := hide hsame
  have HG := hide (And.intro h8S h8F)
  clear hsame h8S h8F hcut hat hpr wm hmk hm hT
  have KE := hide (fun u h => examples_any u h)
  have r0 := row_new w a0.cells 25
  have bel := alloc_on' w (.cells a0.cells.toArray 25)
  go_enter Tryz.func6, Tryz.ntmps6
  have r0c0 := r0.cell 0 _ rfl
  have r0c1 := r0.cell 1 _ rfl
  have r0c2 := r0.cell 2 _ rfl
  have r0c3 := r0.cell 3 _ rfl
  have r0c4 := r0.cell 4 _ rfl
  have r0c5 := r0.cell 5 _ rfl
  have r0c6 := r0.cell 6 _ rfl
  have r0c7 := r0.cell 7 _ rfl
  have r0c8 := r0.cell 8 _ rfl
  have r0c9 := r0.cell 9 _ rfl
  have r0c10 := r0.cell 10 _ rfl
  go_wp2_with fail
  refine (unhide KE _ (hE.on bel)).mono ?_
  rintro e v1 ⟨rfl, hb⟩
  replace r0 := r0.on' hb
  replace bel := Below.then bel hb
  clear r0c0 r0c1 r0c2 r0c3 r0c4 r0c5 r0c6 r0c7 r0c8 r0c9 r0c10
  clear hb
  have hT := unhide HT
  have k0c0 := r0.cell 0 _ rfl
  have sr0c2 := r0.cell 0 _ rfl
  have sr0f2 := r0.free 0
  replace r0 := r0.set 0 (.int .u8 (a0.kind % 2))
  replace bel := bel.setCell (p := ⟨w.heap.size, 0, none⟩) (show w.heap.size ≤ w.heap.size by omega) (.int .u8 (a0.kind % 2))
  obtain ⟨V2, eV2⟩ : ∃ V, v1.setCell ⟨w.heap.size, 0, none⟩ (.int .u8 (a0.kind % 2)) = V := ⟨_, rfl⟩
  rw [eV2] at r0 bel
  replace r0 : Row V2 w.heap.size ([.int .u8 (a0.kind % 2), .int .u32 a0.src, .int .u32 a0.dst, .int .u16 a0.sport, .int .u16 a0.dport, .int .u8 a0.flags, .int .u8 a0.ttl, .string a0.body, .bool a0.zero, .int .u32 a0.frm, .int .u32 a0.dest]) := r0
  have k1c6 := r0.cell 6 _ rfl
  have sr0c3 := r0.cell 6 _ rfl
  have sr0f3 := r0.free 6
  replace r0 := r0.set 6 (.int .u8 T)
  replace bel := bel.setCell (p := ⟨w.heap.size, 6, none⟩) (show w.heap.size ≤ w.heap.size by omega) (.int .u8 T)
  obtain ⟨V3, eV3⟩ : ∃ V, V2.setCell ⟨w.heap.size, 6, none⟩ (.int .u8 T) = V := ⟨_, rfl⟩
  rw [eV3] at r0 bel
  replace r0 : Row V3 w.heap.size ([.int .u8 (a0.kind % 2), .int .u32 a0.src, .int .u32 a0.dst, .int .u16 a0.sport, .int .u16 a0.dport, .int .u8 a0.flags, .int .u8 T, .string a0.body, .bool a0.zero, .int .u32 a0.frm, .int .u32 a0.dest]) := r0
  have r0c0 := r0.cell 0 _ rfl
  have r0c1 := r0.cell 1 _ rfl
  have r0c2 := r0.cell 2 _ rfl
  have r0c3 := r0.cell 3 _ rfl
  have r0c4 := r0.cell 4 _ rfl
  have r0c5 := r0.cell 5 _ rfl
  have r0c6 := r0.cell 6 _ rfl
  have r0c7 := r0.cell 7 _ rfl
  have r0c8 := r0.cell 8 _ rfl
  have r0c9 := r0.cell 9 _ rfl
  have r0c10 := r0.cell 10 _ rfl
  go_wp2_with fail
  refine (unhide FA _).mono ?_
  rintro e v4 ⟨rfl, hb⟩
  replace r0 := r0.on' hb
  replace bel := Below.then bel hb
  clear k0c0 sr0c2 sr0f2 eV2 k1c6 sr0c3 sr0f3 eV3 r0c0 r0c1 r0c2 r0c3 r0c4 r0c5 r0c6 r0c7 r0c8 r0c9 r0c10
  clear hb
  go_wp2_with fail
  refine (unhide P1 _ (hE.on bel)).mono ?_
  rintro e v5 ⟨rfl, hb⟩
  replace r0 := r0.on' hb
  replace bel := Below.then bel hb
  clear hb
  have r0c0 := r0.cell 0 _ rfl
  have r0c8 := r0.cell 8 _ rfl
  rw [unhide HZ] at r0c8
  go_wp2_with fail
  go_loopw [17] (fun i V => ∃ k : Nat, k ≤ S.size ∧ i = .int .i64 k ∧ Hid (Below w.heap.size w V)) (fun i _ => S.size - (intOf i).toNat)
  case atStart => exact ⟨0, Nat.zero_le _, rfl, bel⟩
  case round =>
    obtain ⟨k, hk, rfl, hq⟩ := hrel
    clear r0c0 r0c8 r0 bel
    by_cases hkn : k < S.size
    · have hkF : k < F.size := by omega
      have hkn' : ¬ ((S.size : Int) ≤ k) := by omega
      have hkF' : ¬ ((F.size : Int) ≤ k) := by omega
      by_cases h8 : k = 8
      case pos =>
        have t1 : ((k : Int) == 8) = true := by simp; omega
        clear h8
        have HB := hq
        clear hq
        go_wp2_with fail
        go_quiet (fail)
        go_wp2_with fail
        go_roundw
        case rel => exact ⟨k + 1, by omega, by go_num, below_drewN (unhide HB) _⟩
        case measure => simp [intOf]; omega
      by_cases hm1 : 10 ≤ k ∧ k < 24
      case pos =>
        have t1 : ((k : Int) == 8) = false := by simp; omega
        have t2 : (decide (10 ≤ (k : Int))) = true := by simp; omega
        have t3 : (decide ((k : Int) < 24)) = true := by simp; omega
        clear hm1
        have HB := hq
        clear hq
        go_wp2_with fail
        go_quiet (fail)
        go_wp2_with fail
        go_roundw
        case rel => exact ⟨k + 1, by omega, by go_num, below_drewN (unhide HB) _⟩
        case measure => simp [intOf]; omega
      by_cases hk1 : k = 26
      case pos =>
        have t1 : ((k : Int) == 8) = false := by simp; omega
        have t2 : (decide (10 ≤ (k : Int))) = true := by simp; omega
        have t3 : (decide ((k : Int) < 24)) = false := by simp; omega
        have t4 : ((k : Int) == 26) = true := by simp; omega
        clear hk1
        have HB := hq
        clear hq
        go_wp2_with fail
        go_quiet (fail)
        go_wp2_with fail
        go_roundw
        case rel => exact ⟨k + 1, by omega, by go_num, below_drewN (unhide HB) _⟩
        case measure => simp [intOf]; omega
      by_cases hk2 : k = 26 + 1
      case pos =>
        have t1 : ((k : Int) == 8) = false := by simp; omega
        have t2 : (decide (10 ≤ (k : Int))) = true := by simp; omega
        have t3 : (decide ((k : Int) < 24)) = false := by simp; omega
        have t4 : ((k : Int) == 26) = false := by simp; omega
        have t5 : ((k : Int) == 27) = true := by simp; omega
        clear hk2
        have HB := hq
        clear hq
        go_wp2_with fail
        go_quiet (fail)
        go_wp2_with fail
        go_roundw
        case rel => exact ⟨k + 1, by omega, by go_num, below_drewN (unhide HB) _⟩
        case measure => simp [intOf]; omega
      obtain ⟨y, hy⟩ : ∃ y : Int, ((F[k]'hkF).toNat : Int) = y := ⟨_, rfl⟩
      have hyS : ((S[k]'hkn).toNat : Int) = y := by
        have h := unhide HS k h8 hm1 hk1 hk2
        rw [Ps.at_list S k hkn, Ps.at_list F k hkF] at h
        rw [h]; exact hy
      by_cases hten : k < 10
      case pos =>
        have t1 : ((k : Int) == 8) = false := by simp; omega
        have t2 : (decide (10 ≤ (k : Int))) = false := by simp; omega
        have t4 : ((k : Int) == 26) = false := by simp; omega
        have t5 : ((k : Int) == 27) = false := by simp; omega
        clear h8 hm1 hk1 hk2 hten
        have HB := hq
        clear hq
        go_wp2_with fail
        go_quiet (fail)
        go_wp2_with fail
        go_roundw
        case rel => exact ⟨k + 1, by omega, by go_num, below_drewN (unhide HB) _⟩
        case measure => simp [intOf]; omega
      case neg =>
        have t1 : ((k : Int) == 8) = false := by simp; omega
        have t2 : (decide (10 ≤ (k : Int))) = true := by simp; omega
        have t3 : (decide ((k : Int) < 24)) = false := by simp; omega
        have t4 : ((k : Int) == 26) = false := by simp; omega
        have t5 : ((k : Int) == 27) = false := by simp; omega
        clear h8 hm1 hk1 hk2 hten
        have HB := hq
        clear hq
        go_wp2_with fail
        go_quiet (fail)
        go_wp2_with fail
        go_roundw
        case rel => exact ⟨k + 1, by omega, by go_num, below_drewN (unhide HB) _⟩
        case measure => simp [intOf]; omega
    · have hk2 : k = S.size := by omega
      subst hk2
      have h28 : 8 < S.size := by omega
      have h28F : 8 < F.size := by omega
      have l1 : ¬ ((S.size : Int) ≤ 8) := by omega
      have l2 : ¬ ((F.size : Int) ≤ 8) := by omega
      have yS : ((S[8]'h28).toNat : Int) = T - 1 := by
        have h := (unhide HG).1
        rw [Ps.at_list S 8 h28] at h
        rw [h, ht1]; exact byte_of (by omega) (by omega)
      have yF : ((F[8]'h28F).toNat : Int) = T := by
        have h := (unhide HG).2
        rw [Ps.at_list F 8 h28F] at h
        rw [h, ht0]; exact byte_of (by omega) (by omega)
      have HB := hq
      clear hq
      go_wp2_with fail
      go_quiet (fail)
      go_wp2_with fail
      go_ret
      exact ⟨rfl, below_drewN (unhide HB) _⟩
set_option maxHeartbeats 8000000 in
set_option maxRecDepth 100000 in
theorem walk (w : World) (hE : Ic.Env w) (a0 : Mk) (w0 : a0.Wf) (a1 : Int) (w1 : (Lit.int .u32 a1).wf = true) (a2 : Int) (w2 : (Lit.int .u32 a2).wf = true) (a3 : Int) (w3 : (Lit.int .u16 a3).wf = true) (a4 : Int) (w4 : (Lit.int .u16 a4).wf = true) :
    Calls Tryz.prog 6 #[a0.val, .int .u32 a1, .int .u32 a2, .int .u16 a3, .int .u16 a4] w fun e w' => e = .returned (.bool true) ∧ Below w.heap.size w w' := by
  by_cases hkd : a0.kind % 2 = 1
  · cases hz : a0.zero with
    | true => exact same_z w hE a0 w0 a1 w1 a2 w2 a3 w3 a4 w4 hkd hz
    | false => exact same_u w hE a0 w0 a1 w1 a2 w2 a3 w3 a4 w4 hkd hz
  · exact same_t w hE a0 w0 a1 w1 a2 w2 a3 w3 a4 w4 (by omega)

theorem reads (os : Os) {H : Type} (enc : TypeId × Value → H) : DataW.whole enc Tryz.prog ((World.laidAll Tryz.prog os Rows.patchBackRow.laid).forCall (fun _ _ => 0) ⟨#[], #[.agg #[.int .u8 0, .int .u32 0, .int .u32 0, .int .u16 0, .int .u16 0, .int .u8 0, .int .u8 0, .string ByteArray.empty, .bool false, .int .u32 0, .int .u32 0], .int .u32 0, .int .u32 0, .int .u16 0, .int .u16 0], []⟩).memory Tryz.f6.params.toList Rows.patchSameSpec.vars false (#[.agg #[.int .u8 0, .int .u32 0, .int .u32 0, .int .u16 0, .int .u16 0, .int .u8 0, .int .u8 0, .string ByteArray.empty, .bool false, .int .u32 0, .int .u32 0], .int .u32 0, .int .u32 0, .int .u16 0, .int .u16 0] : Array Value).toList 8 = some ([.agg [.lit (.int .u8 0), .lit (.int .u32 0), .lit (.int .u32 0), .lit (.int .u16 0), .lit (.int .u16 0), .lit (.int .u8 0), .lit (.int .u8 0), .lit (.string []), .lit (.bool false), .lit (.int .u32 0), .lit (.int .u32 0)], .lit (.int .u32 0), .lit (.int .u32 0), .lit (.int .u16 0), .lit (.int .u16 0)], [], []) := by kernel_rfl
set_option maxRecDepth 100000 in
theorem lifted (os : Os) (started : os.Started) (H : Type) (enc : TypeId × Value → H) (F : Stop.Interp) :
    ReturnsInHanded {} Tryz.checked os 6 .any ((OpenSpec.ofChange Rows.patchSameSpec).preRow enc Tryz.prog Tryz.f6 Rows.patchSameRow.domain false Rows.patchSameRow.laid) (((OpenSpec.ofChange Rows.patchSameSpec).at F).post enc Tryz.prog Tryz.f6 false true false false) := by
  refine returnsInHanded_of_row (C := Tryz.checked) (s := (OpenSpec.ofChange Rows.patchSameSpec)) own started (by kernel_rfl) Tryz.func6
    (witness_row_at (enc := enc) (C := Tryz.checked) false (World.laidAll Tryz.prog os Rows.patchBackRow.laid) #[.agg #[.int .u8 0, .int .u32 0, .int .u32 0, .int .u16 0, .int .u16 0, .int .u8 0, .int .u8 0, .string ByteArray.empty, .bool false, .int .u32 0, .int .u32 0], .int .u32 0, .int .u32 0, .int .u16 0, .int .u16 0] (World.laidAll_os _ _ _) (by kernel_rfl) (by kernel_rfl) (by kernel_rfl)
      (OpenSpec.preRow_of_cond 8 (reads os enc) (by kernel_rfl) (fun k hk => by cases hk) (by kernel_rfl) (laid_met os _))) ?_
  intro W base args ds gs before hval0 hW _ hcond hsz hL _ _
  have hval : ∀ (j : Nat) t v, Tryz.f6.params[j]? = some t → args[j]? = some v → Value.okWide Tryz.prog W .any base t v := hval0
  have hW' := hW
  obtain ⟨p, q, hA0, hV, rfl, hfz, hnd⟩ := hW
  have hA : DataW.TrodAll enc Tryz.prog W 0 (fun _ => true) true Tryz.f6.params.toList args.toList ds p := hA0
  rw [Tryz.params6] at hA hval
  obtain ⟨v0, vs0, d0, ds0, p0, q0, hargs, rfl, rfl, h0, r0⟩ := trodAll_cons hA
  obtain ⟨v1, vs1, d1, ds1, p1, q1, rfl, rfl, rfl, h1, r1⟩ := trodAll_cons r0
  obtain ⟨v2, vs2, d2, ds2, p2, q2, rfl, rfl, rfl, h2, r2⟩ := trodAll_cons r1
  obtain ⟨v3, vs3, d3, ds3, p3, q3, rfl, rfl, rfl, h3, r3⟩ := trodAll_cons r2
  obtain ⟨v4, vs4, d4, ds4, p4, q4, rfl, rfl, rfl, h4, r4⟩ := trodAll_cons r3
  obtain ⟨rfl, rfl, rfl⟩ := trodAll_nil r4
  obtain rfl : args = #[v0, v1, v2, v3, v4] := by cases args; simp_all
  obtain ⟨rfl, rfl⟩ := trodVars_none hV
  obtain ⟨a0, rfl, rfl, rfl, f0⟩ := open_head (hval 0 25 v0 rfl rfl) h0
  obtain ⟨a1, rfl, rfl, rfl, w1⟩ := open_int Tryz.underlying22 (hval 1 22 v1 rfl rfl) h1
  obtain ⟨a2, rfl, rfl, rfl, w2⟩ := open_int Tryz.underlying22 (hval 2 22 v2 rfl rfl) h2
  obtain ⟨a3, rfl, rfl, rfl, w3⟩ := open_int Tryz.underlying23 (hval 3 23 v3 rfl rfl) h3
  obtain ⟨a4, rfl, rfl, rfl, w4⟩ := open_int Tryz.underlying23 (hval 4 23 v4 rfl rfl) h4
  clear hA0 hval0
  simp only [List.append_nil] at hW'
  have w0 : a0.Wf := f0.wf (sized_head hsz (j := 0) rfl rfl)
  refine (walk W (env_of hL) a0 w0 a1 w1 a2 w2 a3 w3 a4 w4).mono fun e W' ⟨he, bel⟩ => ?_
  subst he
  exact ⟨_, rfl, _, _, _, [], _, [], hW', (trodAll_cons_mk (shut_bool Tryz.underlying4 _) trodAll_mk0), (trodAll_cons_mk (shut_head a0 f0) (trodAll_cons_mk (shut_int Tryz.underlying22 w1) (trodAll_cons_mk (shut_int Tryz.underlying22 w2) (trodAll_cons_mk (shut_int Tryz.underlying23 w3) (trodAll_cons_mk (shut_int Tryz.underlying23 w4) trodAll_mk0))))), rfl, bel.frame _, fun h => by cases h⟩

theorem over : Rows.patchSameRow.holds Tryz.pinned (OpenSpec.ofChange Rows.patchSameSpec) :=
  OpenClaim.holds_of_cond 6 Tryz.f6 rfl rfl rfl rfl rfl rfl rfl ⟨rfl, rfl, rfl, rfl, rfl⟩ rfl rfl rfl rfl rfl (by kernel_rfl) Tryz.func6 (by kernel_rfl)
    (of_decide_eq_true (by kernel_rfl)) (by unfold Func.isWrapper; first | (rw [if_pos (by decide +kernel)]; kernel_rfl) | (rw [if_neg (by decide +kernel)]; exact ⟨rfl, rfl⟩))
    (fun os started H enc _ F => by rw [OpenClaim.pre_eq_preRow]; exact lifted os started H enc F)

/-- No parameter wants a stand-in; the program's own looks are off. -/
theorem plain (f : FuncId) (fn : Func) (hf : Tryz.pinned.checked.prog.funcNamed Rows.patchSameRow.func = some f) (hfn : Tryz.pinned.checked.prog.funcs[f]? = some fn) :
    false = Tryz.pinned.checked.prog.looks [] ∧ ∀ (j : Nat) t, fn.params[j]? = some t → Tryz.pinned.checked.prog.wantsStandIn t = false := by
  obtain rfl : f = 6 := Option.some.inj ((show Tryz.prog.funcNamed Rows.patchSameRow.func = some 6 by kernel_rfl).symm.trans hf) |>.symm
  obtain rfl : fn = Tryz.f6 := (Option.some.inj (Tryz.func6.symm.trans hfn)).symm
  refine ⟨by kernel_rfl, fun j t ht => ?_⟩
  rw [Tryz.params6] at ht
  have hm : t ∈ [25, 22, 22, 23, 23] := by simpa using Array.mem_of_getElem? ht
  have hall : ([25, 22, 22, 23, 23].all fun u => !Tryz.prog.wantsStandIn u) = true := by kernel_rfl
  exact (show Tryz.prog.wantsStandIn t = false by simpa using List.all_eq_true.1 hall t hm)

theorem proved : Rows.PatchSameCardSaid :=
  Claim7.holds_tied_plain_at .later [] _ _ _ _ over (fun _ h => by cases h) (by kernel_rfl) (fun _ h => by cases h) patchSame_row_tie rfl ⟨rfl, rfl⟩ (by kernel_rfl) rfl plain (by kernel_rfl)
#print axioms proved
end Go.Proofs.YtpjaajeojiaeiaaGreatDoor.patchSame
