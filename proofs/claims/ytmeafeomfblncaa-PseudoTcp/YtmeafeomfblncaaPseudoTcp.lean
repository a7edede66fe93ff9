/- The law PseudoTcp returns true for every two addresses, every text and every bit of an address, and changes nothing that was there before; no condition but the form's own. -/
import Derived.Test.YtmeafeomfblncaaRows
import Derived.OpenShut
import Derived.ShutString
import Derived.ChangeOld
import Derived.Below
import Derived.SizedLaws
import Derived.Test.YtmeafeomfblncaaPsLaw
import Derived.Test.YtmeafeomfblncaaIpGrow
namespace Go.Proofs.Ytmeafeomfblncaa.pseudoTcp
open Go.ChangeShapes Go.WideShapes Go.ChangeAt Go.RowKit
open Go.ChangeMaps (open_string shut_string)
set_option linter.unusedVariables false
set_option maxHeartbeats 4000000 in
set_option maxRecDepth 100000 in
theorem walk (w : World) (a0 : Int) (a1 : Int) (a2 : ByteArray) (a3 : Int) (w0 : (Lit.int .u32 a0).wf = true) (w1 : (Lit.int .u32 a1).wf = true) (z2 : a2.size ≤ 140737488355328) (w3 : (Lit.int .u8 a3).wf = true) :
    Calls Try.prog 5 #[.int .u32 a0, .int .u32 a1, .string a2, .int .u8 a3] w fun e w' => e = .returned (.bool true) ∧ Below w.heap.size w w' := by
  obtain ⟨s0, s1⟩ := bounds_u32 w0
  obtain ⟨d0, d1⟩ := bounds_u32 w1
  obtain ⟨x0, x1⟩ := bounds_u8 w3
  obtain ⟨m, hmin⟩ : ∃ m : Nat, min (a2.size : Int) 280 = m := ⟨min a2.size 280, by omega⟩
  have hm1 : m ≤ 280 := by omega
  have hm2 : m ≤ a2.size := by omega
  have hm3 : (m : Int) ≤ a2.size := by omega
  have hBs : (a2.extract 0 m).size = m := by rw [Oct.ext_size _ _ _ hm2]; rfl
  generalize hB : a2.extract 0 m = B at *
  have hS : U32 a0 := ⟨s0, by omega⟩
  have hD : U32 a1 := ⟨d0, by omega⟩
  have k32 : a3.tmod 32 = a3 % 32 := Int.tmod_eq_emod_of_nonneg x0
  obtain ⟨M, hM⟩ : ∃ M : Nat, (a3 % 32).toNat = M := ⟨_, rfl⟩
  have hM1 : M < 32 := by omega
  have hMI : a3 % 32 = (M : Int) := by omega
  obtain ⟨PW, hPW⟩ : ∃ PW : Int, (2 : Int) ^ M = PW := ⟨_, rfl⟩
  have hPb : 1 ≤ PW ∧ PW ≤ 2147483648 := by
    have h1 : (2 : Nat) ^ M ≤ 2 ^ 31 := Nat.pow_le_pow_right (by decide) (by omega)
    have h2 : 0 < (2 : Nat) ^ M := Nat.pow_pos (by decide)
    have c : ((2 ^ M : Nat) : Int) = (2 : Int) ^ M := by simp
    have e : (2 : Nat) ^ 31 = 2147483648 := by decide
    omega
  have hsh : IntKind.u32.wrap (2 ^ (a3 % 32).toNat) = PW := by rw [hM, hPW]; exact wrap_u32 PW (by omega) (by omega)
  obtain ⟨hx1, hx2⟩ := xor_pow a0 PW M s0 (by omega) hM1 hPW.symm
  have hbad := tc_wrong B hS hD hx2 M hM1 hx1
  have ht := tc_size B hS hD
  have hs := tcS_size B
  have c0 := tcC_lo a0 a1 B
  have c1 := tcC_hi a0 a1 B
  have HC := hide (fun u => pcheck_any 6 a0 a1 (tcS B) u ⟨by decide, by decide⟩ hS hD (by omega))
  have HF := hide (fun u => pfill_any 6 a0 a1 (tcS B) u ⟨by decide, by decide⟩ hS hD (by omega))
  have HV := hide (fun u => pverify_any 6 a0 a1 (fillS 6 a0 a1 (tcS B)) u ⟨by decide, by decide⟩ hS hD (by omega))
  generalize hXX : bits .xor .u32 a0 PW = XX at *
  have HW := hide (fun u => pverify_any 6 XX a1 (fillS 6 a0 a1 (tcS B)) u ⟨by decide, by decide⟩ hx2 hD (by omega))
  rw [(tc_seg B).chkB, (tc_seg B).chkN hS hD] at HC
  rw [(tc_fill B hS hD).1] at HF
  rw [tc_ver B hS hD] at HV
  rw [hbad] at HW
  change Hid (∀ u, Calls _ _ _ u fun e w' => e = .returned (.tuple #[.int .u16 (tcC a0 a1 B), .bool true]) ∧ _) at HC
  have hf := tc_front B hS hD
  have hk := tc_back B hS hD
  have hi := tc_hi B hS hD (t := fillS 6 a0 a1 (tcS B)) rfl
  have lo := tc_lo B hS hD (t := fillS 6 a0 a1 (tcS B)) rfl
  have hcc : tcS B = zeroS 20 ++ B := rfl
  have r1 := add_run (zeroS 20) B (by rw [zeroS_size]; decide) (by omega)
  rw [← hcc] at r1
  clear hcc
  have hmk := make_run 20 (by decide) (by decide)
  have hcv : ∀ W : World, (convert 37 9 (.slice (some ⟨W.heap.size, 0, none⟩) 20 20)).run Try.prog (W.alloc (.cells (madeCells #[.int .u8 0] 20) 5)).drew = .ok (.string (zeroS 20)) (W.alloc (.cells (madeCells #[.int .u8 0] 20) 5)).drew := fun W => conv_zeros W.drew 20
  generalize fillS 6 a0 a1 (tcS B) = T at *
  generalize tcS B = S at *
  generalize tcC a0 a1 B = c at *
  generalize zeroS 20 = Z at *
  have n16 : 16 < T.size := by omega
  have n17 : 17 < T.size := by omega
  have i6 := hi n16
  have i7 := lo n17
  have hTS : (T.size : Int) = S.size := by omega
  have hd : ((T.size : Int) != (S.size : Int)) = false := by simp; omega
  have hT18 : (18 : Int) ≤ T.size := by omega
  have hS18 : (18 : Int) ≤ S.size := by omega
  have hTm : (T.size : Int) ≤ 300 := by omega
  have hSm : (S.size : Int) ≤ 300 := by omega
  generalize hT16 : T.extract 0 16 = TF at *
  generalize hT8 : T.extract 18 T.size = TB at *
  have jb := join_bytes c c0 c1
  have kc := Oct.wraps_i64 c c0 (by omega)
  have kh := Oct.wraps_i64 (c / 256) (by omega) (by omega)
  have kl := Oct.wraps_i64 (c % 256) (by omega) (by omega)
  have ks := Oct.wraps_i64 (c / 256 * 256) (by omega) (by omega)
  have HK := hide (And.intro kc (And.intro kh (And.intro kl (And.intro ks (And.intro jb (And.intro k32 (And.intro hMI (And.intro hsh hXX))))))))
  have HS0 := hide (And.intro hf (And.intro hk (And.intro hT16 (And.intro hT8 (And.intro i6 i7)))))
  clear hi lo kc kh kl ks jb hf hk hT16 hT8 i6 i7 ht hs hS hD s0 s1 d0 d1 w0 w1 w3 hm1 hm2 hBs hbad hx1 hx2 hPb k32 hMI hsh hXX hPW hM hM1 hTS
  have HX := hide (examples_ok w)
  go_enter Try.func5, Try.ntmps5
  go_wp2_with fail
  refine (unhide HX).mono ?_
  rintro e v1 ⟨rfl, hq⟩
  have HB1 := hide hq
  clear hq
  go_wp2_with fail
  have hcv1 := hcv v1
  go_region
  go_wp2_with fail
  refine (unhide HF _).mono ?_
  rintro e v2 ⟨rfl, hq⟩
  have HB2 := hide (Below.then (unhide HB1) (Below.then ((Below.refl v1.heap.size v1).alloc (Nat.le_refl _) _).drew hq))
  clear hq
  go_wp2_with fail
  refine (unhide HC _).mono ?_
  rintro e v3 ⟨rfl, hq⟩
  have HB3 := hide (Below.then (unhide HB2) hq)
  clear hq
  go_wp2_with fail
  obtain ⟨kc, kh, kl, ks, jb, k32, hMI, hsh, hXX⟩ := unhide HK
  obtain ⟨hf, hk, hT16, hT8, i6, i7⟩ := unhide HS0
  have hf := hf.symm
  have hk := hk.symm
  have n6 : ¬ ((T.size : Int) ≤ 16) := by omega
  have n7 : ¬ ((T.size : Int) ≤ 17) := by omega
  have q1 : (16 : Int) ≤ T.size := by omega
  have q2 : (16 : Int) ≤ S.size := by omega
  have q3 : (18 : Int) ≤ T.size := by omega
  have q4 : (18 : Int) ≤ S.size := by omega
  refine wp_region_grow (by kernel_rfl) [.bool true, .bool true, .string T, .int .u8 (c / 256), .int .i64 (c / 256), .int .i64 (c / 256 * 256), .string T, .int .u8 (c % 256), .int .i64 (c % 256), .int .i64 c, .int .u16 c, .int .i64 c, .bool true, .bool true, .bool true, .string T, .string TF, .string S, .string TF, .bool true, .bool true, .bool true, .string T, .string TB, .string S, .string TB, .bool true, .bool true, .bool true, .int .u32 a0, .int .u32 a1, .string T, .int .i64 0, .bool true, .bool true, .bool true, .int .u32 a0, .int .u8 a3, .int .u8 (a3 % 32), .int .u32 PW, .int .u32 XX, .int .u32 a1, .string T, .int .i64 7, .bool true, .bool true, .bool true] (by kernel_rfl) ?op ?fin
  case op =>
    intro i o bx u ho hbel hS
    match i, ho with
    | 0, ho =>
      obtain rfl := Option.some.inj ho
      have d9 : bx.tmps.getD 9 undef = .bool true := hS.base 9 (by kernel_rfl)
      refine .inl ⟨rfl, ends_value' (c := .bool true) ?_⟩
      simp [execOp, Act.eval, d9]
    | 1, ho =>
      obtain rfl := Option.some.inj ho
      have d52 : bx.tmps.getD 52 undef = .bool true := hS.dep 0 52 (by kernel_rfl) (by kernel_rfl)
      refine .inl ⟨rfl, ends_value' (c := .bool true) ?_⟩
      simp [execOp, Act.eval, d52]
    | 2, ho =>
      obtain rfl := Option.some.inj ho
      have d10 : bx.tmps.getD 10 undef = .string T := hS.base 10 (by kernel_rfl)
      have gd : bx.tmps.getD 53 undef = .bool true := hS.dep 1 53 (by kernel_rfl) (by kernel_rfl)
      refine .inl ⟨wanted_yes (j := 1) (t := 53) (c := true) (by kernel_rfl) (by kernel_rfl) gd, ends_value' (c := .string T) ?_⟩
      simp [execOp, Act.eval, d10]
    | 3, ho =>
      obtain rfl := Option.some.inj ho
      have d54 : bx.tmps.getD 54 undef = .string T := hS.dep 2 54 (by kernel_rfl) (by kernel_rfl)
      have gd : bx.tmps.getD 53 undef = .bool true := hS.dep 1 53 (by kernel_rfl) (by kernel_rfl)
      refine .inl ⟨wanted_yes (j := 1) (t := 53) (c := true) (by kernel_rfl) (by kernel_rfl) gd, ends_value' (c := .int .u8 (c / 256)) ?_⟩
      simp [Act.eval, d54, go_sem, n6, i6]
    | 4, ho =>
      obtain rfl := Option.some.inj ho
      have d55 : bx.tmps.getD 55 undef = .int .u8 (c / 256) := hS.dep 3 55 (by kernel_rfl) (by kernel_rfl)
      have gd : bx.tmps.getD 53 undef = .bool true := hS.dep 1 53 (by kernel_rfl) (by kernel_rfl)
      refine .inl ⟨wanted_yes (j := 1) (t := 53) (c := true) (by kernel_rfl) (by kernel_rfl) gd, ends_value' (c := .int .i64 (c / 256)) ?_⟩
      simp [Act.eval, d55, go_sem, kh]
    | 5, ho =>
      obtain rfl := Option.some.inj ho
      have d56 : bx.tmps.getD 56 undef = .int .i64 (c / 256) := hS.dep 4 56 (by kernel_rfl) (by kernel_rfl)
      have gd : bx.tmps.getD 53 undef = .bool true := hS.dep 1 53 (by kernel_rfl) (by kernel_rfl)
      refine .inl ⟨wanted_yes (j := 1) (t := 53) (c := true) (by kernel_rfl) (by kernel_rfl) gd, ends_value' (c := .int .i64 (c / 256 * 256)) ?_⟩
      simp [Act.eval, d56, go_sem, ks]
    | 6, ho =>
      obtain rfl := Option.some.inj ho
      have d10 : bx.tmps.getD 10 undef = .string T := hS.base 10 (by kernel_rfl)
      have gd : bx.tmps.getD 53 undef = .bool true := hS.dep 1 53 (by kernel_rfl) (by kernel_rfl)
      refine .inl ⟨wanted_yes (j := 1) (t := 53) (c := true) (by kernel_rfl) (by kernel_rfl) gd, ends_value' (c := .string T) ?_⟩
      simp [execOp, Act.eval, d10]
    | 7, ho =>
      obtain rfl := Option.some.inj ho
      have d58 : bx.tmps.getD 58 undef = .string T := hS.dep 6 58 (by kernel_rfl) (by kernel_rfl)
      have gd : bx.tmps.getD 53 undef = .bool true := hS.dep 1 53 (by kernel_rfl) (by kernel_rfl)
      refine .inl ⟨wanted_yes (j := 1) (t := 53) (c := true) (by kernel_rfl) (by kernel_rfl) gd, ends_value' (c := .int .u8 (c % 256)) ?_⟩
      simp [Act.eval, d58, go_sem, n7, i7]
    | 8, ho =>
      obtain rfl := Option.some.inj ho
      have d59 : bx.tmps.getD 59 undef = .int .u8 (c % 256) := hS.dep 7 59 (by kernel_rfl) (by kernel_rfl)
      have gd : bx.tmps.getD 53 undef = .bool true := hS.dep 1 53 (by kernel_rfl) (by kernel_rfl)
      refine .inl ⟨wanted_yes (j := 1) (t := 53) (c := true) (by kernel_rfl) (by kernel_rfl) gd, ends_value' (c := .int .i64 (c % 256)) ?_⟩
      simp [Act.eval, d59, go_sem, kl]
    | 9, ho =>
      obtain rfl := Option.some.inj ho
      have d57 : bx.tmps.getD 57 undef = .int .i64 (c / 256 * 256) := hS.dep 5 57 (by kernel_rfl) (by kernel_rfl)
      have d60 : bx.tmps.getD 60 undef = .int .i64 (c % 256) := hS.dep 8 60 (by kernel_rfl) (by kernel_rfl)
      have gd : bx.tmps.getD 53 undef = .bool true := hS.dep 1 53 (by kernel_rfl) (by kernel_rfl)
      refine .inl ⟨wanted_yes (j := 1) (t := 53) (c := true) (by kernel_rfl) (by kernel_rfl) gd, ends_value' (c := .int .i64 c) ?_⟩
      simp [Act.eval, d57, d60, go_sem, jb]
    | 10, ho =>
      obtain rfl := Option.some.inj ho
      have d12 : bx.tmps.getD 12 undef = .int .u16 c := hS.base 12 (by kernel_rfl)
      have gd : bx.tmps.getD 53 undef = .bool true := hS.dep 1 53 (by kernel_rfl) (by kernel_rfl)
      refine .inl ⟨wanted_yes (j := 1) (t := 53) (c := true) (by kernel_rfl) (by kernel_rfl) gd, ends_value' (c := .int .u16 c) ?_⟩
      simp [execOp, Act.eval, d12]
    | 11, ho =>
      obtain rfl := Option.some.inj ho
      have d62 : bx.tmps.getD 62 undef = .int .u16 c := hS.dep 10 62 (by kernel_rfl) (by kernel_rfl)
      have gd : bx.tmps.getD 53 undef = .bool true := hS.dep 1 53 (by kernel_rfl) (by kernel_rfl)
      refine .inl ⟨wanted_yes (j := 1) (t := 53) (c := true) (by kernel_rfl) (by kernel_rfl) gd, ends_value' (c := .int .i64 c) ?_⟩
      simp [Act.eval, d62, go_sem, kc]
    | 12, ho =>
      obtain rfl := Option.some.inj ho
      have d61 : bx.tmps.getD 61 undef = .int .i64 c := hS.dep 9 61 (by kernel_rfl) (by kernel_rfl)
      have d63 : bx.tmps.getD 63 undef = .int .i64 c := hS.dep 11 63 (by kernel_rfl) (by kernel_rfl)
      have gd : bx.tmps.getD 53 undef = .bool true := hS.dep 1 53 (by kernel_rfl) (by kernel_rfl)
      refine .inl ⟨wanted_yes (j := 1) (t := 53) (c := true) (by kernel_rfl) (by kernel_rfl) gd, ends_value' (c := .bool true) ?_⟩
      simp [Act.eval, d61, d63, go_sem]
    | 13, ho =>
      obtain rfl := Option.some.inj ho
      have d53 : bx.tmps.getD 53 undef = .bool true := hS.dep 1 53 (by kernel_rfl) (by kernel_rfl)
      have d64 : bx.tmps.getD 64 undef = .bool true := hS.dep 12 64 (by kernel_rfl) (by kernel_rfl)
      refine .inl ⟨rfl, ends_value' (c := .bool true) ?_⟩
      simp [Act.eval, d53, d64, go_sem]
    | 14, ho =>
      obtain rfl := Option.some.inj ho
      have d65 : bx.tmps.getD 65 undef = .bool true := hS.dep 13 65 (by kernel_rfl) (by kernel_rfl)
      refine .inl ⟨rfl, ends_value' (c := .bool true) ?_⟩
      simp [execOp, Act.eval, d65]
    | 15, ho =>
      obtain rfl := Option.some.inj ho
      have d10 : bx.tmps.getD 10 undef = .string T := hS.base 10 (by kernel_rfl)
      have gd : bx.tmps.getD 66 undef = .bool true := hS.dep 14 66 (by kernel_rfl) (by kernel_rfl)
      refine .inl ⟨wanted_yes (j := 14) (t := 66) (c := true) (by kernel_rfl) (by kernel_rfl) gd, ends_value' (c := .string T) ?_⟩
      simp [execOp, Act.eval, d10]
    | 16, ho =>
      obtain rfl := Option.some.inj ho
      have d67 : bx.tmps.getD 67 undef = .string T := hS.dep 15 67 (by kernel_rfl) (by kernel_rfl)
      have gd : bx.tmps.getD 66 undef = .bool true := hS.dep 14 66 (by kernel_rfl) (by kernel_rfl)
      refine .inl ⟨wanted_yes (j := 14) (t := 66) (c := true) (by kernel_rfl) (by kernel_rfl) gd, ends_value' (c := .string TF) ?_⟩
      simp [Act.eval, d67, go_sem, q1, hT16]
    | 17, ho =>
      obtain rfl := Option.some.inj ho
      have d2 : bx.tmps.getD 2 undef = .string S := hS.base 2 (by kernel_rfl)
      have gd : bx.tmps.getD 66 undef = .bool true := hS.dep 14 66 (by kernel_rfl) (by kernel_rfl)
      refine .inl ⟨wanted_yes (j := 14) (t := 66) (c := true) (by kernel_rfl) (by kernel_rfl) gd, ends_value' (c := .string S) ?_⟩
      simp [execOp, Act.eval, d2]
    | 18, ho =>
      obtain rfl := Option.some.inj ho
      have d69 : bx.tmps.getD 69 undef = .string S := hS.dep 17 69 (by kernel_rfl) (by kernel_rfl)
      have gd : bx.tmps.getD 66 undef = .bool true := hS.dep 14 66 (by kernel_rfl) (by kernel_rfl)
      refine .inl ⟨wanted_yes (j := 14) (t := 66) (c := true) (by kernel_rfl) (by kernel_rfl) gd, ends_value' (c := .string TF) ?_⟩
      simp [Act.eval, d69, go_sem, q2, hf]
    | 19, ho =>
      obtain rfl := Option.some.inj ho
      have d68 : bx.tmps.getD 68 undef = .string TF := hS.dep 16 68 (by kernel_rfl) (by kernel_rfl)
      have d70 : bx.tmps.getD 70 undef = .string TF := hS.dep 18 70 (by kernel_rfl) (by kernel_rfl)
      have gd : bx.tmps.getD 66 undef = .bool true := hS.dep 14 66 (by kernel_rfl) (by kernel_rfl)
      refine .inl ⟨wanted_yes (j := 14) (t := 66) (c := true) (by kernel_rfl) (by kernel_rfl) gd, ends_value' (c := .bool true) ?_⟩
      simp [Act.eval, d68, d70, go_sem]
    | 20, ho =>
      obtain rfl := Option.some.inj ho
      have d66 : bx.tmps.getD 66 undef = .bool true := hS.dep 14 66 (by kernel_rfl) (by kernel_rfl)
      have d71 : bx.tmps.getD 71 undef = .bool true := hS.dep 19 71 (by kernel_rfl) (by kernel_rfl)
      refine .inl ⟨rfl, ends_value' (c := .bool true) ?_⟩
      simp [Act.eval, d66, d71, go_sem]
    | 21, ho =>
      obtain rfl := Option.some.inj ho
      have d72 : bx.tmps.getD 72 undef = .bool true := hS.dep 20 72 (by kernel_rfl) (by kernel_rfl)
      refine .inl ⟨rfl, ends_value' (c := .bool true) ?_⟩
      simp [execOp, Act.eval, d72]
    | 22, ho =>
      obtain rfl := Option.some.inj ho
      have d10 : bx.tmps.getD 10 undef = .string T := hS.base 10 (by kernel_rfl)
      have gd : bx.tmps.getD 73 undef = .bool true := hS.dep 21 73 (by kernel_rfl) (by kernel_rfl)
      refine .inl ⟨wanted_yes (j := 21) (t := 73) (c := true) (by kernel_rfl) (by kernel_rfl) gd, ends_value' (c := .string T) ?_⟩
      simp [execOp, Act.eval, d10]
    | 23, ho =>
      obtain rfl := Option.some.inj ho
      have d74 : bx.tmps.getD 74 undef = .string T := hS.dep 22 74 (by kernel_rfl) (by kernel_rfl)
      have gd : bx.tmps.getD 73 undef = .bool true := hS.dep 21 73 (by kernel_rfl) (by kernel_rfl)
      refine .inl ⟨wanted_yes (j := 21) (t := 73) (c := true) (by kernel_rfl) (by kernel_rfl) gd, ends_value' (c := .string TB) ?_⟩
      simp [Act.eval, d74, go_sem, q3, hT8]
    | 24, ho =>
      obtain rfl := Option.some.inj ho
      have d2 : bx.tmps.getD 2 undef = .string S := hS.base 2 (by kernel_rfl)
      have gd : bx.tmps.getD 73 undef = .bool true := hS.dep 21 73 (by kernel_rfl) (by kernel_rfl)
      refine .inl ⟨wanted_yes (j := 21) (t := 73) (c := true) (by kernel_rfl) (by kernel_rfl) gd, ends_value' (c := .string S) ?_⟩
      simp [execOp, Act.eval, d2]
    | 25, ho =>
      obtain rfl := Option.some.inj ho
      have d76 : bx.tmps.getD 76 undef = .string S := hS.dep 24 76 (by kernel_rfl) (by kernel_rfl)
      have gd : bx.tmps.getD 73 undef = .bool true := hS.dep 21 73 (by kernel_rfl) (by kernel_rfl)
      refine .inl ⟨wanted_yes (j := 21) (t := 73) (c := true) (by kernel_rfl) (by kernel_rfl) gd, ends_value' (c := .string TB) ?_⟩
      simp [Act.eval, d76, go_sem, q4, hk]
    | 26, ho =>
      obtain rfl := Option.some.inj ho
      have d75 : bx.tmps.getD 75 undef = .string TB := hS.dep 23 75 (by kernel_rfl) (by kernel_rfl)
      have d77 : bx.tmps.getD 77 undef = .string TB := hS.dep 25 77 (by kernel_rfl) (by kernel_rfl)
      have gd : bx.tmps.getD 73 undef = .bool true := hS.dep 21 73 (by kernel_rfl) (by kernel_rfl)
      refine .inl ⟨wanted_yes (j := 21) (t := 73) (c := true) (by kernel_rfl) (by kernel_rfl) gd, ends_value' (c := .bool true) ?_⟩
      simp [Act.eval, d75, d77, go_sem]
    | 27, ho =>
      obtain rfl := Option.some.inj ho
      have d73 : bx.tmps.getD 73 undef = .bool true := hS.dep 21 73 (by kernel_rfl) (by kernel_rfl)
      have d78 : bx.tmps.getD 78 undef = .bool true := hS.dep 26 78 (by kernel_rfl) (by kernel_rfl)
      refine .inl ⟨rfl, ends_value' (c := .bool true) ?_⟩
      simp [Act.eval, d73, d78, go_sem]
    | 28, ho =>
      obtain rfl := Option.some.inj ho
      have d79 : bx.tmps.getD 79 undef = .bool true := hS.dep 27 79 (by kernel_rfl) (by kernel_rfl)
      refine .inl ⟨rfl, ends_value' (c := .bool true) ?_⟩
      simp [execOp, Act.eval, d79]
    | 29, ho =>
      obtain rfl := Option.some.inj ho
      have d0 : bx.tmps.getD 0 undef = .int .u32 a0 := hS.base 0 (by kernel_rfl)
      have gd : bx.tmps.getD 80 undef = .bool true := hS.dep 28 80 (by kernel_rfl) (by kernel_rfl)
      refine .inl ⟨wanted_yes (j := 28) (t := 80) (c := true) (by kernel_rfl) (by kernel_rfl) gd, ends_value' (c := .int .u32 a0) ?_⟩
      simp [execOp, Act.eval, d0]
    | 30, ho =>
      obtain rfl := Option.some.inj ho
      have d1 : bx.tmps.getD 1 undef = .int .u32 a1 := hS.base 1 (by kernel_rfl)
      have gd : bx.tmps.getD 80 undef = .bool true := hS.dep 28 80 (by kernel_rfl) (by kernel_rfl)
      refine .inl ⟨wanted_yes (j := 28) (t := 80) (c := true) (by kernel_rfl) (by kernel_rfl) gd, ends_value' (c := .int .u32 a1) ?_⟩
      simp [execOp, Act.eval, d1]
    | 31, ho =>
      obtain rfl := Option.some.inj ho
      have d10 : bx.tmps.getD 10 undef = .string T := hS.base 10 (by kernel_rfl)
      have gd : bx.tmps.getD 80 undef = .bool true := hS.dep 28 80 (by kernel_rfl) (by kernel_rfl)
      refine .inl ⟨wanted_yes (j := 28) (t := 80) (c := true) (by kernel_rfl) (by kernel_rfl) gd, ends_value' (c := .string T) ?_⟩
      simp [execOp, Act.eval, d10]
    | 32, ho =>
      obtain rfl := Option.some.inj ho
      have d81 : bx.tmps.getD 81 undef = .int .u32 a0 := hS.dep 29 81 (by kernel_rfl) (by kernel_rfl)
      have d82 : bx.tmps.getD 82 undef = .int .u32 a1 := hS.dep 30 82 (by kernel_rfl) (by kernel_rfl)
      have d83 : bx.tmps.getD 83 undef = .string T := hS.dep 31 83 (by kernel_rfl) (by kernel_rfl)
      have gd : bx.tmps.getD 80 undef = .bool true := hS.dep 28 80 (by kernel_rfl) (by kernel_rfl)
      refine .inl ⟨wanted_yes (j := 28) (t := 80) (c := true) (by kernel_rfl) (by kernel_rfl) gd, ends_call' (c := .int .i64 0) (f := 16) (args := #[.int .i64 6, .int .u32 a0, .int .u32 a1, .string T]) ?_ (unhide HV u)⟩
      simp [Act.eval, d81, d82, d83, go_sem]
    | 33, ho =>
      obtain rfl := Option.some.inj ho
      have d84 : bx.tmps.getD 84 undef = .int .i64 0 := hS.dep 32 84 (by kernel_rfl) (by kernel_rfl)
      have gd : bx.tmps.getD 80 undef = .bool true := hS.dep 28 80 (by kernel_rfl) (by kernel_rfl)
      refine .inl ⟨wanted_yes (j := 28) (t := 80) (c := true) (by kernel_rfl) (by kernel_rfl) gd, ends_value' (c := .bool true) ?_⟩
      simp [Act.eval, d84, go_sem]
    | 34, ho =>
      obtain rfl := Option.some.inj ho
      have d80 : bx.tmps.getD 80 undef = .bool true := hS.dep 28 80 (by kernel_rfl) (by kernel_rfl)
      have d85 : bx.tmps.getD 85 undef = .bool true := hS.dep 33 85 (by kernel_rfl) (by kernel_rfl)
      refine .inl ⟨rfl, ends_value' (c := .bool true) ?_⟩
      simp [Act.eval, d80, d85, go_sem]
    | 35, ho =>
      obtain rfl := Option.some.inj ho
      have d86 : bx.tmps.getD 86 undef = .bool true := hS.dep 34 86 (by kernel_rfl) (by kernel_rfl)
      refine .inl ⟨rfl, ends_value' (c := .bool true) ?_⟩
      simp [execOp, Act.eval, d86]
    | 36, ho =>
      obtain rfl := Option.some.inj ho
      have d0 : bx.tmps.getD 0 undef = .int .u32 a0 := hS.base 0 (by kernel_rfl)
      have gd : bx.tmps.getD 87 undef = .bool true := hS.dep 35 87 (by kernel_rfl) (by kernel_rfl)
      refine .inl ⟨wanted_yes (j := 35) (t := 87) (c := true) (by kernel_rfl) (by kernel_rfl) gd, ends_value' (c := .int .u32 a0) ?_⟩
      simp [execOp, Act.eval, d0]
    | 37, ho =>
      obtain rfl := Option.some.inj ho
      have d3 : bx.tmps.getD 3 undef = .int .u8 a3 := hS.base 3 (by kernel_rfl)
      have gd : bx.tmps.getD 87 undef = .bool true := hS.dep 35 87 (by kernel_rfl) (by kernel_rfl)
      refine .inl ⟨wanted_yes (j := 35) (t := 87) (c := true) (by kernel_rfl) (by kernel_rfl) gd, ends_value' (c := .int .u8 a3) ?_⟩
      simp [execOp, Act.eval, d3]
    | 38, ho =>
      obtain rfl := Option.some.inj ho
      have d89 : bx.tmps.getD 89 undef = .int .u8 a3 := hS.dep 37 89 (by kernel_rfl) (by kernel_rfl)
      have gd : bx.tmps.getD 87 undef = .bool true := hS.dep 35 87 (by kernel_rfl) (by kernel_rfl)
      refine .inl ⟨wanted_yes (j := 35) (t := 87) (c := true) (by kernel_rfl) (by kernel_rfl) gd, ends_value' (c := .int .u8 (a3 % 32)) ?_⟩
      simp [Act.eval, d89, go_sem, k32]
    | 39, ho =>
      obtain rfl := Option.some.inj ho
      have d90 : bx.tmps.getD 90 undef = .int .u8 (a3 % 32) := hS.dep 38 90 (by kernel_rfl) (by kernel_rfl)
      have gd : bx.tmps.getD 87 undef = .bool true := hS.dep 35 87 (by kernel_rfl) (by kernel_rfl)
      refine .inl ⟨wanted_yes (j := 35) (t := 87) (c := true) (by kernel_rfl) (by kernel_rfl) gd, ends_value' (c := .int .u32 PW) ?_⟩
      simp [Act.eval, d90, go_sem, hsh]
    | 40, ho =>
      obtain rfl := Option.some.inj ho
      have d88 : bx.tmps.getD 88 undef = .int .u32 a0 := hS.dep 36 88 (by kernel_rfl) (by kernel_rfl)
      have d91 : bx.tmps.getD 91 undef = .int .u32 PW := hS.dep 39 91 (by kernel_rfl) (by kernel_rfl)
      have gd : bx.tmps.getD 87 undef = .bool true := hS.dep 35 87 (by kernel_rfl) (by kernel_rfl)
      refine .inl ⟨wanted_yes (j := 35) (t := 87) (c := true) (by kernel_rfl) (by kernel_rfl) gd, ends_value' (c := .int .u32 XX) ?_⟩
      simp [Act.eval, d88, d91, go_sem, hXX]
    | 41, ho =>
      obtain rfl := Option.some.inj ho
      have d1 : bx.tmps.getD 1 undef = .int .u32 a1 := hS.base 1 (by kernel_rfl)
      have gd : bx.tmps.getD 87 undef = .bool true := hS.dep 35 87 (by kernel_rfl) (by kernel_rfl)
      refine .inl ⟨wanted_yes (j := 35) (t := 87) (c := true) (by kernel_rfl) (by kernel_rfl) gd, ends_value' (c := .int .u32 a1) ?_⟩
      simp [execOp, Act.eval, d1]
    | 42, ho =>
      obtain rfl := Option.some.inj ho
      have d10 : bx.tmps.getD 10 undef = .string T := hS.base 10 (by kernel_rfl)
      have gd : bx.tmps.getD 87 undef = .bool true := hS.dep 35 87 (by kernel_rfl) (by kernel_rfl)
      refine .inl ⟨wanted_yes (j := 35) (t := 87) (c := true) (by kernel_rfl) (by kernel_rfl) gd, ends_value' (c := .string T) ?_⟩
      simp [execOp, Act.eval, d10]
    | 43, ho =>
      obtain rfl := Option.some.inj ho
      have d92 : bx.tmps.getD 92 undef = .int .u32 XX := hS.dep 40 92 (by kernel_rfl) (by kernel_rfl)
      have d93 : bx.tmps.getD 93 undef = .int .u32 a1 := hS.dep 41 93 (by kernel_rfl) (by kernel_rfl)
      have d94 : bx.tmps.getD 94 undef = .string T := hS.dep 42 94 (by kernel_rfl) (by kernel_rfl)
      have gd : bx.tmps.getD 87 undef = .bool true := hS.dep 35 87 (by kernel_rfl) (by kernel_rfl)
      refine .inl ⟨wanted_yes (j := 35) (t := 87) (c := true) (by kernel_rfl) (by kernel_rfl) gd, ends_call' (c := .int .i64 7) (f := 16) (args := #[.int .i64 6, .int .u32 XX, .int .u32 a1, .string T]) ?_ (unhide HW u)⟩
      simp [Act.eval, d92, d93, d94, go_sem]
    | 44, ho =>
      obtain rfl := Option.some.inj ho
      have d95 : bx.tmps.getD 95 undef = .int .i64 7 := hS.dep 43 95 (by kernel_rfl) (by kernel_rfl)
      have gd : bx.tmps.getD 87 undef = .bool true := hS.dep 35 87 (by kernel_rfl) (by kernel_rfl)
      refine .inl ⟨wanted_yes (j := 35) (t := 87) (c := true) (by kernel_rfl) (by kernel_rfl) gd, ends_value' (c := .bool true) ?_⟩
      simp [Act.eval, d95, go_sem]
    | 45, ho =>
      obtain rfl := Option.some.inj ho
      have d87 : bx.tmps.getD 87 undef = .bool true := hS.dep 35 87 (by kernel_rfl) (by kernel_rfl)
      have d96 : bx.tmps.getD 96 undef = .bool true := hS.dep 44 96 (by kernel_rfl) (by kernel_rfl)
      refine .inl ⟨rfl, ends_value' (c := .bool true) ?_⟩
      simp [Act.eval, d87, d96, go_sem]
    | 46, ho =>
      obtain rfl := Option.some.inj ho
      have d97 : bx.tmps.getD 97 undef = .bool true := hS.dep 45 97 (by kernel_rfl) (by kernel_rfl)
      refine .inl ⟨rfl, ends_value' (c := .bool true) ?_⟩
      simp [execOp, Act.eval, d97]
    | n + 47, ho => exact absurd ho (by simp)
  case fin =>
    intro u hbel
    simp [putAll, dstAt, Act.put]
    go_wp2_with fail
    go_ret
    exact ⟨rfl, (unhide HB3).drew.trans (hbel.mono (unhide HB3).size)⟩

theorem own : ownKnob Try.prog.godebug = none := by kernel_rfl
set_option maxRecDepth 100000 in
theorem lifted (os : Os) (started : os.Started) (H : Type) (enc : TypeId × Value → H) :
    ReturnsInHanded {} Try.checked os 5 .any (Rows.pseudoTcpSpec.pre6 enc Try.prog Try.f5 Rows.pseudoTcpRow.domain false) (Rows.pseudoTcpSpec.post enc Try.prog Try.f5 false true false false) := by
  refine returnsInHanded_of_change_sized (C := Try.checked) own started (by kernel_rfl) Try.func5
    (ChangeSpec.witness6 (enc := enc) (C := Try.checked) false ⟨#[], #[.int .u32 0, .int .u32 0, .string ByteArray.empty, .int .u8 0], []⟩ 8 (by kernel_rfl) (by kernel_rfl) (by kernel_rfl) (by kernel_rfl)) ?_
  intro W base args ds gs before hval0 hW hcnd hsz _
  have hval : ∀ (j : Nat) t v, Try.f5.params[j]? = some t → args[j]? = some v → Value.okWide Try.prog W .any base t v := hval0
  have hW' := hW
  obtain ⟨p, q, hA0, hV, rfl, hfz, hnd⟩ := hW
  have hA : DataW.TrodAll enc Try.prog W 0 (fun _ => true) true Try.f5.params.toList args.toList ds p := hA0
  rw [Try.params5] at hA hval
  obtain ⟨v0, vs0, d0, ds0, p0, q0, hargs, rfl, rfl, h0, r0⟩ := trodAll_cons hA
  obtain ⟨v1, vs1, d1, ds1, p1, q1, rfl, rfl, rfl, h1, r1⟩ := trodAll_cons r0
  obtain ⟨v2, vs2, d2, ds2, p2, q2, rfl, rfl, rfl, h2, r2⟩ := trodAll_cons r1
  obtain ⟨v3, vs3, d3, ds3, p3, q3, rfl, rfl, rfl, h3, r3⟩ := trodAll_cons r2
  obtain ⟨rfl, rfl, rfl⟩ := trodAll_nil r3
  obtain rfl : args = #[v0, v1, v2, v3] := by cases args; simp_all
  obtain ⟨rfl, rfl⟩ := trodVars_none hV
  obtain ⟨a0, rfl, rfl, rfl, w0⟩ := open_int Try.underlying22 (hval 0 22 v0 rfl rfl) h0
  obtain ⟨a1, rfl, rfl, rfl, w1⟩ := open_int Try.underlying22 (hval 1 22 v1 rfl rfl) h1
  obtain ⟨a2, rfl, rfl, rfl, w2⟩ := open_string Try.underlying9 (hval 2 9 v2 rfl rfl) h2
  obtain ⟨a3, rfl, rfl, rfl, w3⟩ := open_int Try.underlying5 (hval 3 5 v3 rfl rfl) h3
  clear hA0 hval0
  simp only [List.append_nil] at hW'
  have z2 : a2.size ≤ 140737488355328 := by
    have hq : a2.data.toList.length ≤ reachBytes := sized_string hsz (j := 2) (t := 9) rfl rfl
    have e : a2.data.toList.length = a2.size := by rw [Array.length_toList]; rfl
    rw [e] at hq
    exact Nat.le_trans hq (Nat.le_of_lt reachBytes_lt)
  refine (walk W a0 a1 a2 a3 w0 w1 z2 w3).mono fun e W' ⟨he, bel⟩ => ?_
  subst he
  exact ⟨_, rfl, _, _, _, [], _, [], hW', (trodAll_cons_mk (shut_bool Try.underlying4 _) trodAll_mk0), (trodAll_cons_mk (shut_int Try.underlying22 w0) (trodAll_cons_mk (shut_int Try.underlying22 w1) (trodAll_cons_mk (shut_string Try.underlying9 w2) (trodAll_cons_mk (shut_int Try.underlying5 w3) trodAll_mk0)))), rfl, bel.frame _, fun h => by cases h⟩

theorem over : Rows.pseudoTcpRow.holds Try.pinned (OpenSpec.ofChange Rows.pseudoTcpSpec) :=
  OpenClaim.holds_of_wide 5 Try.f5 rfl rfl rfl rfl rfl rfl rfl ⟨rfl, rfl, rfl, rfl, rfl⟩ rfl rfl rfl rfl rfl (by kernel_rfl) Try.func5 (by kernel_rfl)
    (of_decide_eq_true (by kernel_rfl)) (by unfold Func.isWrapper; first | (rw [if_pos (by decide +kernel)]; kernel_rfl) | (rw [if_neg (by decide +kernel)]; exact ⟨rfl, rfl⟩))
    (fun os started H enc _ => lifted os started H enc)

theorem proved : Rows.PseudoTcpSaid := over
#print axioms proved
end Go.Proofs.Ytmeafeomfblncaa.pseudoTcp
