/- The law PseudoFills returns true for every two addresses, every two ports, every body and every bit, and changes nothing that was there before; no condition but the form's own. -/
import Derived.Test.YtmeafeomfblncaaRows
import Derived.OpenShut
import Derived.ShutString
import Derived.ChangeOld
import Derived.Below
import Derived.SizedLaws
import Derived.Test.YtmeafeomfblncaaPsBit
import Derived.Test.YtmeafeomfblncaaIpGrow
namespace Go.Proofs.Ytmeafeomfblncaa.pseudoFills
open Go.ChangeShapes Go.WideShapes Go.ChangeAt Go.RowKit
open Go.ChangeMaps (open_string shut_string)
set_option linter.unusedVariables false
theorem hdrew {V u : World} {B : Nat} (hb : Below B V.drew u) : Below B V u := ⟨hb.os, hb.tape, hb.output, hb.size, hb.block⟩
theorem text_ne {x y : ByteArray} (h : x ≠ y) : (x.toList == y.toList) = false := by
  apply Bool.eq_false_iff.2
  intro hb
  exact h (Oct.ba_ext (by have := eq_of_beq hb; rwa [ByteArray.toList_eq, ByteArray.toList_eq] at this))
set_option maxHeartbeats 4000000 in
set_option maxRecDepth 100000 in
theorem walk (w : World) (a0 : Int) (a1 : Int) (a2 : Int) (a3 : Int) (a4 : ByteArray) (a5 : Int) (w0 : (Lit.int .u32 a0).wf = true) (w1 : (Lit.int .u32 a1).wf = true) (w2 : (Lit.int .u16 a2).wf = true) (w3 : (Lit.int .u16 a3).wf = true) (z4 : a4.size ≤ 140737488355328) (w5 : (Lit.int .i64 a5).wf = true) :
    Calls Try.prog 4 #[.int .u32 a0, .int .u32 a1, .int .u16 a2, .int .u16 a3, .string a4, .int .i64 a5] w fun e w' => e = .returned (.bool true) ∧ Below w.heap.size w w' := by
  obtain ⟨s0, s1⟩ := bounds_u32 w0
  obtain ⟨d0, d1⟩ := bounds_u32 w1
  obtain ⟨x0, x1⟩ := bounds_u16 w2
  obtain ⟨y0, y1⟩ := bounds_u16 w3
  obtain ⟨b0, b1⟩ := bounds_i64 w5
  obtain ⟨m, hmin⟩ : ∃ m : Nat, min (a4.size : Int) 300 = m := ⟨min a4.size 300, by omega⟩
  have hm1 : m ≤ 300 := by omega
  have hm2 : m ≤ a4.size := by omega
  have hm3 : (m : Int) ≤ a4.size := by omega
  have hBs : (a4.extract 0 m).size = m := by rw [Oct.ext_size _ _ _ hm2]; rfl
  generalize hB : a4.extract 0 m = B at *
  have hS : U32 a0 := ⟨s0, by omega⟩
  have hD : U32 a1 := ⟨d0, by omega⟩
  have g : Dg a0 a1 a2 a3 B := ⟨(inP_iff _).2 ⟨x0, x1⟩, (inP_iff _).2 ⟨y0, y1⟩, by omega, hS, hD⟩
  have hbe := buildE_of g.pa g.pb g.size
  have HBC : Hid (∀ u, Calls Try.prog 18 #[.int .i64 a2, .int .i64 a3, .string B] u fun e u' => e = .returned (.tuple #[.string (built a2 a3 B), .int .i64 0]) ∧ Below u.heap.size u u') := fun u => by
    have := build_any a2 a3 B u (by omega)
    rw [hbe, buildS_of hbe] at this
    exact this
  have hz := built_size g.pa g.pb g.size
  have ht := g.tsize
  have HF := hide (fun u => pfill_any 17 a0 a1 (built a2 a3 B) u ⟨by decide, by decide⟩ hS hD (by omega))
  have HV := hide (fun u => pverify_any 17 a0 a1 (fillS 17 a0 a1 (built a2 a3 B)) u ⟨by decide, by decide⟩ hS hD (by omega))
  have HV2 := hide (fun u => pverify_any 17 a1 a0 (fillS 17 a0 a1 (built a2 a3 B)) u ⟨by decide, by decide⟩ hD hS (by omega))
  have HV0 := hide (fun u => pverify_any 17 a0 a1 (built a2 a3 B) u ⟨by decide, by decide⟩ hS hD (by omega))
  have HVX := hide (fun u (x : ByteArray) (hx : x.size ≤ 1000) => pverify_any 17 a0 a1 x u ⟨by decide, by decide⟩ hS hD (by omega))
  rw [g.fill.1] at HF
  rw [g.ver] at HV
  rw [g.verTurned] at HV2
  rw [g.ver0] at HV0
  have HT := hide (fun (K m : Nat) => dg_bit g rfl K m)
  have hf := g.front
  have hk := g.back
  have hne := text_ne g.notZero
  generalize fillS 17 a0 a1 (built a2 a3 B) = T at *
  generalize built a2 a3 B = S at *
  obtain ⟨n, hn⟩ : ∃ n : Nat, T.size = n := ⟨_, rfl⟩
  have hn0 : 8 ≤ n := by omega
  have hn1 : n ≤ 308 := by omega
  have hSn : (S.size : Int) = n := by omega
  have hS8 : (8 : Int) ≤ S.size := by omega
  have hT8 : (8 : Int) ≤ T.size := by omega
  have hSm : (S.size : Int) ≤ 308 := by omega
  have hTm : (T.size : Int) ≤ 308 := by omega
  have hd1 : ((T.size : Int) != (S.size : Int)) = false := by simp; omega
  have hd2 : decide ((S.size : Int) < 8) = false := by simp; omega
  generalize hTF : T.extract 0 6 = TF at *
  generalize hTB : T.extract 8 T.size = TB at *
  generalize hTM : T.extract 6 8 = TM at *
  replace hf := hf.symm
  replace hk := hk.symm
  have hz2 : (⟨#[0, 0]⟩ : ByteArray).toList = [0, 0] := by rw [ByteArray.toList_eq]
  rw [hz2] at hne
  have hne1 : (TM.toList != [0, 0]) = true := by rw [bne, hne]; rfl
  have hne2 : ¬ TM.toList = [0, 0] := by simpa using hne
  clear hz2
  have HSn := hide hSn
  have HN := hide hn
  clear g hbe hz ht hS hD s0 s1 d0 d1 w0 w1 w2 w3 w5 hm1 hm2 hBs hSn hn
  obtain ⟨A, hA0, hA1, hAd⟩ : ∃ A : Int, 0 ≤ A ∧ A ≤ 9223372036854775807 ∧ ((decide (a5 < 0) = true ∧ -(a5 + 1) = A) ∨ (decide (a5 < 0) = false ∧ a5 = A)) := by
    by_cases h : a5 < 0
    · exact ⟨-(a5 + 1), by omega, by omega, .inl ⟨by simpa using h, rfl⟩⟩
    · exact ⟨a5, by omega, by omega, .inr ⟨by simpa using h, rfl⟩⟩
  have HA := hide hAd
  clear hAd
  have HX := hide (examples_ok w)
  cases h8 : ((S.size : Int) == 8) with
  | true =>
    go_enter Try.func4, Try.ntmps4
    go_wp2_with fail
    refine (unhide HX).mono ?_
    rintro e v1 ⟨rfl, hq⟩
    have HB1 := hide hq
    clear hq
    go_wp2_with fail
    refine (unhide HBC _).mono ?_
    rintro e v2 ⟨rfl, hq⟩
    have HB2 := hide (Below.then (unhide HB1) hq)
    clear hq
    go_wp2_with fail
    refine (unhide HF _).mono ?_
    rintro e v3 ⟨rfl, hq⟩
    have HB3 := hide (Below.then (unhide HB2) hq)
    clear hq
    go_wp2_with fail
    go_quiet (fail)
    go_wp2_with fail
    refine (unhide HV _).mono ?_
    rintro e v4 ⟨rfl, hq⟩
    have HB4 := hide (Below.then (below_drewN (unhide HB3) _) hq)
    clear hq
    go_wp2_with fail
    refine (unhide HV2 _).mono ?_
    rintro e v5 ⟨rfl, hq⟩
    have HB5 := hide (Below.then (unhide HB4) hq)
    clear hq
    go_wp2_with fail
    refine (unhide HV0 _).mono ?_
    rintro e v6 ⟨rfl, hq⟩
    have HB6 := hide (Below.then (unhide HB5) hq)
    clear hq
    go_wp2_with fail
    go_ret
    exact ⟨rfl, unhide HB6⟩
  | false =>
    have hgt : (n : Int) ≠ 8 := by have := unhide HSn; simp at h8; omega
    have hgt : (9 : Int) ≤ S.size := by have := unhide HSn; omega
    obtain ⟨R, hR, hR0, hR1⟩ : ∃ R : Int, A.tmod (8 * ((S.size : Int) - 8)) = R ∧ 0 ≤ R ∧ R < 8 * ((S.size : Int) - 8) := by
      refine ⟨_, rfl, ?_, ?_⟩
      · rw [Int.tmod_eq_emod_of_nonneg hA0]; exact Int.emod_nonneg _ (by omega)
      · rw [Int.tmod_eq_emod_of_nonneg hA0]; exact Int.emod_lt_of_pos _ (by omega)
    have hnz : ¬ (8 * ((S.size : Int) - 8) = 0) := by omega
    go_enter Try.func4, Try.ntmps4
    go_wp2_with fail
    refine (unhide HX).mono ?_
    rintro e v1 ⟨rfl, hq⟩
    have HB1 := hide hq
    clear hq
    go_wp2_with fail
    refine (unhide HBC _).mono ?_
    rintro e v2 ⟨rfl, hq⟩
    have HB2 := hide (Below.then (unhide HB1) hq)
    clear hq
    go_wp2_with fail
    refine (unhide HF _).mono ?_
    rintro e v3 ⟨rfl, hq⟩
    have HB3 := hide (Below.then (unhide HB2) hq)
    clear hq
    go_wp2_with fail
    go_quiet (fail)
    go_wp2_with fail
    refine (unhide HV _).mono ?_
    rintro e v4 ⟨rfl, hq⟩
    have HB4 := hide (Below.then (below_drewN (unhide HB3) _) hq)
    clear hq
    go_wp2_with fail
    refine (unhide HV2 _).mono ?_
    rintro e v5 ⟨rfl, hq⟩
    have HB5 := hide (Below.then (unhide HB4) hq)
    clear hq
    go_wp2_with fail
    refine (unhide HV0 _).mono ?_
    rintro e v6 ⟨rfl, hq⟩
    have HB6 := hide (Below.then (unhide HB5) hq)
    clear hq
    have hn := unhide HN
    obtain ⟨c, V, hcv, hVb, hVt⟩ := conv_bytes T v6
    rw [hn] at hcv
    have hgw := (unhide HB6).size
    have HBV := hide (Below.then (unhide HB6) hVb)
    have hgV : v6.heap.size < V.heap.size := by have := (hVt 0 (by rw [Oct.len_eq]; omega)).1; exact block_lt_of_cell this
    have HHN := hide hn
    clear hVb hn HN
    generalize hg : v6.heap.size = g at *
    rcases unhide HA with ⟨hd, hA⟩ | ⟨hd, hA⟩
    case inl =>
      go_wp2_with fail
      have hn := unhide HHN
      clear hcv
      obtain ⟨Kn, hKn⟩ : ∃ Kn : Nat, ((64 + R) / 8).toNat = Kn := ⟨_, rfl⟩
      have hK0 : 0 ≤ (64 + R) / 8 := by omega
      have hK1 : (64 + R) / 8 < n := by have := unhide HSn; omega
      have hKlt : Kn < n := by omega
      have hK8 : 8 ≤ Kn := by omega
      have hq8 : (64 + R).tdiv 8 = (64 + R) / 8 := Int.tdiv_eq_ediv_of_nonneg (by omega)
      have hq8w : IntKind.i64.wrap ((64 + R) / 8) = (64 + R) / 8 := by rw [IntKind.wrap_i64]; omega
      have hr8 : (64 + R).tmod 8 = (64 + R) % 8 := Int.tmod_eq_emod_of_nonneg (by omega)
      obtain ⟨M8, hM8⟩ : ∃ M8 : Nat, ((64 + R) % 8).toNat = M8 := ⟨_, rfl⟩
      have hM8l : M8 < 8 := by omega
      obtain ⟨PW, hPW⟩ : ∃ PW : Int, (2 : Int) ^ M8 = PW := ⟨_, rfl⟩
      have hPb : 1 ≤ PW ∧ PW ≤ 128 := by
        have hm8 : M8 = 0 ∨ M8 = 1 ∨ M8 = 2 ∨ M8 = 3 ∨ M8 = 4 ∨ M8 = 5 ∨ M8 = 6 ∨ M8 = 7 := by omega
        rcases hm8 with h | h | h | h | h | h | h | h <;> rw [h] at hPW <;> simp at hPW <;> omega
      have hsh : IntKind.u8.wrap (2 ^ ((64 + R) % 8).toNat) = PW := by
        rw [hM8, hPW]
        simp [IntKind.wrap, IntKind.bits, IntKind.signed]; omega
      have hon : ∀ {u : World}, Below V.heap.size V.drew u → Bts u g T.data.toList := fun {u} hb => hVt.on (hdrew hb)
      have hlt : Kn < T.data.toList.length := by rw [Oct.len_eq]; omega
      have hbts : ∀ {u : World}, Below V.heap.size V.drew u → u.cell? ⟨g, Kn, none⟩ = some (.int .u8 ((T.data.toList.getD Kn 0).toNat : Int)) := fun {u} hb => (hon hb Kn hlt).1
      have hbtf : ∀ {u : World}, Below V.heap.size V.drew u → u.frozen? ⟨g, Kn, none⟩ = false := fun {u} hb => (hon hb Kn hlt).2
      obtain ⟨X, hX⟩ : ∃ X : Int, bits .xor .u8 ((T.data.toList.getD Kn 0).toNat : Int) PW = X := ⟨_, rfl⟩
      have hXb := bounds_u8 (wf_bits .xor .u8 ((T.data.toList.getD Kn 0).toNat : Int) PW)
      rw [hX] at hXb
      obtain ⟨hX0, hX1⟩ := hXb
      have hbad : verE 17 a0 a1 (withB T Kn (UInt8.ofNat X.toNat)) = 7 := unhide HT Kn M8 hK8 (by omega) hM8l X (by rw [hPW]; exact hX) hX0 hX1
      generalize hbK : ((T.data.toList.getD Kn 0).toNat : Int) = bK at *
      refine wp_region_grow_store (by kernel_rfl) [.slice (some ⟨g, 0, none⟩) n c, .int .i64 (64 + R), .int .i64 ((64 + R) / 8), .slice (some ⟨g, 0, none⟩) n c, .int .i64 (64 + R), .int .i64 ((64 + R) / 8), .pointer (some ⟨g, Kn, none⟩), .int .u8 bK, .int .i64 (64 + R), .int .i64 ((64 + R) % 8), .int .u8 PW, .int .u8 X, .pointer (some ⟨g, Kn, none⟩), undef] 13 (fun v => v.setCell ⟨g, Kn, none⟩ (.int .u8 X)) (by kernel_rfl) (by decide) rfl ?op ?store ?fin
      case op =>
        intro i o bx u ho hne hbel hS
        match i, ho with
        | 0, ho =>
          obtain rfl := Option.some.inj ho
          have d20 : bx.tmps.getD 20 undef = .slice (some ⟨g, 0, none⟩) n c := hS.base 20 (by kernel_rfl)
          refine .inl ⟨rfl, ends_value (c := .slice (some ⟨g, 0, none⟩) n c) ?_⟩
          simp [execOp, Act.eval, d20]
        | 1, ho =>
          obtain rfl := Option.some.inj ho
          have d19 : bx.tmps.getD 19 undef = .int .i64 (64 + R) := hS.base 19 (by kernel_rfl)
          refine .inl ⟨rfl, ends_value (c := .int .i64 (64 + R)) ?_⟩
          simp [execOp, Act.eval, d19]
        | 2, ho =>
          obtain rfl := Option.some.inj ho
          have d122 : bx.tmps.getD 122 undef = .int .i64 (64 + R) := hS.dep 1 122 (by kernel_rfl) (by kernel_rfl)
          refine .inl ⟨rfl, ends_value (c := .int .i64 ((64 + R) / 8)) ?_⟩
          simp [Act.eval, d122, go_sem, hq8, hq8w]
        | 3, ho =>
          obtain rfl := Option.some.inj ho
          have d20 : bx.tmps.getD 20 undef = .slice (some ⟨g, 0, none⟩) n c := hS.base 20 (by kernel_rfl)
          refine .inl ⟨rfl, ends_value (c := .slice (some ⟨g, 0, none⟩) n c) ?_⟩
          simp [execOp, Act.eval, d20]
        | 4, ho =>
          obtain rfl := Option.some.inj ho
          have d19 : bx.tmps.getD 19 undef = .int .i64 (64 + R) := hS.base 19 (by kernel_rfl)
          refine .inl ⟨rfl, ends_value (c := .int .i64 (64 + R)) ?_⟩
          simp [execOp, Act.eval, d19]
        | 5, ho =>
          obtain rfl := Option.some.inj ho
          have d125 : bx.tmps.getD 125 undef = .int .i64 (64 + R) := hS.dep 4 125 (by kernel_rfl) (by kernel_rfl)
          refine .inl ⟨rfl, ends_value (c := .int .i64 ((64 + R) / 8)) ?_⟩
          simp [Act.eval, d125, go_sem, hq8, hq8w]
        | 6, ho =>
          obtain rfl := Option.some.inj ho
          have d124 : bx.tmps.getD 124 undef = .slice (some ⟨g, 0, none⟩) n c := hS.dep 3 124 (by kernel_rfl) (by kernel_rfl)
          have d126 : bx.tmps.getD 126 undef = .int .i64 ((64 + R) / 8) := hS.dep 5 126 (by kernel_rfl) (by kernel_rfl)
          refine .inl ⟨rfl, ends_value (c := .pointer (some ⟨g, Kn, none⟩)) ?_⟩
          simp [Act.eval, d124, d126, go_sem, hK0, hK1, hKn]
        | 7, ho =>
          obtain rfl := Option.some.inj ho
          have d127 : bx.tmps.getD 127 undef = .pointer (some ⟨g, Kn, none⟩) := hS.dep 6 127 (by kernel_rfl) (by kernel_rfl)
          have hl := (hbts (hbel (by kernel_rfl)))
          refine .inl ⟨rfl, ends_value (c := .int .u8 bK) ?_⟩
          simp [Act.eval, d127, go_sem, hl]
        | 8, ho =>
          obtain rfl := Option.some.inj ho
          have d19 : bx.tmps.getD 19 undef = .int .i64 (64 + R) := hS.base 19 (by kernel_rfl)
          refine .inl ⟨rfl, ends_value (c := .int .i64 (64 + R)) ?_⟩
          simp [execOp, Act.eval, d19]
        | 9, ho =>
          obtain rfl := Option.some.inj ho
          have d129 : bx.tmps.getD 129 undef = .int .i64 (64 + R) := hS.dep 8 129 (by kernel_rfl) (by kernel_rfl)
          refine .inl ⟨rfl, ends_value (c := .int .i64 ((64 + R) % 8)) ?_⟩
          simp [Act.eval, d129, go_sem, hr8]
        | 10, ho =>
          obtain rfl := Option.some.inj ho
          have d130 : bx.tmps.getD 130 undef = .int .i64 ((64 + R) % 8) := hS.dep 9 130 (by kernel_rfl) (by kernel_rfl)
          refine .inl ⟨rfl, ends_value (c := .int .u8 PW) ?_⟩
          simp [Act.eval, d130, go_sem, hsh]
        | 11, ho =>
          obtain rfl := Option.some.inj ho
          have d128 : bx.tmps.getD 128 undef = .int .u8 bK := hS.dep 7 128 (by kernel_rfl) (by kernel_rfl)
          have d131 : bx.tmps.getD 131 undef = .int .u8 PW := hS.dep 10 131 (by kernel_rfl) (by kernel_rfl)
          refine .inl ⟨rfl, ends_value (c := .int .u8 X) ?_⟩
          simp [Act.eval, d128, d131, go_sem, hX]
        | 12, ho =>
          obtain rfl := Option.some.inj ho
          have d121 : bx.tmps.getD 121 undef = .slice (some ⟨g, 0, none⟩) n c := hS.dep 0 121 (by kernel_rfl) (by kernel_rfl)
          have d123 : bx.tmps.getD 123 undef = .int .i64 ((64 + R) / 8) := hS.dep 2 123 (by kernel_rfl) (by kernel_rfl)
          refine .inl ⟨rfl, ends_value (c := .pointer (some ⟨g, Kn, none⟩)) ?_⟩
          simp [Act.eval, d121, d123, go_sem, hK0, hK1, hKn]
        | 13, _ => exact absurd rfl hne
        | n + 14, ho => exact absurd ho (by simp)
      case store =>
        intro o bx u ho hbel hS
        obtain rfl := Option.some.inj ho
        have d133 : bx.tmps.getD 133 undef = .pointer (some ⟨g, Kn, none⟩) := hS.dep 12 133 (by kernel_rfl) (by kernel_rfl)
        have d132 : bx.tmps.getD 132 undef = .int .u8 X := hS.dep 11 132 (by kernel_rfl) (by kernel_rfl)
        have hs1 := hbts hbel
        have hs2 := hbtf hbel
        refine ⟨rfl, ?_⟩
        simp [Act.eval, d133, d132, go_sem, hs1, hs2]
      case fin =>
        intro u hbel
        simp [putAll, dstAt, Act.put]
        have hB2 : Bts (u.setCell ⟨g, Kn, none⟩ (.int .u8 X)) g (T.data.toList.set Kn (UInt8.ofNat X.toNat)) := (hon hbel).set Kn (by rw [Oct.len_eq]; omega) X hX0 (by omega)
        have hbz : Below w.heap.size w (u.setCell ⟨g, Kn, none⟩ (.int .u8 X)) := ((unhide HBV).drew.trans (hbel.mono (unhide HBV).size)).setCell (p := ⟨g, Kn, none⟩) (by show _ ≤ g; exact hgw) _
        generalize u.setCell ⟨g, Kn, none⟩ (.int .u8 X) = Z at *
        have hlen : (T.data.toList.set Kn (UInt8.ofNat X.toNat)).length = n := by rw [List.length_set, Oct.len_eq]; exact hn
        have htx := hB2.text c
        rw [hlen] at htx
        have hxe : (⟨(T.data.toList.set Kn (UInt8.ofNat X.toNat)).toArray⟩ : ByteArray) = withB T Kn (UInt8.ofNat X.toNat) := rfl
        rw [hxe] at htx
        have HP2 := hide (fun u => unhide HVX u (withB T Kn (UInt8.ofNat X.toNat)) (by rw [withB_size]; omega))
        rw [hbad] at HP2
        have HBZ := hide hbz
        clear hB2 hxe hbad hbz hbel hon hbts hbtf
        generalize withB T Kn (UInt8.ofNat X.toNat) = x at *
        go_wp2_with fail
        refine (unhide HP2 _).mono ?_
        rintro e v7 ⟨rfl, hq⟩
        have HB7 := hide (Below.then (unhide HBZ) hq)
        clear hq htx
        go_wp2_with fail
        go_ret
        exact ⟨rfl, unhide HB7⟩
    case inr =>
      have hA' := hA.symm
      clear hA
      subst hA'
      go_wp2_with fail
      have hn := unhide HHN
      clear hcv
      obtain ⟨Kn, hKn⟩ : ∃ Kn : Nat, ((64 + R) / 8).toNat = Kn := ⟨_, rfl⟩
      have hK0 : 0 ≤ (64 + R) / 8 := by omega
      have hK1 : (64 + R) / 8 < n := by have := unhide HSn; omega
      have hKlt : Kn < n := by omega
      have hK8 : 8 ≤ Kn := by omega
      have hq8 : (64 + R).tdiv 8 = (64 + R) / 8 := Int.tdiv_eq_ediv_of_nonneg (by omega)
      have hq8w : IntKind.i64.wrap ((64 + R) / 8) = (64 + R) / 8 := by rw [IntKind.wrap_i64]; omega
      have hr8 : (64 + R).tmod 8 = (64 + R) % 8 := Int.tmod_eq_emod_of_nonneg (by omega)
      obtain ⟨M8, hM8⟩ : ∃ M8 : Nat, ((64 + R) % 8).toNat = M8 := ⟨_, rfl⟩
      have hM8l : M8 < 8 := by omega
      obtain ⟨PW, hPW⟩ : ∃ PW : Int, (2 : Int) ^ M8 = PW := ⟨_, rfl⟩
      have hPb : 1 ≤ PW ∧ PW ≤ 128 := by
        have hm8 : M8 = 0 ∨ M8 = 1 ∨ M8 = 2 ∨ M8 = 3 ∨ M8 = 4 ∨ M8 = 5 ∨ M8 = 6 ∨ M8 = 7 := by omega
        rcases hm8 with h | h | h | h | h | h | h | h <;> rw [h] at hPW <;> simp at hPW <;> omega
      have hsh : IntKind.u8.wrap (2 ^ ((64 + R) % 8).toNat) = PW := by
        rw [hM8, hPW]
        simp [IntKind.wrap, IntKind.bits, IntKind.signed]; omega
      have hon : ∀ {u : World}, Below V.heap.size V.drew u → Bts u g T.data.toList := fun {u} hb => hVt.on (hdrew hb)
      have hlt : Kn < T.data.toList.length := by rw [Oct.len_eq]; omega
      have hbts : ∀ {u : World}, Below V.heap.size V.drew u → u.cell? ⟨g, Kn, none⟩ = some (.int .u8 ((T.data.toList.getD Kn 0).toNat : Int)) := fun {u} hb => (hon hb Kn hlt).1
      have hbtf : ∀ {u : World}, Below V.heap.size V.drew u → u.frozen? ⟨g, Kn, none⟩ = false := fun {u} hb => (hon hb Kn hlt).2
      obtain ⟨X, hX⟩ : ∃ X : Int, bits .xor .u8 ((T.data.toList.getD Kn 0).toNat : Int) PW = X := ⟨_, rfl⟩
      have hXb := bounds_u8 (wf_bits .xor .u8 ((T.data.toList.getD Kn 0).toNat : Int) PW)
      rw [hX] at hXb
      obtain ⟨hX0, hX1⟩ := hXb
      have hbad : verE 17 a0 a1 (withB T Kn (UInt8.ofNat X.toNat)) = 7 := unhide HT Kn M8 hK8 (by omega) hM8l X (by rw [hPW]; exact hX) hX0 hX1
      generalize hbK : ((T.data.toList.getD Kn 0).toNat : Int) = bK at *
      refine wp_region_grow_store (by kernel_rfl) [.slice (some ⟨g, 0, none⟩) n c, .int .i64 (64 + R), .int .i64 ((64 + R) / 8), .slice (some ⟨g, 0, none⟩) n c, .int .i64 (64 + R), .int .i64 ((64 + R) / 8), .pointer (some ⟨g, Kn, none⟩), .int .u8 bK, .int .i64 (64 + R), .int .i64 ((64 + R) % 8), .int .u8 PW, .int .u8 X, .pointer (some ⟨g, Kn, none⟩), undef] 13 (fun v => v.setCell ⟨g, Kn, none⟩ (.int .u8 X)) (by kernel_rfl) (by decide) rfl ?op ?store ?fin
      case op =>
        intro i o bx u ho hne hbel hS
        match i, ho with
        | 0, ho =>
          obtain rfl := Option.some.inj ho
          have d20 : bx.tmps.getD 20 undef = .slice (some ⟨g, 0, none⟩) n c := hS.base 20 (by kernel_rfl)
          refine .inl ⟨rfl, ends_value (c := .slice (some ⟨g, 0, none⟩) n c) ?_⟩
          simp [execOp, Act.eval, d20]
        | 1, ho =>
          obtain rfl := Option.some.inj ho
          have d19 : bx.tmps.getD 19 undef = .int .i64 (64 + R) := hS.base 19 (by kernel_rfl)
          refine .inl ⟨rfl, ends_value (c := .int .i64 (64 + R)) ?_⟩
          simp [execOp, Act.eval, d19]
        | 2, ho =>
          obtain rfl := Option.some.inj ho
          have d122 : bx.tmps.getD 122 undef = .int .i64 (64 + R) := hS.dep 1 122 (by kernel_rfl) (by kernel_rfl)
          refine .inl ⟨rfl, ends_value (c := .int .i64 ((64 + R) / 8)) ?_⟩
          simp [Act.eval, d122, go_sem, hq8, hq8w]
        | 3, ho =>
          obtain rfl := Option.some.inj ho
          have d20 : bx.tmps.getD 20 undef = .slice (some ⟨g, 0, none⟩) n c := hS.base 20 (by kernel_rfl)
          refine .inl ⟨rfl, ends_value (c := .slice (some ⟨g, 0, none⟩) n c) ?_⟩
          simp [execOp, Act.eval, d20]
        | 4, ho =>
          obtain rfl := Option.some.inj ho
          have d19 : bx.tmps.getD 19 undef = .int .i64 (64 + R) := hS.base 19 (by kernel_rfl)
          refine .inl ⟨rfl, ends_value (c := .int .i64 (64 + R)) ?_⟩
          simp [execOp, Act.eval, d19]
        | 5, ho =>
          obtain rfl := Option.some.inj ho
          have d125 : bx.tmps.getD 125 undef = .int .i64 (64 + R) := hS.dep 4 125 (by kernel_rfl) (by kernel_rfl)
          refine .inl ⟨rfl, ends_value (c := .int .i64 ((64 + R) / 8)) ?_⟩
          simp [Act.eval, d125, go_sem, hq8, hq8w]
        | 6, ho =>
          obtain rfl := Option.some.inj ho
          have d124 : bx.tmps.getD 124 undef = .slice (some ⟨g, 0, none⟩) n c := hS.dep 3 124 (by kernel_rfl) (by kernel_rfl)
          have d126 : bx.tmps.getD 126 undef = .int .i64 ((64 + R) / 8) := hS.dep 5 126 (by kernel_rfl) (by kernel_rfl)
          refine .inl ⟨rfl, ends_value (c := .pointer (some ⟨g, Kn, none⟩)) ?_⟩
          simp [Act.eval, d124, d126, go_sem, hK0, hK1, hKn]
        | 7, ho =>
          obtain rfl := Option.some.inj ho
          have d127 : bx.tmps.getD 127 undef = .pointer (some ⟨g, Kn, none⟩) := hS.dep 6 127 (by kernel_rfl) (by kernel_rfl)
          have hl := (hbts (hbel (by kernel_rfl)))
          refine .inl ⟨rfl, ends_value (c := .int .u8 bK) ?_⟩
          simp [Act.eval, d127, go_sem, hl]
        | 8, ho =>
          obtain rfl := Option.some.inj ho
          have d19 : bx.tmps.getD 19 undef = .int .i64 (64 + R) := hS.base 19 (by kernel_rfl)
          refine .inl ⟨rfl, ends_value (c := .int .i64 (64 + R)) ?_⟩
          simp [execOp, Act.eval, d19]
        | 9, ho =>
          obtain rfl := Option.some.inj ho
          have d129 : bx.tmps.getD 129 undef = .int .i64 (64 + R) := hS.dep 8 129 (by kernel_rfl) (by kernel_rfl)
          refine .inl ⟨rfl, ends_value (c := .int .i64 ((64 + R) % 8)) ?_⟩
          simp [Act.eval, d129, go_sem, hr8]
        | 10, ho =>
          obtain rfl := Option.some.inj ho
          have d130 : bx.tmps.getD 130 undef = .int .i64 ((64 + R) % 8) := hS.dep 9 130 (by kernel_rfl) (by kernel_rfl)
          refine .inl ⟨rfl, ends_value (c := .int .u8 PW) ?_⟩
          simp [Act.eval, d130, go_sem, hsh]
        | 11, ho =>
          obtain rfl := Option.some.inj ho
          have d128 : bx.tmps.getD 128 undef = .int .u8 bK := hS.dep 7 128 (by kernel_rfl) (by kernel_rfl)
          have d131 : bx.tmps.getD 131 undef = .int .u8 PW := hS.dep 10 131 (by kernel_rfl) (by kernel_rfl)
          refine .inl ⟨rfl, ends_value (c := .int .u8 X) ?_⟩
          simp [Act.eval, d128, d131, go_sem, hX]
        | 12, ho =>
          obtain rfl := Option.some.inj ho
          have d121 : bx.tmps.getD 121 undef = .slice (some ⟨g, 0, none⟩) n c := hS.dep 0 121 (by kernel_rfl) (by kernel_rfl)
          have d123 : bx.tmps.getD 123 undef = .int .i64 ((64 + R) / 8) := hS.dep 2 123 (by kernel_rfl) (by kernel_rfl)
          refine .inl ⟨rfl, ends_value (c := .pointer (some ⟨g, Kn, none⟩)) ?_⟩
          simp [Act.eval, d121, d123, go_sem, hK0, hK1, hKn]
        | 13, _ => exact absurd rfl hne
        | n + 14, ho => exact absurd ho (by simp)
      case store =>
        intro o bx u ho hbel hS
        obtain rfl := Option.some.inj ho
        have d133 : bx.tmps.getD 133 undef = .pointer (some ⟨g, Kn, none⟩) := hS.dep 12 133 (by kernel_rfl) (by kernel_rfl)
        have d132 : bx.tmps.getD 132 undef = .int .u8 X := hS.dep 11 132 (by kernel_rfl) (by kernel_rfl)
        have hs1 := hbts hbel
        have hs2 := hbtf hbel
        refine ⟨rfl, ?_⟩
        simp [Act.eval, d133, d132, go_sem, hs1, hs2]
      case fin =>
        intro u hbel
        simp [putAll, dstAt, Act.put]
        have hB2 : Bts (u.setCell ⟨g, Kn, none⟩ (.int .u8 X)) g (T.data.toList.set Kn (UInt8.ofNat X.toNat)) := (hon hbel).set Kn (by rw [Oct.len_eq]; omega) X hX0 (by omega)
        have hbz : Below w.heap.size w (u.setCell ⟨g, Kn, none⟩ (.int .u8 X)) := ((unhide HBV).drew.trans (hbel.mono (unhide HBV).size)).setCell (p := ⟨g, Kn, none⟩) (by show _ ≤ g; exact hgw) _
        generalize u.setCell ⟨g, Kn, none⟩ (.int .u8 X) = Z at *
        have hlen : (T.data.toList.set Kn (UInt8.ofNat X.toNat)).length = n := by rw [List.length_set, Oct.len_eq]; exact hn
        have htx := hB2.text c
        rw [hlen] at htx
        have hxe : (⟨(T.data.toList.set Kn (UInt8.ofNat X.toNat)).toArray⟩ : ByteArray) = withB T Kn (UInt8.ofNat X.toNat) := rfl
        rw [hxe] at htx
        have HP2 := hide (fun u => unhide HVX u (withB T Kn (UInt8.ofNat X.toNat)) (by rw [withB_size]; omega))
        rw [hbad] at HP2
        have HBZ := hide hbz
        clear hB2 hxe hbad hbz hbel hon hbts hbtf
        generalize withB T Kn (UInt8.ofNat X.toNat) = x at *
        go_wp2_with fail
        refine (unhide HP2 _).mono ?_
        rintro e v7 ⟨rfl, hq⟩
        have HB7 := hide (Below.then (unhide HBZ) hq)
        clear hq htx
        go_wp2_with fail
        go_ret
        exact ⟨rfl, unhide HB7⟩

theorem own : ownKnob Try.prog.godebug = none := by kernel_rfl
set_option maxRecDepth 100000 in
theorem lifted (os : Os) (started : os.Started) (H : Type) (enc : TypeId × Value → H) :
    ReturnsInHanded {} Try.checked os 4 .any (Rows.pseudoFillsSpec.pre6 enc Try.prog Try.f4 Rows.pseudoFillsRow.domain false) (Rows.pseudoFillsSpec.post enc Try.prog Try.f4 false true false false) := by
  refine returnsInHanded_of_change_sized (C := Try.checked) own started (by kernel_rfl) Try.func4
    (ChangeSpec.witness6 (enc := enc) (C := Try.checked) false ⟨#[], #[.int .u32 0, .int .u32 0, .int .u16 0, .int .u16 0, .string ByteArray.empty, .int .i64 0], []⟩ 8 (by kernel_rfl) (by kernel_rfl) (by kernel_rfl) (by kernel_rfl)) ?_
  intro W base args ds gs before hval0 hW hcnd hsz _
  have hval : ∀ (j : Nat) t v, Try.f4.params[j]? = some t → args[j]? = some v → Value.okWide Try.prog W .any base t v := hval0
  have hW' := hW
  obtain ⟨p, q, hA0, hV, rfl, hfz, hnd⟩ := hW
  have hA : DataW.TrodAll enc Try.prog W 0 (fun _ => true) true Try.f4.params.toList args.toList ds p := hA0
  rw [Try.params4] at hA hval
  obtain ⟨v0, vs0, d0, ds0, p0, q0, hargs, rfl, rfl, h0, r0⟩ := trodAll_cons hA
  obtain ⟨v1, vs1, d1, ds1, p1, q1, rfl, rfl, rfl, h1, r1⟩ := trodAll_cons r0
  obtain ⟨v2, vs2, d2, ds2, p2, q2, rfl, rfl, rfl, h2, r2⟩ := trodAll_cons r1
  obtain ⟨v3, vs3, d3, ds3, p3, q3, rfl, rfl, rfl, h3, r3⟩ := trodAll_cons r2
  obtain ⟨v4, vs4, d4, ds4, p4, q4, rfl, rfl, rfl, h4, r4⟩ := trodAll_cons r3
  obtain ⟨v5, vs5, d5, ds5, p5, q5, rfl, rfl, rfl, h5, r5⟩ := trodAll_cons r4
  obtain ⟨rfl, rfl, rfl⟩ := trodAll_nil r5
  obtain rfl : args = #[v0, v1, v2, v3, v4, v5] := by cases args; simp_all
  obtain ⟨rfl, rfl⟩ := trodVars_none hV
  obtain ⟨a0, rfl, rfl, rfl, w0⟩ := open_int Try.underlying22 (hval 0 22 v0 rfl rfl) h0
  obtain ⟨a1, rfl, rfl, rfl, w1⟩ := open_int Try.underlying22 (hval 1 22 v1 rfl rfl) h1
  obtain ⟨a2, rfl, rfl, rfl, w2⟩ := open_int Try.underlying24 (hval 2 24 v2 rfl rfl) h2
  obtain ⟨a3, rfl, rfl, rfl, w3⟩ := open_int Try.underlying24 (hval 3 24 v3 rfl rfl) h3
  obtain ⟨a4, rfl, rfl, rfl, w4⟩ := open_string Try.underlying9 (hval 4 9 v4 rfl rfl) h4
  obtain ⟨a5, rfl, rfl, rfl, w5⟩ := open_int Try.underlying3 (hval 5 3 v5 rfl rfl) h5
  clear hA0 hval0
  simp only [List.append_nil] at hW'
  have z4 : a4.size ≤ 140737488355328 := by
    have hq : a4.data.toList.length ≤ reachBytes := sized_string hsz (j := 4) (t := 9) rfl rfl
    have e : a4.data.toList.length = a4.size := by rw [Array.length_toList]; rfl
    rw [e] at hq
    exact Nat.le_trans hq (Nat.le_of_lt reachBytes_lt)
  refine (walk W a0 a1 a2 a3 a4 a5 w0 w1 w2 w3 z4 w5).mono fun e W' ⟨he, bel⟩ => ?_
  subst he
  exact ⟨_, rfl, _, _, _, [], _, [], hW', (trodAll_cons_mk (shut_bool Try.underlying4 _) trodAll_mk0), (trodAll_cons_mk (shut_int Try.underlying22 w0) (trodAll_cons_mk (shut_int Try.underlying22 w1) (trodAll_cons_mk (shut_int Try.underlying24 w2) (trodAll_cons_mk (shut_int Try.underlying24 w3) (trodAll_cons_mk (shut_string Try.underlying9 w4) (trodAll_cons_mk (shut_int Try.underlying3 w5) trodAll_mk0)))))), rfl, bel.frame _, fun h => by cases h⟩

theorem over : Rows.pseudoFillsRow.holds Try.pinned (OpenSpec.ofChange Rows.pseudoFillsSpec) :=
  OpenClaim.holds_of_wide 4 Try.f4 rfl rfl rfl rfl rfl rfl rfl ⟨rfl, rfl, rfl, rfl, rfl⟩ rfl rfl rfl rfl rfl (by kernel_rfl) Try.func4 (by kernel_rfl)
    (of_decide_eq_true (by kernel_rfl)) (by unfold Func.isWrapper; first | (rw [if_pos (by decide +kernel)]; kernel_rfl) | (rw [if_neg (by decide +kernel)]; exact ⟨rfl, rfl⟩))
    (fun os started H enc _ => lifted os started H enc)

theorem proved : Rows.PseudoFillsSaid := over
#print axioms proved
end Go.Proofs.Ytmeafeomfblncaa.pseudoFills
