/- The law Ip4Bit returns true for every header, body and bit. -/
import Derived.Test.YtfppjpcolohmfaaRows
import Derived.OpenShut
import Derived.ShutString
import Derived.ChangeOld
import Derived.Below
import Derived.SizedLaws
import Derived.Test.YtfppjpcolohmfaaIpOpen
import Derived.Test.YtfppjpcolohmfaaIpBit
import Derived.Test.YtfppjpcolohmfaaIpKept
namespace Go.Proofs.Ytfppjpcolohmfaa.ip4Bit
open Go.ChangeShapes Go.WideShapes Go.ChangeAt Go.RowKit
open Go.ChangeMaps (open_string shut_string)
set_option linter.unusedVariables false
theorem hdrew {V u : World} {B : Nat} (hb : Below B V.drew u) : Below B V u := ⟨hb.os, hb.tape, hb.output, hb.size, hb.block⟩
set_option maxHeartbeats 4000000 in
set_option maxRecDepth 100000 in
theorem walk (w : World) (a0 : Hd) (w0 : a0.Wf) (a1 : ByteArray) (z1 : a1.size ≤ 140737488355328) (a2 : Int) (w2 : (Lit.int .i64 a2).wf = true) :
    Calls Try.prog 6 #[a0.val, .string a1, .int .i64 a2] w fun e w' => e = .returned (.bool true) ∧ Below w.heap.size w w' := by
  obtain ⟨x0, x1⟩ := bounds_i64 w2
  have hos := w0.opts
  have hk0 := kept_new w a0 24
  go_enter Try.func6, Try.ntmps6
  go_wp2_with fail
  refine (examples_ok _).mono ?_
  rintro e w1' ⟨rfl, hb1⟩
  have hk1 := hk0.on hb1
  clear hb1 hk0
  have q0 := (hk1.at_) 0 (by decide)
  have q1 := (hk1.at_) 1 (by decide)
  have q2 := (hk1.at_) 2 (by decide)
  have q3 := (hk1.at_) 3 (by decide)
  have q4 := (hk1.at_) 4 (by decide)
  have q5 := (hk1.at_) 5 (by decide)
  have q6 := (hk1.at_) 6 (by decide)
  have q7 := (hk1.at_) 7 (by decide)
  have q8 := (hk1.at_) 8 (by decide)
  simp only [hcell] at q0 q1 q2 q3 q4 q5 q6 q7 q8
  have HK := hide hk1
  clear hk1
  go_wp2_with fail
  refine (build_any a0 a1 _ w0 z1).mono ?_
  rintro e w3 ⟨rfl, hb3⟩
  have hk3 := (unhide HK).on hb3
  clear HK hb3
  clear q0 q1 q2 q3 q4 q5 q6 q7 q8
  have HB := hide hk3.below
  have hsz3 := hk3.below.size
  have q8 := hk3.at_ 8 (by decide)
  simp only [hcell] at q8
  have q8s := hk3.size
  clear hk3
  by_cases he : buildE a0 a1 = 0
  case neg =>
    have hd : (buildE a0 a1 != 0) = true := by simpa using he
    go_wp2_with fail
    go_ret
    exact ⟨rfl, unhide HB⟩
  case pos =>
    obtain ⟨hB, hs⟩ := built_of w0 he
    rw [hs, he]
    have hbs := built_size (h := a0) a1
    have hl := hB.l
    have hbt : btotal a0 a1 = 20 + a0.opts.size + a1.size := rfl
    have hturn := fun (bit : Nat) => turned hB bit
    unfold byt at hturn
    have HT := hide hturn
    clear hturn
    generalize built a0 a1 = t at *
    obtain ⟨n, hn⟩ : ∃ n : Nat, t.size = n := ⟨_, rfl⟩
    have hn0 : 20 + a0.opts.size ≤ n := by omega
    have hn1 : n ≤ 1500 := by omega
    have ho40 := hB.r.o40
    have hd20 : decide ((t.size : Int) < 20 + (a0.opts.size : Int)) = false := by simp; omega
    obtain ⟨c, V, hcv, hVb, hVt⟩ := conv_bytes t w3
    rw [hn] at hcv
    have hbV := (unhide HB).trans (hVb.mono hsz3)
    have hgV : w3.heap.size < V.heap.size := by have := (hVt 0 (by rw [Oct.len_eq]; omega)).1; exact block_lt_of_cell this
    clear hVb HB hB hs hbt hl hbs he
    by_cases hneg : a2 < 0
    · obtain ⟨A, hA⟩ : ∃ A : Int, -(a2 + 1) = A := ⟨_, rfl⟩
      have hA0 : 0 ≤ A := by omega
      have hd : decide (a2 < 0) = true := by simpa using hneg
      obtain ⟨R, hR⟩ : ∃ R : Int, A % (8 * (20 + (a0.opts.size : Int))) = R := ⟨_, rfl⟩
      have hR0 : 0 ≤ R := by rw [← hR]; exact Int.emod_nonneg _ (by omega)
      have hR1 : R < 8 * (20 + (a0.opts.size : Int)) := by rw [← hR]; exact Int.emod_lt_of_pos _ (by omega)
      by_cases h4 : R < 4
      · obtain ⟨Bt, hBt⟩ : ∃ Bt : Int, R + 4 = Bt := ⟨_, rfl⟩
        have hb0 : 4 ≤ Bt := by omega
        have hb1 : Bt / 8 < 20 + a0.opts.size := by omega
        have hd4 : decide (R < 4) = true := by simpa using h4
        go_wp2_with fail
        clear hcv hd4
        generalize hg : w3.heap.size = g at *
        obtain ⟨Kn, hKn⟩ : ∃ Kn : Nat, (Bt / 8).toNat = Kn := ⟨_, rfl⟩
        have hK0 : 0 ≤ Bt / 8 := by omega
        have hK1 : Bt / 8 < n := by omega
        have hKlt : Kn < n := by omega
        have hq8 : Bt.tdiv 8 = Bt / 8 := Int.tdiv_eq_ediv_of_nonneg (by omega)
        have hq8w := Oct.wraps_i64 (Bt / 8) (by omega) (by omega)
        have hr8 : Bt.tmod 8 = Bt % 8 := Int.tmod_eq_emod_of_nonneg (by omega)
        obtain ⟨PW, hPW⟩ : ∃ PW : Int, (2 : Int) ^ (Bt.toNat % 8) = PW := ⟨_, rfl⟩
        have he8 : (Bt % 8).toNat = Bt.toNat % 8 := by omega
        have hPb : 1 ≤ PW ∧ PW ≤ 128 := by
          have hm8 : Bt.toNat % 8 = 0 ∨ Bt.toNat % 8 = 1 ∨ Bt.toNat % 8 = 2 ∨ Bt.toNat % 8 = 3 ∨ Bt.toNat % 8 = 4 ∨ Bt.toNat % 8 = 5 ∨ Bt.toNat % 8 = 6 ∨ Bt.toNat % 8 = 7 := by omega
          rcases hm8 with h | h | h | h | h | h | h | h <;> rw [h] at hPW <;> simp at hPW <;> omega
        have hsh : IntKind.u8.wrap (2 ^ (Bt % 8).toNat) = PW := by
          rw [he8, hPW]
          simp [IntKind.wrap, IntKind.bits, IntKind.signed]; omega
        have hon : ∀ {u : World}, Below V.heap.size V.drew u → Bts u g t.data.toList := fun {u} hb => hVt.on (hdrew hb)
        have hlt : Kn < t.data.toList.length := by rw [Oct.len_eq]; omega
        have hbts : ∀ {u : World}, Below V.heap.size V.drew u → u.cell? ⟨g, Kn, none⟩ = some (.int .u8 ((t.data.toList.getD Kn 0).toNat : Int)) := fun {u} hb => (hon hb Kn hlt).1
        have hbtf : ∀ {u : World}, Below V.heap.size V.drew u → u.frozen? ⟨g, Kn, none⟩ = false := fun {u} hb => (hon hb Kn hlt).2
        obtain ⟨X, hX⟩ : ∃ X : Int, bits .xor .u8 ((t.data.toList.getD Kn 0).toNat : Int) PW = X := ⟨_, rfl⟩
        have hXb := bounds_u8 (wf_bits .xor .u8 ((t.data.toList.getD Kn 0).toNat : Int) PW)
        rw [hX] at hXb
        obtain ⟨hX0, hX1⟩ := hXb
        have hbad : ¬ parseE (withB t Kn (UInt8.ofNat X.toNat)) = 0 := by
          have e : Bt.toNat / 8 = Kn := by omega
          have := (unhide HT) Bt.toNat (by omega) (by omega) X (by rw [e, hPW]; exact hX) hX0 hX1
          rw [e] at this
          exact this
        generalize hbK : ((t.data.toList.getD Kn 0).toNat : Int) = bK at *
        refine wp_region_grow_store (by kernel_rfl) [.slice (some ⟨g, 0, none⟩) n c, .int .i64 Bt, .int .i64 (Bt / 8), .slice (some ⟨g, 0, none⟩) n c, .int .i64 Bt, .int .i64 (Bt / 8), .pointer (some ⟨g, Kn, none⟩), .int .u8 bK, .int .i64 Bt, .int .i64 (Bt % 8), .int .u8 PW, .int .u8 X, .pointer (some ⟨g, Kn, none⟩), undef] 13 (fun v => v.setCell ⟨g, Kn, none⟩ (.int .u8 X)) (by kernel_rfl) (by decide) rfl ?op ?store ?fin
        case op =>
          intro i o bx u ho hne hbel hS
          match i, ho with
          | 0, ho =>
            obtain rfl := Option.some.inj ho
            have d10 : bx.tmps.getD 10 undef = .slice (some ⟨g, 0, none⟩) n c := hS.base 10 (by kernel_rfl)
            refine .inl ⟨rfl, ends_value (c := .slice (some ⟨g, 0, none⟩) n c) ?_⟩
            simp [execOp, Act.eval, d10]
          | 1, ho =>
            obtain rfl := Option.some.inj ho
            have d2 : bx.tmps.getD 2 undef = .int .i64 Bt := hS.base 2 (by kernel_rfl)
            refine .inl ⟨rfl, ends_value (c := .int .i64 Bt) ?_⟩
            simp [execOp, Act.eval, d2]
          | 2, ho =>
            obtain rfl := Option.some.inj ho
            have d58 : bx.tmps.getD 58 undef = .int .i64 Bt := hS.dep 1 58 (by kernel_rfl) (by kernel_rfl)
            refine .inl ⟨rfl, ends_value (c := .int .i64 (Bt / 8)) ?_⟩
            simp [Act.eval, d58, go_sem, hq8, hq8w]
          | 3, ho =>
            obtain rfl := Option.some.inj ho
            have d10 : bx.tmps.getD 10 undef = .slice (some ⟨g, 0, none⟩) n c := hS.base 10 (by kernel_rfl)
            refine .inl ⟨rfl, ends_value (c := .slice (some ⟨g, 0, none⟩) n c) ?_⟩
            simp [execOp, Act.eval, d10]
          | 4, ho =>
            obtain rfl := Option.some.inj ho
            have d2 : bx.tmps.getD 2 undef = .int .i64 Bt := hS.base 2 (by kernel_rfl)
            refine .inl ⟨rfl, ends_value (c := .int .i64 Bt) ?_⟩
            simp [execOp, Act.eval, d2]
          | 5, ho =>
            obtain rfl := Option.some.inj ho
            have d61 : bx.tmps.getD 61 undef = .int .i64 Bt := hS.dep 4 61 (by kernel_rfl) (by kernel_rfl)
            refine .inl ⟨rfl, ends_value (c := .int .i64 (Bt / 8)) ?_⟩
            simp [Act.eval, d61, go_sem, hq8, hq8w]
          | 6, ho =>
            obtain rfl := Option.some.inj ho
            have d60 : bx.tmps.getD 60 undef = .slice (some ⟨g, 0, none⟩) n c := hS.dep 3 60 (by kernel_rfl) (by kernel_rfl)
            have d62 : bx.tmps.getD 62 undef = .int .i64 (Bt / 8) := hS.dep 5 62 (by kernel_rfl) (by kernel_rfl)
            refine .inl ⟨rfl, ends_value (c := .pointer (some ⟨g, Kn, none⟩)) ?_⟩
            simp [Act.eval, d60, d62, go_sem, hK0, hK1, hKn]
          | 7, ho =>
            obtain rfl := Option.some.inj ho
            have d63 : bx.tmps.getD 63 undef = .pointer (some ⟨g, Kn, none⟩) := hS.dep 6 63 (by kernel_rfl) (by kernel_rfl)
            have hl := (hbts (hbel (by kernel_rfl)))
            refine .inl ⟨rfl, ends_value (c := .int .u8 bK) ?_⟩
            simp [Act.eval, d63, go_sem, hl]
          | 8, ho =>
            obtain rfl := Option.some.inj ho
            have d2 : bx.tmps.getD 2 undef = .int .i64 Bt := hS.base 2 (by kernel_rfl)
            refine .inl ⟨rfl, ends_value (c := .int .i64 Bt) ?_⟩
            simp [execOp, Act.eval, d2]
          | 9, ho =>
            obtain rfl := Option.some.inj ho
            have d65 : bx.tmps.getD 65 undef = .int .i64 Bt := hS.dep 8 65 (by kernel_rfl) (by kernel_rfl)
            refine .inl ⟨rfl, ends_value (c := .int .i64 (Bt % 8)) ?_⟩
            simp [Act.eval, d65, go_sem, hr8]
          | 10, ho =>
            obtain rfl := Option.some.inj ho
            have d66 : bx.tmps.getD 66 undef = .int .i64 (Bt % 8) := hS.dep 9 66 (by kernel_rfl) (by kernel_rfl)
            refine .inl ⟨rfl, ends_value (c := .int .u8 PW) ?_⟩
            simp [Act.eval, d66, go_sem, hsh]
          | 11, ho =>
            obtain rfl := Option.some.inj ho
            have d64 : bx.tmps.getD 64 undef = .int .u8 bK := hS.dep 7 64 (by kernel_rfl) (by kernel_rfl)
            have d67 : bx.tmps.getD 67 undef = .int .u8 PW := hS.dep 10 67 (by kernel_rfl) (by kernel_rfl)
            refine .inl ⟨rfl, ends_value (c := .int .u8 X) ?_⟩
            simp [Act.eval, d64, d67, go_sem, hX]
          | 12, ho =>
            obtain rfl := Option.some.inj ho
            have d57 : bx.tmps.getD 57 undef = .slice (some ⟨g, 0, none⟩) n c := hS.dep 0 57 (by kernel_rfl) (by kernel_rfl)
            have d59 : bx.tmps.getD 59 undef = .int .i64 (Bt / 8) := hS.dep 2 59 (by kernel_rfl) (by kernel_rfl)
            refine .inl ⟨rfl, ends_value (c := .pointer (some ⟨g, Kn, none⟩)) ?_⟩
            simp [Act.eval, d57, d59, go_sem, hK0, hK1, hKn]
          | 13, _ => exact absurd rfl hne
          | n + 14, ho => exact absurd ho (by simp)
        case store =>
          intro o bx u ho hbel hS
          obtain rfl := Option.some.inj ho
          have d69 : bx.tmps.getD 69 undef = .pointer (some ⟨g, Kn, none⟩) := hS.dep 12 69 (by kernel_rfl) (by kernel_rfl)
          have d68 : bx.tmps.getD 68 undef = .int .u8 X := hS.dep 11 68 (by kernel_rfl) (by kernel_rfl)
          have hs1 := hbts hbel
          have hs2 := hbtf hbel
          refine ⟨rfl, ?_⟩
          simp [Act.eval, d69, d68, go_sem, hs1, hs2]
        case fin =>
          intro u hbel
          simp [putAll, dstAt, Act.put]
          have hB2 : Bts (u.setCell ⟨g, Kn, none⟩ (.int .u8 X)) g (t.data.toList.set Kn (UInt8.ofNat X.toNat)) := (hon hbel).set Kn (by rw [Oct.len_eq]; omega) X hX0 (by omega)
          have hbz : Below w.heap.size w (u.setCell ⟨g, Kn, none⟩ (.int .u8 X)) := (hbV.drew.trans (hbel.mono (by omega))).setCell (p := ⟨g, Kn, none⟩) (by simp; omega) _
          generalize u.setCell ⟨g, Kn, none⟩ (.int .u8 X) = Z at *
          have hlen : (t.data.toList.set Kn (UInt8.ofNat X.toNat)).length = n := by rw [List.length_set, Oct.len_eq]; exact hn
          have htx := hB2.text c
          rw [hlen] at htx
          have hxe : (⟨(t.data.toList.set Kn (UInt8.ofNat X.toNat)).toArray⟩ : ByteArray) = withB t Kn (UInt8.ofNat X.toNat) := rfl
          rw [hxe] at htx
          have hxs : (withB t Kn (UInt8.ofNat X.toNat)).size ≤ 281474976710656 := by rw [withB_size]; omega
          clear hB2 hxe
          generalize withB t Kn (UInt8.ofNat X.toNat) = x at *
          go_wp2_with fail
          refine (parse_any x _ hxs).mono ?_
          rintro e v1 ⟨rfl, hc1⟩
          have kb1 := hbz.trans (hc1.mono hbz.size)
          have KB := hide (kb1.alloc kb1.size (.cells #[.int .i64 (parseH x).tos, .int .i64 (parseH x).id, .int .i64 (parseH x).flags, .int .i64 (parseH x).frag, .int .i64 (parseH x).ttl, .int .i64 (parseH x).proto, .int .u32 (parseH x).src, .int .u32 (parseH x).dst, .string (parseH x).opts] 24))
          have hdE : (parseE x != 0) = true := by simpa using hbad
          clear hc1 kb1 hbz htx
          go_wp2_with fail
          go_ret
          exact ⟨rfl, unhide KB⟩
      · obtain ⟨Bt, hBt⟩ : ∃ Bt : Int, R = Bt := ⟨_, rfl⟩
        have hb0 : 4 ≤ Bt := by omega
        have hb1 : Bt / 8 < 20 + a0.opts.size := by omega
        have hd4 : decide (R < 4) = false := by simpa using h4
        go_wp2_with fail
        rw [hR.trans hBt]
        clear hcv hd4
        generalize hg : w3.heap.size = g at *
        obtain ⟨Kn, hKn⟩ : ∃ Kn : Nat, (Bt / 8).toNat = Kn := ⟨_, rfl⟩
        have hK0 : 0 ≤ Bt / 8 := by omega
        have hK1 : Bt / 8 < n := by omega
        have hKlt : Kn < n := by omega
        have hq8 : Bt.tdiv 8 = Bt / 8 := Int.tdiv_eq_ediv_of_nonneg (by omega)
        have hq8w := Oct.wraps_i64 (Bt / 8) (by omega) (by omega)
        have hr8 : Bt.tmod 8 = Bt % 8 := Int.tmod_eq_emod_of_nonneg (by omega)
        obtain ⟨PW, hPW⟩ : ∃ PW : Int, (2 : Int) ^ (Bt.toNat % 8) = PW := ⟨_, rfl⟩
        have he8 : (Bt % 8).toNat = Bt.toNat % 8 := by omega
        have hPb : 1 ≤ PW ∧ PW ≤ 128 := by
          have hm8 : Bt.toNat % 8 = 0 ∨ Bt.toNat % 8 = 1 ∨ Bt.toNat % 8 = 2 ∨ Bt.toNat % 8 = 3 ∨ Bt.toNat % 8 = 4 ∨ Bt.toNat % 8 = 5 ∨ Bt.toNat % 8 = 6 ∨ Bt.toNat % 8 = 7 := by omega
          rcases hm8 with h | h | h | h | h | h | h | h <;> rw [h] at hPW <;> simp at hPW <;> omega
        have hsh : IntKind.u8.wrap (2 ^ (Bt % 8).toNat) = PW := by
          rw [he8, hPW]
          simp [IntKind.wrap, IntKind.bits, IntKind.signed]; omega
        have hon : ∀ {u : World}, Below V.heap.size V.drew u → Bts u g t.data.toList := fun {u} hb => hVt.on (hdrew hb)
        have hlt : Kn < t.data.toList.length := by rw [Oct.len_eq]; omega
        have hbts : ∀ {u : World}, Below V.heap.size V.drew u → u.cell? ⟨g, Kn, none⟩ = some (.int .u8 ((t.data.toList.getD Kn 0).toNat : Int)) := fun {u} hb => (hon hb Kn hlt).1
        have hbtf : ∀ {u : World}, Below V.heap.size V.drew u → u.frozen? ⟨g, Kn, none⟩ = false := fun {u} hb => (hon hb Kn hlt).2
        obtain ⟨X, hX⟩ : ∃ X : Int, bits .xor .u8 ((t.data.toList.getD Kn 0).toNat : Int) PW = X := ⟨_, rfl⟩
        have hXb := bounds_u8 (wf_bits .xor .u8 ((t.data.toList.getD Kn 0).toNat : Int) PW)
        rw [hX] at hXb
        obtain ⟨hX0, hX1⟩ := hXb
        have hbad : ¬ parseE (withB t Kn (UInt8.ofNat X.toNat)) = 0 := by
          have e : Bt.toNat / 8 = Kn := by omega
          have := (unhide HT) Bt.toNat (by omega) (by omega) X (by rw [e, hPW]; exact hX) hX0 hX1
          rw [e] at this
          exact this
        generalize hbK : ((t.data.toList.getD Kn 0).toNat : Int) = bK at *
        refine wp_region_grow_store (by kernel_rfl) [.slice (some ⟨g, 0, none⟩) n c, .int .i64 Bt, .int .i64 (Bt / 8), .slice (some ⟨g, 0, none⟩) n c, .int .i64 Bt, .int .i64 (Bt / 8), .pointer (some ⟨g, Kn, none⟩), .int .u8 bK, .int .i64 Bt, .int .i64 (Bt % 8), .int .u8 PW, .int .u8 X, .pointer (some ⟨g, Kn, none⟩), undef] 13 (fun v => v.setCell ⟨g, Kn, none⟩ (.int .u8 X)) (by kernel_rfl) (by decide) rfl ?op ?store ?fin
        case op =>
          intro i o bx u ho hne hbel hS
          match i, ho with
          | 0, ho =>
            obtain rfl := Option.some.inj ho
            have d10 : bx.tmps.getD 10 undef = .slice (some ⟨g, 0, none⟩) n c := hS.base 10 (by kernel_rfl)
            refine .inl ⟨rfl, ends_value (c := .slice (some ⟨g, 0, none⟩) n c) ?_⟩
            simp [execOp, Act.eval, d10]
          | 1, ho =>
            obtain rfl := Option.some.inj ho
            have d2 : bx.tmps.getD 2 undef = .int .i64 Bt := hS.base 2 (by kernel_rfl)
            refine .inl ⟨rfl, ends_value (c := .int .i64 Bt) ?_⟩
            simp [execOp, Act.eval, d2]
          | 2, ho =>
            obtain rfl := Option.some.inj ho
            have d58 : bx.tmps.getD 58 undef = .int .i64 Bt := hS.dep 1 58 (by kernel_rfl) (by kernel_rfl)
            refine .inl ⟨rfl, ends_value (c := .int .i64 (Bt / 8)) ?_⟩
            simp [Act.eval, d58, go_sem, hq8, hq8w]
          | 3, ho =>
            obtain rfl := Option.some.inj ho
            have d10 : bx.tmps.getD 10 undef = .slice (some ⟨g, 0, none⟩) n c := hS.base 10 (by kernel_rfl)
            refine .inl ⟨rfl, ends_value (c := .slice (some ⟨g, 0, none⟩) n c) ?_⟩
            simp [execOp, Act.eval, d10]
          | 4, ho =>
            obtain rfl := Option.some.inj ho
            have d2 : bx.tmps.getD 2 undef = .int .i64 Bt := hS.base 2 (by kernel_rfl)
            refine .inl ⟨rfl, ends_value (c := .int .i64 Bt) ?_⟩
            simp [execOp, Act.eval, d2]
          | 5, ho =>
            obtain rfl := Option.some.inj ho
            have d61 : bx.tmps.getD 61 undef = .int .i64 Bt := hS.dep 4 61 (by kernel_rfl) (by kernel_rfl)
            refine .inl ⟨rfl, ends_value (c := .int .i64 (Bt / 8)) ?_⟩
            simp [Act.eval, d61, go_sem, hq8, hq8w]
          | 6, ho =>
            obtain rfl := Option.some.inj ho
            have d60 : bx.tmps.getD 60 undef = .slice (some ⟨g, 0, none⟩) n c := hS.dep 3 60 (by kernel_rfl) (by kernel_rfl)
            have d62 : bx.tmps.getD 62 undef = .int .i64 (Bt / 8) := hS.dep 5 62 (by kernel_rfl) (by kernel_rfl)
            refine .inl ⟨rfl, ends_value (c := .pointer (some ⟨g, Kn, none⟩)) ?_⟩
            simp [Act.eval, d60, d62, go_sem, hK0, hK1, hKn]
          | 7, ho =>
            obtain rfl := Option.some.inj ho
            have d63 : bx.tmps.getD 63 undef = .pointer (some ⟨g, Kn, none⟩) := hS.dep 6 63 (by kernel_rfl) (by kernel_rfl)
            have hl := (hbts (hbel (by kernel_rfl)))
            refine .inl ⟨rfl, ends_value (c := .int .u8 bK) ?_⟩
            simp [Act.eval, d63, go_sem, hl]
          | 8, ho =>
            obtain rfl := Option.some.inj ho
            have d2 : bx.tmps.getD 2 undef = .int .i64 Bt := hS.base 2 (by kernel_rfl)
            refine .inl ⟨rfl, ends_value (c := .int .i64 Bt) ?_⟩
            simp [execOp, Act.eval, d2]
          | 9, ho =>
            obtain rfl := Option.some.inj ho
            have d65 : bx.tmps.getD 65 undef = .int .i64 Bt := hS.dep 8 65 (by kernel_rfl) (by kernel_rfl)
            refine .inl ⟨rfl, ends_value (c := .int .i64 (Bt % 8)) ?_⟩
            simp [Act.eval, d65, go_sem, hr8]
          | 10, ho =>
            obtain rfl := Option.some.inj ho
            have d66 : bx.tmps.getD 66 undef = .int .i64 (Bt % 8) := hS.dep 9 66 (by kernel_rfl) (by kernel_rfl)
            refine .inl ⟨rfl, ends_value (c := .int .u8 PW) ?_⟩
            simp [Act.eval, d66, go_sem, hsh]
          | 11, ho =>
            obtain rfl := Option.some.inj ho
            have d64 : bx.tmps.getD 64 undef = .int .u8 bK := hS.dep 7 64 (by kernel_rfl) (by kernel_rfl)
            have d67 : bx.tmps.getD 67 undef = .int .u8 PW := hS.dep 10 67 (by kernel_rfl) (by kernel_rfl)
            refine .inl ⟨rfl, ends_value (c := .int .u8 X) ?_⟩
            simp [Act.eval, d64, d67, go_sem, hX]
          | 12, ho =>
            obtain rfl := Option.some.inj ho
            have d57 : bx.tmps.getD 57 undef = .slice (some ⟨g, 0, none⟩) n c := hS.dep 0 57 (by kernel_rfl) (by kernel_rfl)
            have d59 : bx.tmps.getD 59 undef = .int .i64 (Bt / 8) := hS.dep 2 59 (by kernel_rfl) (by kernel_rfl)
            refine .inl ⟨rfl, ends_value (c := .pointer (some ⟨g, Kn, none⟩)) ?_⟩
            simp [Act.eval, d57, d59, go_sem, hK0, hK1, hKn]
          | 13, _ => exact absurd rfl hne
          | n + 14, ho => exact absurd ho (by simp)
        case store =>
          intro o bx u ho hbel hS
          obtain rfl := Option.some.inj ho
          have d69 : bx.tmps.getD 69 undef = .pointer (some ⟨g, Kn, none⟩) := hS.dep 12 69 (by kernel_rfl) (by kernel_rfl)
          have d68 : bx.tmps.getD 68 undef = .int .u8 X := hS.dep 11 68 (by kernel_rfl) (by kernel_rfl)
          have hs1 := hbts hbel
          have hs2 := hbtf hbel
          refine ⟨rfl, ?_⟩
          simp [Act.eval, d69, d68, go_sem, hs1, hs2]
        case fin =>
          intro u hbel
          simp [putAll, dstAt, Act.put]
          have hB2 : Bts (u.setCell ⟨g, Kn, none⟩ (.int .u8 X)) g (t.data.toList.set Kn (UInt8.ofNat X.toNat)) := (hon hbel).set Kn (by rw [Oct.len_eq]; omega) X hX0 (by omega)
          have hbz : Below w.heap.size w (u.setCell ⟨g, Kn, none⟩ (.int .u8 X)) := (hbV.drew.trans (hbel.mono (by omega))).setCell (p := ⟨g, Kn, none⟩) (by simp; omega) _
          generalize u.setCell ⟨g, Kn, none⟩ (.int .u8 X) = Z at *
          have hlen : (t.data.toList.set Kn (UInt8.ofNat X.toNat)).length = n := by rw [List.length_set, Oct.len_eq]; exact hn
          have htx := hB2.text c
          rw [hlen] at htx
          have hxe : (⟨(t.data.toList.set Kn (UInt8.ofNat X.toNat)).toArray⟩ : ByteArray) = withB t Kn (UInt8.ofNat X.toNat) := rfl
          rw [hxe] at htx
          have hxs : (withB t Kn (UInt8.ofNat X.toNat)).size ≤ 281474976710656 := by rw [withB_size]; omega
          clear hB2 hxe
          generalize withB t Kn (UInt8.ofNat X.toNat) = x at *
          go_wp2_with fail
          refine (parse_any x _ hxs).mono ?_
          rintro e v1 ⟨rfl, hc1⟩
          have kb1 := hbz.trans (hc1.mono hbz.size)
          have KB := hide (kb1.alloc kb1.size (.cells #[.int .i64 (parseH x).tos, .int .i64 (parseH x).id, .int .i64 (parseH x).flags, .int .i64 (parseH x).frag, .int .i64 (parseH x).ttl, .int .i64 (parseH x).proto, .int .u32 (parseH x).src, .int .u32 (parseH x).dst, .string (parseH x).opts] 24))
          have hdE : (parseE x != 0) = true := by simpa using hbad
          clear hc1 kb1 hbz htx
          go_wp2_with fail
          go_ret
          exact ⟨rfl, unhide KB⟩
    · have hA0 : 0 ≤ a2 := by omega
      have hd : decide (a2 < 0) = false := by simpa using hneg
      obtain ⟨R, hR⟩ : ∃ R : Int, a2 % (8 * (20 + (a0.opts.size : Int))) = R := ⟨_, rfl⟩
      have hR0 : 0 ≤ R := by rw [← hR]; exact Int.emod_nonneg _ (by omega)
      have hR1 : R < 8 * (20 + (a0.opts.size : Int)) := by rw [← hR]; exact Int.emod_lt_of_pos _ (by omega)
      by_cases h4 : R < 4
      · obtain ⟨Bt, hBt⟩ : ∃ Bt : Int, R + 4 = Bt := ⟨_, rfl⟩
        have hb0 : 4 ≤ Bt := by omega
        have hb1 : Bt / 8 < 20 + a0.opts.size := by omega
        have hd4 : decide (R < 4) = true := by simpa using h4
        go_wp2_with fail
        clear hcv hd4
        generalize hg : w3.heap.size = g at *
        obtain ⟨Kn, hKn⟩ : ∃ Kn : Nat, (Bt / 8).toNat = Kn := ⟨_, rfl⟩
        have hK0 : 0 ≤ Bt / 8 := by omega
        have hK1 : Bt / 8 < n := by omega
        have hKlt : Kn < n := by omega
        have hq8 : Bt.tdiv 8 = Bt / 8 := Int.tdiv_eq_ediv_of_nonneg (by omega)
        have hq8w := Oct.wraps_i64 (Bt / 8) (by omega) (by omega)
        have hr8 : Bt.tmod 8 = Bt % 8 := Int.tmod_eq_emod_of_nonneg (by omega)
        obtain ⟨PW, hPW⟩ : ∃ PW : Int, (2 : Int) ^ (Bt.toNat % 8) = PW := ⟨_, rfl⟩
        have he8 : (Bt % 8).toNat = Bt.toNat % 8 := by omega
        have hPb : 1 ≤ PW ∧ PW ≤ 128 := by
          have hm8 : Bt.toNat % 8 = 0 ∨ Bt.toNat % 8 = 1 ∨ Bt.toNat % 8 = 2 ∨ Bt.toNat % 8 = 3 ∨ Bt.toNat % 8 = 4 ∨ Bt.toNat % 8 = 5 ∨ Bt.toNat % 8 = 6 ∨ Bt.toNat % 8 = 7 := by omega
          rcases hm8 with h | h | h | h | h | h | h | h <;> rw [h] at hPW <;> simp at hPW <;> omega
        have hsh : IntKind.u8.wrap (2 ^ (Bt % 8).toNat) = PW := by
          rw [he8, hPW]
          simp [IntKind.wrap, IntKind.bits, IntKind.signed]; omega
        have hon : ∀ {u : World}, Below V.heap.size V.drew u → Bts u g t.data.toList := fun {u} hb => hVt.on (hdrew hb)
        have hlt : Kn < t.data.toList.length := by rw [Oct.len_eq]; omega
        have hbts : ∀ {u : World}, Below V.heap.size V.drew u → u.cell? ⟨g, Kn, none⟩ = some (.int .u8 ((t.data.toList.getD Kn 0).toNat : Int)) := fun {u} hb => (hon hb Kn hlt).1
        have hbtf : ∀ {u : World}, Below V.heap.size V.drew u → u.frozen? ⟨g, Kn, none⟩ = false := fun {u} hb => (hon hb Kn hlt).2
        obtain ⟨X, hX⟩ : ∃ X : Int, bits .xor .u8 ((t.data.toList.getD Kn 0).toNat : Int) PW = X := ⟨_, rfl⟩
        have hXb := bounds_u8 (wf_bits .xor .u8 ((t.data.toList.getD Kn 0).toNat : Int) PW)
        rw [hX] at hXb
        obtain ⟨hX0, hX1⟩ := hXb
        have hbad : ¬ parseE (withB t Kn (UInt8.ofNat X.toNat)) = 0 := by
          have e : Bt.toNat / 8 = Kn := by omega
          have := (unhide HT) Bt.toNat (by omega) (by omega) X (by rw [e, hPW]; exact hX) hX0 hX1
          rw [e] at this
          exact this
        generalize hbK : ((t.data.toList.getD Kn 0).toNat : Int) = bK at *
        refine wp_region_grow_store (by kernel_rfl) [.slice (some ⟨g, 0, none⟩) n c, .int .i64 Bt, .int .i64 (Bt / 8), .slice (some ⟨g, 0, none⟩) n c, .int .i64 Bt, .int .i64 (Bt / 8), .pointer (some ⟨g, Kn, none⟩), .int .u8 bK, .int .i64 Bt, .int .i64 (Bt % 8), .int .u8 PW, .int .u8 X, .pointer (some ⟨g, Kn, none⟩), undef] 13 (fun v => v.setCell ⟨g, Kn, none⟩ (.int .u8 X)) (by kernel_rfl) (by decide) rfl ?op ?store ?fin
        case op =>
          intro i o bx u ho hne hbel hS
          match i, ho with
          | 0, ho =>
            obtain rfl := Option.some.inj ho
            have d10 : bx.tmps.getD 10 undef = .slice (some ⟨g, 0, none⟩) n c := hS.base 10 (by kernel_rfl)
            refine .inl ⟨rfl, ends_value (c := .slice (some ⟨g, 0, none⟩) n c) ?_⟩
            simp [execOp, Act.eval, d10]
          | 1, ho =>
            obtain rfl := Option.some.inj ho
            have d2 : bx.tmps.getD 2 undef = .int .i64 Bt := hS.base 2 (by kernel_rfl)
            refine .inl ⟨rfl, ends_value (c := .int .i64 Bt) ?_⟩
            simp [execOp, Act.eval, d2]
          | 2, ho =>
            obtain rfl := Option.some.inj ho
            have d58 : bx.tmps.getD 58 undef = .int .i64 Bt := hS.dep 1 58 (by kernel_rfl) (by kernel_rfl)
            refine .inl ⟨rfl, ends_value (c := .int .i64 (Bt / 8)) ?_⟩
            simp [Act.eval, d58, go_sem, hq8, hq8w]
          | 3, ho =>
            obtain rfl := Option.some.inj ho
            have d10 : bx.tmps.getD 10 undef = .slice (some ⟨g, 0, none⟩) n c := hS.base 10 (by kernel_rfl)
            refine .inl ⟨rfl, ends_value (c := .slice (some ⟨g, 0, none⟩) n c) ?_⟩
            simp [execOp, Act.eval, d10]
          | 4, ho =>
            obtain rfl := Option.some.inj ho
            have d2 : bx.tmps.getD 2 undef = .int .i64 Bt := hS.base 2 (by kernel_rfl)
            refine .inl ⟨rfl, ends_value (c := .int .i64 Bt) ?_⟩
            simp [execOp, Act.eval, d2]
          | 5, ho =>
            obtain rfl := Option.some.inj ho
            have d61 : bx.tmps.getD 61 undef = .int .i64 Bt := hS.dep 4 61 (by kernel_rfl) (by kernel_rfl)
            refine .inl ⟨rfl, ends_value (c := .int .i64 (Bt / 8)) ?_⟩
            simp [Act.eval, d61, go_sem, hq8, hq8w]
          | 6, ho =>
            obtain rfl := Option.some.inj ho
            have d60 : bx.tmps.getD 60 undef = .slice (some ⟨g, 0, none⟩) n c := hS.dep 3 60 (by kernel_rfl) (by kernel_rfl)
            have d62 : bx.tmps.getD 62 undef = .int .i64 (Bt / 8) := hS.dep 5 62 (by kernel_rfl) (by kernel_rfl)
            refine .inl ⟨rfl, ends_value (c := .pointer (some ⟨g, Kn, none⟩)) ?_⟩
            simp [Act.eval, d60, d62, go_sem, hK0, hK1, hKn]
          | 7, ho =>
            obtain rfl := Option.some.inj ho
            have d63 : bx.tmps.getD 63 undef = .pointer (some ⟨g, Kn, none⟩) := hS.dep 6 63 (by kernel_rfl) (by kernel_rfl)
            have hl := (hbts (hbel (by kernel_rfl)))
            refine .inl ⟨rfl, ends_value (c := .int .u8 bK) ?_⟩
            simp [Act.eval, d63, go_sem, hl]
          | 8, ho =>
            obtain rfl := Option.some.inj ho
            have d2 : bx.tmps.getD 2 undef = .int .i64 Bt := hS.base 2 (by kernel_rfl)
            refine .inl ⟨rfl, ends_value (c := .int .i64 Bt) ?_⟩
            simp [execOp, Act.eval, d2]
          | 9, ho =>
            obtain rfl := Option.some.inj ho
            have d65 : bx.tmps.getD 65 undef = .int .i64 Bt := hS.dep 8 65 (by kernel_rfl) (by kernel_rfl)
            refine .inl ⟨rfl, ends_value (c := .int .i64 (Bt % 8)) ?_⟩
            simp [Act.eval, d65, go_sem, hr8]
          | 10, ho =>
            obtain rfl := Option.some.inj ho
            have d66 : bx.tmps.getD 66 undef = .int .i64 (Bt % 8) := hS.dep 9 66 (by kernel_rfl) (by kernel_rfl)
            refine .inl ⟨rfl, ends_value (c := .int .u8 PW) ?_⟩
            simp [Act.eval, d66, go_sem, hsh]
          | 11, ho =>
            obtain rfl := Option.some.inj ho
            have d64 : bx.tmps.getD 64 undef = .int .u8 bK := hS.dep 7 64 (by kernel_rfl) (by kernel_rfl)
            have d67 : bx.tmps.getD 67 undef = .int .u8 PW := hS.dep 10 67 (by kernel_rfl) (by kernel_rfl)
            refine .inl ⟨rfl, ends_value (c := .int .u8 X) ?_⟩
            simp [Act.eval, d64, d67, go_sem, hX]
          | 12, ho =>
            obtain rfl := Option.some.inj ho
            have d57 : bx.tmps.getD 57 undef = .slice (some ⟨g, 0, none⟩) n c := hS.dep 0 57 (by kernel_rfl) (by kernel_rfl)
            have d59 : bx.tmps.getD 59 undef = .int .i64 (Bt / 8) := hS.dep 2 59 (by kernel_rfl) (by kernel_rfl)
            refine .inl ⟨rfl, ends_value (c := .pointer (some ⟨g, Kn, none⟩)) ?_⟩
            simp [Act.eval, d57, d59, go_sem, hK0, hK1, hKn]
          | 13, _ => exact absurd rfl hne
          | n + 14, ho => exact absurd ho (by simp)
        case store =>
          intro o bx u ho hbel hS
          obtain rfl := Option.some.inj ho
          have d69 : bx.tmps.getD 69 undef = .pointer (some ⟨g, Kn, none⟩) := hS.dep 12 69 (by kernel_rfl) (by kernel_rfl)
          have d68 : bx.tmps.getD 68 undef = .int .u8 X := hS.dep 11 68 (by kernel_rfl) (by kernel_rfl)
          have hs1 := hbts hbel
          have hs2 := hbtf hbel
          refine ⟨rfl, ?_⟩
          simp [Act.eval, d69, d68, go_sem, hs1, hs2]
        case fin =>
          intro u hbel
          simp [putAll, dstAt, Act.put]
          have hB2 : Bts (u.setCell ⟨g, Kn, none⟩ (.int .u8 X)) g (t.data.toList.set Kn (UInt8.ofNat X.toNat)) := (hon hbel).set Kn (by rw [Oct.len_eq]; omega) X hX0 (by omega)
          have hbz : Below w.heap.size w (u.setCell ⟨g, Kn, none⟩ (.int .u8 X)) := (hbV.drew.trans (hbel.mono (by omega))).setCell (p := ⟨g, Kn, none⟩) (by simp; omega) _
          generalize u.setCell ⟨g, Kn, none⟩ (.int .u8 X) = Z at *
          have hlen : (t.data.toList.set Kn (UInt8.ofNat X.toNat)).length = n := by rw [List.length_set, Oct.len_eq]; exact hn
          have htx := hB2.text c
          rw [hlen] at htx
          have hxe : (⟨(t.data.toList.set Kn (UInt8.ofNat X.toNat)).toArray⟩ : ByteArray) = withB t Kn (UInt8.ofNat X.toNat) := rfl
          rw [hxe] at htx
          have hxs : (withB t Kn (UInt8.ofNat X.toNat)).size ≤ 281474976710656 := by rw [withB_size]; omega
          clear hB2 hxe
          generalize withB t Kn (UInt8.ofNat X.toNat) = x at *
          go_wp2_with fail
          refine (parse_any x _ hxs).mono ?_
          rintro e v1 ⟨rfl, hc1⟩
          have kb1 := hbz.trans (hc1.mono hbz.size)
          have KB := hide (kb1.alloc kb1.size (.cells #[.int .i64 (parseH x).tos, .int .i64 (parseH x).id, .int .i64 (parseH x).flags, .int .i64 (parseH x).frag, .int .i64 (parseH x).ttl, .int .i64 (parseH x).proto, .int .u32 (parseH x).src, .int .u32 (parseH x).dst, .string (parseH x).opts] 24))
          have hdE : (parseE x != 0) = true := by simpa using hbad
          clear hc1 kb1 hbz htx
          go_wp2_with fail
          go_ret
          exact ⟨rfl, unhide KB⟩
      · obtain ⟨Bt, hBt⟩ : ∃ Bt : Int, R = Bt := ⟨_, rfl⟩
        have hb0 : 4 ≤ Bt := by omega
        have hb1 : Bt / 8 < 20 + a0.opts.size := by omega
        have hd4 : decide (R < 4) = false := by simpa using h4
        go_wp2_with fail
        rw [hR.trans hBt]
        clear hcv hd4
        generalize hg : w3.heap.size = g at *
        obtain ⟨Kn, hKn⟩ : ∃ Kn : Nat, (Bt / 8).toNat = Kn := ⟨_, rfl⟩
        have hK0 : 0 ≤ Bt / 8 := by omega
        have hK1 : Bt / 8 < n := by omega
        have hKlt : Kn < n := by omega
        have hq8 : Bt.tdiv 8 = Bt / 8 := Int.tdiv_eq_ediv_of_nonneg (by omega)
        have hq8w := Oct.wraps_i64 (Bt / 8) (by omega) (by omega)
        have hr8 : Bt.tmod 8 = Bt % 8 := Int.tmod_eq_emod_of_nonneg (by omega)
        obtain ⟨PW, hPW⟩ : ∃ PW : Int, (2 : Int) ^ (Bt.toNat % 8) = PW := ⟨_, rfl⟩
        have he8 : (Bt % 8).toNat = Bt.toNat % 8 := by omega
        have hPb : 1 ≤ PW ∧ PW ≤ 128 := by
          have hm8 : Bt.toNat % 8 = 0 ∨ Bt.toNat % 8 = 1 ∨ Bt.toNat % 8 = 2 ∨ Bt.toNat % 8 = 3 ∨ Bt.toNat % 8 = 4 ∨ Bt.toNat % 8 = 5 ∨ Bt.toNat % 8 = 6 ∨ Bt.toNat % 8 = 7 := by omega
          rcases hm8 with h | h | h | h | h | h | h | h <;> rw [h] at hPW <;> simp at hPW <;> omega
        have hsh : IntKind.u8.wrap (2 ^ (Bt % 8).toNat) = PW := by
          rw [he8, hPW]
          simp [IntKind.wrap, IntKind.bits, IntKind.signed]; omega
        have hon : ∀ {u : World}, Below V.heap.size V.drew u → Bts u g t.data.toList := fun {u} hb => hVt.on (hdrew hb)
        have hlt : Kn < t.data.toList.length := by rw [Oct.len_eq]; omega
        have hbts : ∀ {u : World}, Below V.heap.size V.drew u → u.cell? ⟨g, Kn, none⟩ = some (.int .u8 ((t.data.toList.getD Kn 0).toNat : Int)) := fun {u} hb => (hon hb Kn hlt).1
        have hbtf : ∀ {u : World}, Below V.heap.size V.drew u → u.frozen? ⟨g, Kn, none⟩ = false := fun {u} hb => (hon hb Kn hlt).2
        obtain ⟨X, hX⟩ : ∃ X : Int, bits .xor .u8 ((t.data.toList.getD Kn 0).toNat : Int) PW = X := ⟨_, rfl⟩
        have hXb := bounds_u8 (wf_bits .xor .u8 ((t.data.toList.getD Kn 0).toNat : Int) PW)
        rw [hX] at hXb
        obtain ⟨hX0, hX1⟩ := hXb
        have hbad : ¬ parseE (withB t Kn (UInt8.ofNat X.toNat)) = 0 := by
          have e : Bt.toNat / 8 = Kn := by omega
          have := (unhide HT) Bt.toNat (by omega) (by omega) X (by rw [e, hPW]; exact hX) hX0 hX1
          rw [e] at this
          exact this
        generalize hbK : ((t.data.toList.getD Kn 0).toNat : Int) = bK at *
        refine wp_region_grow_store (by kernel_rfl) [.slice (some ⟨g, 0, none⟩) n c, .int .i64 Bt, .int .i64 (Bt / 8), .slice (some ⟨g, 0, none⟩) n c, .int .i64 Bt, .int .i64 (Bt / 8), .pointer (some ⟨g, Kn, none⟩), .int .u8 bK, .int .i64 Bt, .int .i64 (Bt % 8), .int .u8 PW, .int .u8 X, .pointer (some ⟨g, Kn, none⟩), undef] 13 (fun v => v.setCell ⟨g, Kn, none⟩ (.int .u8 X)) (by kernel_rfl) (by decide) rfl ?op ?store ?fin
        case op =>
          intro i o bx u ho hne hbel hS
          match i, ho with
          | 0, ho =>
            obtain rfl := Option.some.inj ho
            have d10 : bx.tmps.getD 10 undef = .slice (some ⟨g, 0, none⟩) n c := hS.base 10 (by kernel_rfl)
            refine .inl ⟨rfl, ends_value (c := .slice (some ⟨g, 0, none⟩) n c) ?_⟩
            simp [execOp, Act.eval, d10]
          | 1, ho =>
            obtain rfl := Option.some.inj ho
            have d2 : bx.tmps.getD 2 undef = .int .i64 Bt := hS.base 2 (by kernel_rfl)
            refine .inl ⟨rfl, ends_value (c := .int .i64 Bt) ?_⟩
            simp [execOp, Act.eval, d2]
          | 2, ho =>
            obtain rfl := Option.some.inj ho
            have d58 : bx.tmps.getD 58 undef = .int .i64 Bt := hS.dep 1 58 (by kernel_rfl) (by kernel_rfl)
            refine .inl ⟨rfl, ends_value (c := .int .i64 (Bt / 8)) ?_⟩
            simp [Act.eval, d58, go_sem, hq8, hq8w]
          | 3, ho =>
            obtain rfl := Option.some.inj ho
            have d10 : bx.tmps.getD 10 undef = .slice (some ⟨g, 0, none⟩) n c := hS.base 10 (by kernel_rfl)
            refine .inl ⟨rfl, ends_value (c := .slice (some ⟨g, 0, none⟩) n c) ?_⟩
            simp [execOp, Act.eval, d10]
          | 4, ho =>
            obtain rfl := Option.some.inj ho
            have d2 : bx.tmps.getD 2 undef = .int .i64 Bt := hS.base 2 (by kernel_rfl)
            refine .inl ⟨rfl, ends_value (c := .int .i64 Bt) ?_⟩
            simp [execOp, Act.eval, d2]
          | 5, ho =>
            obtain rfl := Option.some.inj ho
            have d61 : bx.tmps.getD 61 undef = .int .i64 Bt := hS.dep 4 61 (by kernel_rfl) (by kernel_rfl)
            refine .inl ⟨rfl, ends_value (c := .int .i64 (Bt / 8)) ?_⟩
            simp [Act.eval, d61, go_sem, hq8, hq8w]
          | 6, ho =>
            obtain rfl := Option.some.inj ho
            have d60 : bx.tmps.getD 60 undef = .slice (some ⟨g, 0, none⟩) n c := hS.dep 3 60 (by kernel_rfl) (by kernel_rfl)
            have d62 : bx.tmps.getD 62 undef = .int .i64 (Bt / 8) := hS.dep 5 62 (by kernel_rfl) (by kernel_rfl)
            refine .inl ⟨rfl, ends_value (c := .pointer (some ⟨g, Kn, none⟩)) ?_⟩
            simp [Act.eval, d60, d62, go_sem, hK0, hK1, hKn]
          | 7, ho =>
            obtain rfl := Option.some.inj ho
            have d63 : bx.tmps.getD 63 undef = .pointer (some ⟨g, Kn, none⟩) := hS.dep 6 63 (by kernel_rfl) (by kernel_rfl)
            have hl := (hbts (hbel (by kernel_rfl)))
            refine .inl ⟨rfl, ends_value (c := .int .u8 bK) ?_⟩
            simp [Act.eval, d63, go_sem, hl]
          | 8, ho =>
            obtain rfl := Option.some.inj ho
            have d2 : bx.tmps.getD 2 undef = .int .i64 Bt := hS.base 2 (by kernel_rfl)
            refine .inl ⟨rfl, ends_value (c := .int .i64 Bt) ?_⟩
            simp [execOp, Act.eval, d2]
          | 9, ho =>
            obtain rfl := Option.some.inj ho
            have d65 : bx.tmps.getD 65 undef = .int .i64 Bt := hS.dep 8 65 (by kernel_rfl) (by kernel_rfl)
            refine .inl ⟨rfl, ends_value (c := .int .i64 (Bt % 8)) ?_⟩
            simp [Act.eval, d65, go_sem, hr8]
          | 10, ho =>
            obtain rfl := Option.some.inj ho
            have d66 : bx.tmps.getD 66 undef = .int .i64 (Bt % 8) := hS.dep 9 66 (by kernel_rfl) (by kernel_rfl)
            refine .inl ⟨rfl, ends_value (c := .int .u8 PW) ?_⟩
            simp [Act.eval, d66, go_sem, hsh]
          | 11, ho =>
            obtain rfl := Option.some.inj ho
            have d64 : bx.tmps.getD 64 undef = .int .u8 bK := hS.dep 7 64 (by kernel_rfl) (by kernel_rfl)
            have d67 : bx.tmps.getD 67 undef = .int .u8 PW := hS.dep 10 67 (by kernel_rfl) (by kernel_rfl)
            refine .inl ⟨rfl, ends_value (c := .int .u8 X) ?_⟩
            simp [Act.eval, d64, d67, go_sem, hX]
          | 12, ho =>
            obtain rfl := Option.some.inj ho
            have d57 : bx.tmps.getD 57 undef = .slice (some ⟨g, 0, none⟩) n c := hS.dep 0 57 (by kernel_rfl) (by kernel_rfl)
            have d59 : bx.tmps.getD 59 undef = .int .i64 (Bt / 8) := hS.dep 2 59 (by kernel_rfl) (by kernel_rfl)
            refine .inl ⟨rfl, ends_value (c := .pointer (some ⟨g, Kn, none⟩)) ?_⟩
            simp [Act.eval, d57, d59, go_sem, hK0, hK1, hKn]
          | 13, _ => exact absurd rfl hne
          | n + 14, ho => exact absurd ho (by simp)
        case store =>
          intro o bx u ho hbel hS
          obtain rfl := Option.some.inj ho
          have d69 : bx.tmps.getD 69 undef = .pointer (some ⟨g, Kn, none⟩) := hS.dep 12 69 (by kernel_rfl) (by kernel_rfl)
          have d68 : bx.tmps.getD 68 undef = .int .u8 X := hS.dep 11 68 (by kernel_rfl) (by kernel_rfl)
          have hs1 := hbts hbel
          have hs2 := hbtf hbel
          refine ⟨rfl, ?_⟩
          simp [Act.eval, d69, d68, go_sem, hs1, hs2]
        case fin =>
          intro u hbel
          simp [putAll, dstAt, Act.put]
          have hB2 : Bts (u.setCell ⟨g, Kn, none⟩ (.int .u8 X)) g (t.data.toList.set Kn (UInt8.ofNat X.toNat)) := (hon hbel).set Kn (by rw [Oct.len_eq]; omega) X hX0 (by omega)
          have hbz : Below w.heap.size w (u.setCell ⟨g, Kn, none⟩ (.int .u8 X)) := (hbV.drew.trans (hbel.mono (by omega))).setCell (p := ⟨g, Kn, none⟩) (by simp; omega) _
          generalize u.setCell ⟨g, Kn, none⟩ (.int .u8 X) = Z at *
          have hlen : (t.data.toList.set Kn (UInt8.ofNat X.toNat)).length = n := by rw [List.length_set, Oct.len_eq]; exact hn
          have htx := hB2.text c
          rw [hlen] at htx
          have hxe : (⟨(t.data.toList.set Kn (UInt8.ofNat X.toNat)).toArray⟩ : ByteArray) = withB t Kn (UInt8.ofNat X.toNat) := rfl
          rw [hxe] at htx
          have hxs : (withB t Kn (UInt8.ofNat X.toNat)).size ≤ 281474976710656 := by rw [withB_size]; omega
          clear hB2 hxe
          generalize withB t Kn (UInt8.ofNat X.toNat) = x at *
          go_wp2_with fail
          refine (parse_any x _ hxs).mono ?_
          rintro e v1 ⟨rfl, hc1⟩
          have kb1 := hbz.trans (hc1.mono hbz.size)
          have KB := hide (kb1.alloc kb1.size (.cells #[.int .i64 (parseH x).tos, .int .i64 (parseH x).id, .int .i64 (parseH x).flags, .int .i64 (parseH x).frag, .int .i64 (parseH x).ttl, .int .i64 (parseH x).proto, .int .u32 (parseH x).src, .int .u32 (parseH x).dst, .string (parseH x).opts] 24))
          have hdE : (parseE x != 0) = true := by simpa using hbad
          clear hc1 kb1 hbz htx
          go_wp2_with fail
          go_ret
          exact ⟨rfl, unhide KB⟩

theorem own : ownKnob Try.prog.godebug = none := by kernel_rfl
set_option maxRecDepth 100000 in
theorem lifted (os : Os) (started : os.Started) (H : Type) (enc : TypeId × Value → H) :
    ReturnsInHanded {} Try.checked os 6 .any (Rows.ip4BitSpec.pre6 enc Try.prog Try.f6 Rows.ip4BitRow.domain false) (Rows.ip4BitSpec.post enc Try.prog Try.f6 false true false false) := by
  refine returnsInHanded_of_change_sized (C := Try.checked) own started (by kernel_rfl) Try.func6
    (ChangeSpec.witness6 (enc := enc) (C := Try.checked) false ⟨#[], #[.agg #[.int .i64 0, .int .i64 0, .int .i64 0, .int .i64 0, .int .i64 0, .int .i64 0, .int .u32 0, .int .u32 0, .string ByteArray.empty], .string ByteArray.empty, .int .i64 0], []⟩ 8 (by kernel_rfl) (by kernel_rfl) (by kernel_rfl) (by kernel_rfl)) ?_
  intro W base args ds gs before hval0 hW hcnd hsz _
  have hval : ∀ (j : Nat) t v, Try.f6.params[j]? = some t → args[j]? = some v → Value.okWide Try.prog W .any base t v := hval0
  have hW' := hW
  obtain ⟨p, q, hA0, hV, rfl, hfz, hnd⟩ := hW
  have hA : DataW.TrodAll enc Try.prog W 0 (fun _ => true) true Try.f6.params.toList args.toList ds p := hA0
  rw [Try.params6] at hA hval
  obtain ⟨v0, vs0, d0, ds0, p0, q0, hargs, rfl, rfl, h0, r0⟩ := trodAll_cons hA
  obtain ⟨v1, vs1, d1, ds1, p1, q1, rfl, rfl, rfl, h1, r1⟩ := trodAll_cons r0
  obtain ⟨v2, vs2, d2, ds2, p2, q2, rfl, rfl, rfl, h2, r2⟩ := trodAll_cons r1
  obtain ⟨rfl, rfl, rfl⟩ := trodAll_nil r2
  obtain rfl : args = #[v0, v1, v2] := by cases args; simp_all
  obtain ⟨rfl, rfl⟩ := trodVars_none hV
  obtain ⟨a0, rfl, rfl, rfl, f0⟩ := open_head (hval 0 24 v0 rfl rfl) h0
  obtain ⟨a1, rfl, rfl, rfl, w1⟩ := open_string Try.underlying9 (hval 1 9 v1 rfl rfl) h1
  obtain ⟨a2, rfl, rfl, rfl, w2⟩ := open_int Try.underlying3 (hval 2 3 v2 rfl rfl) h2
  clear hA0 hval0
  simp only [List.append_nil] at hW'
  have w0 : a0.Wf := f0.wf (sized_head hsz (j := 0) rfl rfl)
  have z1 : a1.size ≤ 140737488355328 := by
    have hq : a1.data.toList.length ≤ reachBytes := sized_string hsz (j := 1) (t := 9) rfl rfl
    have e : a1.data.toList.length = a1.size := by rw [Array.length_toList]; rfl
    rw [e] at hq
    exact Nat.le_trans hq (by decide)
  refine (walk W a0 w0 a1 z1 a2 w2).mono fun e W' ⟨he, bel⟩ => ?_
  subst he
  exact ⟨_, rfl, _, _, _, [], _, [], hW', (trodAll_cons_mk (shut_bool Try.underlying4 _) trodAll_mk0), (trodAll_cons_mk (shut_head a0 f0) (trodAll_cons_mk (shut_string Try.underlying9 w1) (trodAll_cons_mk (shut_int Try.underlying3 w2) trodAll_mk0))), rfl, bel.frame _, fun h => by cases h⟩

theorem over : Rows.ip4BitRow.holds Try.pinned (OpenSpec.ofChange Rows.ip4BitSpec) :=
  OpenClaim.holds_of_wide 6 Try.f6 rfl rfl rfl rfl rfl rfl rfl ⟨rfl, rfl, rfl, rfl, rfl⟩ rfl rfl rfl rfl rfl (by kernel_rfl) Try.func6 (by kernel_rfl)
    (of_decide_eq_true (by kernel_rfl)) (by unfold Func.isWrapper; first | (rw [if_pos (by decide +kernel)]; kernel_rfl) | (rw [if_neg (by decide +kernel)]; exact ⟨rfl, rfl⟩))
    (fun os started H enc _ => lifted os started H enc)

theorem proved : Rows.Ip4BitSaid := over
#print axioms proved
end Go.Proofs.Ytfppjpcolohmfaa.ip4Bit
