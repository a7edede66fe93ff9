/- The law IcmpBack returns true for every kind and code of 8 bits, every rest, body and bit, and changes nothing that was there before, where the package's four variables hold what the program's own text lays in them; no condition but the form's own. -/
import Derived.Test.YteggaeleehlhmaaDoorIcLaid
import Derived.Test.YteggaeleehlhmaaDoorIcBit
import Derived.Test.YteggaeleehlhmaaDoorIpGrow
namespace Go.Proofs.YteggaeleehlhmaaDoor.icmpBack
open Go.ChangeShapes Go.WideShapes Go.ChangeAt Go.RowKit
open Go.ChangeMaps (open_string shut_string)
set_option linter.unusedVariables false
theorem hdrew {V u : World} {B : Nat} (hb : Below B V.drew u) : Below B V u := ⟨hb.os, hb.tape, hb.output, hb.size, hb.block⟩
set_option maxHeartbeats 4000000 in
set_option maxRecDepth 100000 in
theorem walk (w : World) (hE : Env w) (a0 : Int) (w0 : (Lit.int .u8 a0).wf = true) (a1 : Int) (w1 : (Lit.int .u8 a1).wf = true) (a2 : Int) (w2 : (Lit.int .u32 a2).wf = true) (a3 : ByteArray) (z3 : a3.size ≤ 140737488355328) (a4 : Int) (w4 : (Lit.int .i64 a4).wf = true) :
    Calls Tryd.prog 5 #[.int .u8 a0, .int .u8 a1, .int .u32 a2, .string a3, .int .i64 a4] w fun e w' => e = .returned (.bool true) ∧ Below w.heap.size w w' := by
  obtain ⟨x0, x1⟩ := bounds_u8 w0
  obtain ⟨y0, y1⟩ := bounds_u8 w1
  obtain ⟨r0, r1⟩ := bounds_u32 w2
  obtain ⟨b0, b1⟩ := bounds_i64 w4
  obtain ⟨m, hmin⟩ : ∃ m : Nat, min (a3.size : Int) 300 = m := ⟨min a3.size 300, by omega⟩
  have hm1 : m ≤ 300 := by omega
  have hm2 : m ≤ a3.size := by omega
  have hm3 : (m : Int) ≤ a3.size := by omega
  have hBs : (a3.extract 0 m).size = m := by rw [Oct.ext_size _ _ _ hm2]; rfl
  generalize hB : a3.extract 0 m = B at *
  have hgd : Good ⟨a0, a1, a2, B⟩ := good_mk B x0 (by omega) y0 (by omega) r0 (by omega)
  have hwf : Hd.Wf ⟨a0, a1, a2, B⟩ := wf_mk B x0 (by omega) y0 (by omega) r0 (by omega) (by omega)
  have hbe := buildE_of hgd (by simp only; omega)
  have hbz := built_size hgd
  simp only at hbz
  have HBC : Hid (∀ u, Calls Tryd.prog 9 #[.agg #[.int .i64 a0, .int .i64 a1, .int .u32 a2, .string B]] u fun e u' => e = .returned (.tuple #[.string (built ⟨a0, a1, a2, B⟩), .int .i64 0]) ∧ Below u.heap.size u u') := fun u => by
    have := build_any ⟨a0, a1, a2, B⟩ u hwf
    rw [hbe, buildS_of hbe] at this
    exact this
  obtain ⟨pb1, pb2⟩ := parse_built hgd
  have HPC : Hid (∀ u, Calls Tryd.prog 16 #[.string (built ⟨a0, a1, a2, B⟩)] u fun e u' => e = .returned (.tuple #[.agg #[.int .i64 a0, .int .i64 a1, .int .u32 a2, .string B], .int .i64 0]) ∧ Below u.heap.size u u') := fun u => by
    have := parse_any (built ⟨a0, a1, a2, B⟩) u (by omega)
    rw [pb1, pb2] at this
    exact this
  have HMC := hide (fun u hu => mtu_any ⟨a0, a1, a2, B⟩ u hwf hu)
  have HMB : Hid (mtuB ⟨a0, a1, a2, B⟩ = ((a0 == 3) && (a1 == 4))) := rfl
  have HMN : Hid (mtuN ⟨a0, a1, a2, B⟩ = if mtuB ⟨a0, a1, a2, B⟩ = true then a2 % 65536 else 0) := rfl
  generalize mtuB ⟨a0, a1, a2, B⟩ = MB at *
  generalize mtuN ⟨a0, a1, a2, B⟩ = MN at *
  have HT := hide (fun (K m : Nat) => turned (built_sum hgd) (by omega) K m)
  have HX := hide (examples_ok w hE)
  have HE := hide hE
  have ka0 := Oct.wraps_i64 a0 x0 (by omega)
  have ka1 := Oct.wraps_i64 a1 y0 (by omega)
  have kr : a2.tmod 65536 = a2 % 65536 := Int.tmod_eq_emod_of_nonneg r0
  have kr1 := wrap_u32 (a2 % 65536) (by omega) (by omega)
  have kr2 := Oct.wraps_i64 (a2 % 65536) (by omega) (by omega)
  generalize built ⟨a0, a1, a2, B⟩ = s at *
  obtain ⟨n, hn⟩ : ∃ n : Nat, s.size = n := ⟨_, rfl⟩
  have hn0 : 8 ≤ n := by omega
  have hn1 : n ≤ 308 := by omega
  have hBb : (B.size : Int) ≤ 300 := by omega
  have hsb : (s.size : Int) ≤ 308 := by omega
  have hd1 : ((s.size : Int) != 8 + (B.size : Int)) = false := by simp; omega
  have HN := hide hn
  clear hgd hwf hbe hbz pb1 pb2 hE w0 w1 w2 w4 x0 x1 y0 y1 r0 r1 hBs hm1 hm2 hn
  obtain ⟨A, hA0, hA1, hAd⟩ : ∃ A : Int, 0 ≤ A ∧ A ≤ 9223372036854775807 ∧ ((decide (a4 < 0) = true ∧ -(a4 + 1) = A) ∨ (decide (a4 < 0) = false ∧ a4 = A)) := by
    by_cases h : a4 < 0
    · exact ⟨-(a4 + 1), by omega, by omega, .inl ⟨by simpa using h, rfl⟩⟩
    · exact ⟨a4, by omega, by omega, .inr ⟨by simpa using h, rfl⟩⟩
  have HA := hide hAd
  clear hAd
  go_enter Tryd.func5, Tryd.ntmps5
  go_wp2_with fail
  refine (unhide HX).mono ?_
  rintro e v1 ⟨rfl, hb1⟩
  have HB1 := hide hb1
  have HK := hide (kept_new v1 ⟨a0, a1, a2, B⟩ 24)
  clear hb1
  go_wp2_with fail
  refine (unhide HBC _).mono ?_
  rintro e v2 ⟨rfl, hb2⟩
  have hk2 := (unhide HK).on hb2
  obtain ⟨c0, c1, c2, c3⟩ := hk2.cells
  simp only at c0 c1 c2 c3
  have HK := hide hk2
  clear hb2 hk2
  go_wp2_with fail
  refine (unhide HPC _).mono ?_
  rintro e v3 ⟨rfl, hb3⟩
  clear c0 c1 c2 c3
  have hk3 := (unhide HK).on hb3
  have hk4 := hk3.on (alloc_on v3 (.cells #[.int .i64 a0, .int .i64 a1, .int .u32 a2, .string B] 24))
  have hn4 := newHd v3 ⟨a0, a1, a2, B⟩ 24
  simp only at hn4
  have hz4 : (v3.alloc (.cells #[.int .i64 a0, .int .i64 a1, .int .u32 a2, .string B] 24)).heap.size = v3.heap.size + 1 := by simp
  have hz3 := hk3.size
  have hn := unhide HN
  obtain ⟨c, V, hcv, hVb, hVt⟩ := conv_bytes s (v3.alloc (.cells #[.int .i64 a0, .int .i64 a1, .int .u32 a2, .string B] 24))
  rw [hz4, hn] at hcv
  rw [hz4] at hVb hVt
  have hgV : v3.heap.size + 1 < V.heap.size := by have := (hVt 0 (by rw [Oct.len_eq]; omega)).1; exact block_lt_of_cell this
  have HM := hide (hk4.at_.on hVb (by omega))
  have HXA := hide (hn4.at_.on hVb (by omega))
  have HBV := hide (hk4.below.trans (hVb.mono (by omega)))
  have HHN := hide hn
  clear hb3 hk3 hk4 hn4 hVb hz4 HK hn HN
  rcases unhide HA with ⟨hd, hA⟩ | ⟨hd, hA⟩
  case inl =>
    go_wp2_with fail
    have hn := unhide HHN
    clear hcv
    generalize hg : v3.heap.size + 1 = g at *
    obtain ⟨Kn, hKn⟩ : ∃ Kn : Nat, (A / 8 % (n : Int)).toNat = Kn := ⟨_, rfl⟩
    have hK0 : 0 ≤ A / 8 % (n : Int) := Int.emod_nonneg _ (by omega)
    have hK1 : A / 8 % (n : Int) < n := Int.emod_lt_of_pos _ (by omega)
    have hKlt : Kn < n := by omega
    have hq8 : A.tdiv 8 = A / 8 := Int.tdiv_eq_ediv_of_nonneg (by omega)
    have hq8w : IntKind.i64.wrap (A / 8) = A / 8 := by rw [IntKind.wrap_i64]; omega
    have hrem : (A / 8).tmod (n : Int) = A / 8 % (n : Int) := Int.tmod_eq_emod_of_nonneg (by omega)
    have hnz : ¬ n = 0 := by omega
    have hr8 : A.tmod 8 = A % 8 := Int.tmod_eq_emod_of_nonneg (by omega)
    obtain ⟨PW, hPW⟩ : ∃ PW : Int, (2 : Int) ^ (A.toNat % 8) = PW := ⟨_, rfl⟩
    have he8 : (A % 8).toNat = A.toNat % 8 := by omega
    have hPb : 1 ≤ PW ∧ PW ≤ 128 := by
      have hm8 : A.toNat % 8 = 0 ∨ A.toNat % 8 = 1 ∨ A.toNat % 8 = 2 ∨ A.toNat % 8 = 3 ∨ A.toNat % 8 = 4 ∨ A.toNat % 8 = 5 ∨ A.toNat % 8 = 6 ∨ A.toNat % 8 = 7 := by omega
      rcases hm8 with h | h | h | h | h | h | h | h <;> rw [h] at hPW <;> simp at hPW <;> omega
    have hsh : IntKind.u8.wrap (2 ^ (A % 8).toNat) = PW := by
      rw [he8, hPW]
      simp [IntKind.wrap, IntKind.bits, IntKind.signed]; omega
    have hon : ∀ {u : World}, Below V.heap.size V.drew u → Bts u g s.data.toList := fun {u} hb => hVt.on (hdrew hb)
    have hlt : Kn < s.data.toList.length := by rw [Oct.len_eq]; omega
    have hbts : ∀ {u : World}, Below V.heap.size V.drew u → u.cell? ⟨g, Kn, none⟩ = some (.int .u8 ((s.data.toList.getD Kn 0).toNat : Int)) := fun {u} hb => (hon hb Kn hlt).1
    have hbtf : ∀ {u : World}, Below V.heap.size V.drew u → u.frozen? ⟨g, Kn, none⟩ = false := fun {u} hb => (hon hb Kn hlt).2
    obtain ⟨X, hX⟩ : ∃ X : Int, bits .xor .u8 ((s.data.toList.getD Kn 0).toNat : Int) PW = X := ⟨_, rfl⟩
    have hXb := bounds_u8 (wf_bits .xor .u8 ((s.data.toList.getD Kn 0).toNat : Int) PW)
    rw [hX] at hXb
    obtain ⟨hX0, hX1⟩ := hXb
    have hbad : parseE (withB s Kn (UInt8.ofNat X.toNat)) = 7 := unhide HT Kn (A.toNat % 8) (by omega) (by omega) X (by rw [hPW]; exact hX) hX0 hX1
    generalize hbK : ((s.data.toList.getD Kn 0).toNat : Int) = bK at *
    refine wp_region_grow_store (by kernel_rfl) [.slice (some ⟨g, 0, none⟩) n c, .int .i64 A, .int .i64 (A / 8), .slice (some ⟨g, 0, none⟩) n c, .int .i64 n, .int .i64 (A / 8 % n), .slice (some ⟨g, 0, none⟩) n c, .int .i64 A, .int .i64 (A / 8), .slice (some ⟨g, 0, none⟩) n c, .int .i64 n, .int .i64 (A / 8 % n), .pointer (some ⟨g, Kn, none⟩), .int .u8 bK, .int .i64 A, .int .i64 (A % 8), .int .u8 PW, .int .u8 X, .pointer (some ⟨g, Kn, none⟩), undef] 19 (fun v => v.setCell ⟨g, Kn, none⟩ (.int .u8 X)) (by kernel_rfl) (by decide) rfl ?op ?store ?fin
    case op =>
      intro i o bx u ho hne hbel hS
      match i, ho with
      | 0, ho =>
        obtain rfl := Option.some.inj ho
        have d17 : bx.tmps.getD 17 undef = .slice (some ⟨g, 0, none⟩) n c := hS.base 17 (by kernel_rfl)
        refine .inl ⟨rfl, ends_value (c := .slice (some ⟨g, 0, none⟩) n c) ?_⟩
        simp [execOp, Act.eval, d17]
      | 1, ho =>
        obtain rfl := Option.some.inj ho
        have d4 : bx.tmps.getD 4 undef = .int .i64 A := hS.base 4 (by kernel_rfl)
        refine .inl ⟨rfl, ends_value (c := .int .i64 A) ?_⟩
        simp [execOp, Act.eval, d4]
      | 2, ho =>
        obtain rfl := Option.some.inj ho
        have d65 : bx.tmps.getD 65 undef = .int .i64 A := hS.dep 1 65 (by kernel_rfl) (by kernel_rfl)
        refine .inl ⟨rfl, ends_value (c := .int .i64 (A / 8)) ?_⟩
        simp [Act.eval, d65, go_sem, hq8, hq8w]
      | 3, ho =>
        obtain rfl := Option.some.inj ho
        have d17 : bx.tmps.getD 17 undef = .slice (some ⟨g, 0, none⟩) n c := hS.base 17 (by kernel_rfl)
        refine .inl ⟨rfl, ends_value (c := .slice (some ⟨g, 0, none⟩) n c) ?_⟩
        simp [execOp, Act.eval, d17]
      | 4, ho =>
        obtain rfl := Option.some.inj ho
        have d67 : bx.tmps.getD 67 undef = .slice (some ⟨g, 0, none⟩) n c := hS.dep 3 67 (by kernel_rfl) (by kernel_rfl)
        refine .inl ⟨rfl, ends_value (c := .int .i64 n) ?_⟩
        simp [Act.eval, d67, go_sem]
      | 5, ho =>
        obtain rfl := Option.some.inj ho
        have d66 : bx.tmps.getD 66 undef = .int .i64 (A / 8) := hS.dep 2 66 (by kernel_rfl) (by kernel_rfl)
        have d68 : bx.tmps.getD 68 undef = .int .i64 n := hS.dep 4 68 (by kernel_rfl) (by kernel_rfl)
        refine .inl ⟨rfl, ends_value (c := .int .i64 (A / 8 % n)) ?_⟩
        simp [Act.eval, d66, d68, go_sem, hrem, hnz]
      | 6, ho =>
        obtain rfl := Option.some.inj ho
        have d17 : bx.tmps.getD 17 undef = .slice (some ⟨g, 0, none⟩) n c := hS.base 17 (by kernel_rfl)
        refine .inl ⟨rfl, ends_value (c := .slice (some ⟨g, 0, none⟩) n c) ?_⟩
        simp [execOp, Act.eval, d17]
      | 7, ho =>
        obtain rfl := Option.some.inj ho
        have d4 : bx.tmps.getD 4 undef = .int .i64 A := hS.base 4 (by kernel_rfl)
        refine .inl ⟨rfl, ends_value (c := .int .i64 A) ?_⟩
        simp [execOp, Act.eval, d4]
      | 8, ho =>
        obtain rfl := Option.some.inj ho
        have d71 : bx.tmps.getD 71 undef = .int .i64 A := hS.dep 7 71 (by kernel_rfl) (by kernel_rfl)
        refine .inl ⟨rfl, ends_value (c := .int .i64 (A / 8)) ?_⟩
        simp [Act.eval, d71, go_sem, hq8, hq8w]
      | 9, ho =>
        obtain rfl := Option.some.inj ho
        have d17 : bx.tmps.getD 17 undef = .slice (some ⟨g, 0, none⟩) n c := hS.base 17 (by kernel_rfl)
        refine .inl ⟨rfl, ends_value (c := .slice (some ⟨g, 0, none⟩) n c) ?_⟩
        simp [execOp, Act.eval, d17]
      | 10, ho =>
        obtain rfl := Option.some.inj ho
        have d73 : bx.tmps.getD 73 undef = .slice (some ⟨g, 0, none⟩) n c := hS.dep 9 73 (by kernel_rfl) (by kernel_rfl)
        refine .inl ⟨rfl, ends_value (c := .int .i64 n) ?_⟩
        simp [Act.eval, d73, go_sem]
      | 11, ho =>
        obtain rfl := Option.some.inj ho
        have d72 : bx.tmps.getD 72 undef = .int .i64 (A / 8) := hS.dep 8 72 (by kernel_rfl) (by kernel_rfl)
        have d74 : bx.tmps.getD 74 undef = .int .i64 n := hS.dep 10 74 (by kernel_rfl) (by kernel_rfl)
        refine .inl ⟨rfl, ends_value (c := .int .i64 (A / 8 % n)) ?_⟩
        simp [Act.eval, d72, d74, go_sem, hrem, hnz]
      | 12, ho =>
        obtain rfl := Option.some.inj ho
        have d70 : bx.tmps.getD 70 undef = .slice (some ⟨g, 0, none⟩) n c := hS.dep 6 70 (by kernel_rfl) (by kernel_rfl)
        have d75 : bx.tmps.getD 75 undef = .int .i64 (A / 8 % n) := hS.dep 11 75 (by kernel_rfl) (by kernel_rfl)
        refine .inl ⟨rfl, ends_value (c := .pointer (some ⟨g, Kn, none⟩)) ?_⟩
        simp [Act.eval, d70, d75, go_sem, hK0, hK1, hKn]
      | 13, ho =>
        obtain rfl := Option.some.inj ho
        have d76 : bx.tmps.getD 76 undef = .pointer (some ⟨g, Kn, none⟩) := hS.dep 12 76 (by kernel_rfl) (by kernel_rfl)
        have hl := (hbts (hbel (by kernel_rfl)))
        refine .inl ⟨rfl, ends_value (c := .int .u8 bK) ?_⟩
        simp [Act.eval, d76, go_sem, hl]
      | 14, ho =>
        obtain rfl := Option.some.inj ho
        have d4 : bx.tmps.getD 4 undef = .int .i64 A := hS.base 4 (by kernel_rfl)
        refine .inl ⟨rfl, ends_value (c := .int .i64 A) ?_⟩
        simp [execOp, Act.eval, d4]
      | 15, ho =>
        obtain rfl := Option.some.inj ho
        have d78 : bx.tmps.getD 78 undef = .int .i64 A := hS.dep 14 78 (by kernel_rfl) (by kernel_rfl)
        refine .inl ⟨rfl, ends_value (c := .int .i64 (A % 8)) ?_⟩
        simp [Act.eval, d78, go_sem, hr8]
      | 16, ho =>
        obtain rfl := Option.some.inj ho
        have d79 : bx.tmps.getD 79 undef = .int .i64 (A % 8) := hS.dep 15 79 (by kernel_rfl) (by kernel_rfl)
        refine .inl ⟨rfl, ends_value (c := .int .u8 PW) ?_⟩
        simp [Act.eval, d79, go_sem, hsh]
      | 17, ho =>
        obtain rfl := Option.some.inj ho
        have d77 : bx.tmps.getD 77 undef = .int .u8 bK := hS.dep 13 77 (by kernel_rfl) (by kernel_rfl)
        have d80 : bx.tmps.getD 80 undef = .int .u8 PW := hS.dep 16 80 (by kernel_rfl) (by kernel_rfl)
        refine .inl ⟨rfl, ends_value (c := .int .u8 X) ?_⟩
        simp [Act.eval, d77, d80, go_sem, hX]
      | 18, ho =>
        obtain rfl := Option.some.inj ho
        have d64 : bx.tmps.getD 64 undef = .slice (some ⟨g, 0, none⟩) n c := hS.dep 0 64 (by kernel_rfl) (by kernel_rfl)
        have d69 : bx.tmps.getD 69 undef = .int .i64 (A / 8 % n) := hS.dep 5 69 (by kernel_rfl) (by kernel_rfl)
        refine .inl ⟨rfl, ends_value (c := .pointer (some ⟨g, Kn, none⟩)) ?_⟩
        simp [Act.eval, d64, d69, go_sem, hK0, hK1, hKn]
      | 19, _ => exact absurd rfl hne
      | n + 20, ho => exact absurd ho (by simp)
    case store =>
      intro o bx u ho hbel hS
      obtain rfl := Option.some.inj ho
      have d82 : bx.tmps.getD 82 undef = .pointer (some ⟨g, Kn, none⟩) := hS.dep 18 82 (by kernel_rfl) (by kernel_rfl)
      have d81 : bx.tmps.getD 81 undef = .int .u8 X := hS.dep 17 81 (by kernel_rfl) (by kernel_rfl)
      have hs1 := hbts hbel
      have hs2 := hbtf hbel
      refine ⟨rfl, ?_⟩
      simp [Act.eval, d82, d81, go_sem, hs1, hs2]
    case fin =>
      intro u hbel
      simp [putAll, dstAt, Act.put]
      have hB2 : Bts (u.setCell ⟨g, Kn, none⟩ (.int .u8 X)) g (s.data.toList.set Kn (UInt8.ofNat X.toNat)) := (hon hbel).set Kn (by rw [Oct.len_eq]; omega) X hX0 (by omega)
      have hbu : Below v1.heap.size v1 u := (unhide HBV).drew.trans (hbel.mono (by omega))
      have hbz : Below v1.heap.size v1 (u.setCell ⟨g, Kn, none⟩ (.int .u8 X)) := hbu.setCell (p := ⟨g, Kn, none⟩) (by show _ ≤ g; omega) _
      have hmz : HdAt (u.setCell ⟨g, Kn, none⟩ (.int .u8 X)) v1.heap.size ⟨a0, a1, a2, B⟩ := ((unhide HM).on (hdrew hbel) (by omega)).set (p := ⟨g, Kn, none⟩) (by show g ≠ _; omega) _
      have hxz : HdAt (u.setCell ⟨g, Kn, none⟩ (.int .u8 X)) v3.heap.size ⟨a0, a1, a2, B⟩ := ((unhide HXA).on (hdrew hbel) (by omega)).set (p := ⟨g, Kn, none⟩) (by show g ≠ _; omega) _
      have hzz : g < (u.setCell ⟨g, Kn, none⟩ (.int .u8 X)).heap.size := by
        have h1 := hbel.size
        have h2 : (u.setCell ⟨g, Kn, none⟩ (.int .u8 X)).heap.size = u.heap.size := by simp
        have h3 : V.drew.heap.size = V.heap.size := rfl
        omega
      generalize u.setCell ⟨g, Kn, none⟩ (.int .u8 X) = Z at *
      have hlen : (s.data.toList.set Kn (UInt8.ofNat X.toNat)).length = n := by rw [List.length_set, Oct.len_eq]; exact hn
      have htx := hB2.text c
      rw [hlen] at htx
      have hxe : (⟨(s.data.toList.set Kn (UInt8.ofNat X.toNat)).toArray⟩ : ByteArray) = withB s Kn (UInt8.ofNat X.toNat) := rfl
      rw [hxe] at htx
      have hxs : (withB s Kn (UInt8.ofNat X.toNat)).size ≤ 281474976710656 := by rw [withB_size]; omega
      have HP2 : Hid (∀ u, Calls Tryd.prog 16 #[.string (withB s Kn (UInt8.ofNat X.toNat))] u fun e u' => e = .returned (.tuple #[.agg #[.int .i64 0, .int .i64 0, .int .u32 0, .string ⟨#[]⟩], .int .i64 7]) ∧ Below u.heap.size u u') := fun u => by
        have := parse_any (withB s Kn (UInt8.ofNat X.toNat)) u hxs
        rw [parseH_no (by rw [hbad]; decide), hbad] at this
        exact this
      have HBZ := hide hbz
      have HMZ := hide hmz
      have HXZ := hide hxz
      clear hB2 hxe hbad hbu hbz hmz hxz hbel hxs hon hbts hbtf
      generalize withB s Kn (UInt8.ofNat X.toNat) = x at *
      go_wp2_with fail
      refine (unhide HP2 _).mono ?_
      rintro e v5 ⟨rfl, hb5⟩
      clear htx
      have hs5 := hb5.size
      have hb6 := hb5.trans ((alloc_on v5 (.cells #[.int .i64 0, .int .i64 0, .int .u32 0, .string ⟨#[]⟩] 24)).mono hs5)
      have hny := newHd v5 zeroHd 24
      simp only [zeroHd] at hny
      have hz6 : v5.heap.size < (v5.alloc (.cells #[.int .i64 0, .int .i64 0, .int .u32 0, .string ⟨#[]⟩] 24)).heap.size := by simp
      have hm6 := (unhide HMZ).on hb6 (by omega)
      have hx6 := (unhide HXZ).on hb6 (by omega)
      have hbe6 := (unhide HBZ).trans (hb6.mono (by omega))
      have m0 := hm6 0 (by decide)
      have m1 := hm6 1 (by decide)
      have m2 := hm6 2 (by decide)
      have m3 := hm6 3 (by decide)
      simp only [hcell] at m0 m1 m2 m3
      have HM6 := hide hm6
      have HX6 := hide hx6
      have HB6 := hide hbe6
      have HNY := hide hny
      have hg6 : v3.heap.size < (v5.alloc (.cells #[.int .i64 0, .int .i64 0, .int .u32 0, .string ⟨#[]⟩] 24)).heap.size := by omega
      have hh6 : v1.heap.size < (v5.alloc (.cells #[.int .i64 0, .int .i64 0, .int .u32 0, .string ⟨#[]⟩] 24)).heap.size := by omega
      clear hb5 hb6 hm6 hx6 hbe6 hny HBZ HMZ HXZ
      have HZ6 := hide (And.intro hz6 (And.intro hg6 hh6))
      clear hz6 hg6 hh6 hs5 hzz
      go_wp2_with fail
      refine (unhide HMC _ ((unhide HE).on (Below.then (unhide HB1) (unhide HB6)))).mono ?_
      rintro e v7 ⟨rfl, hb7⟩
      clear m0 m1 m2 m3
      obtain ⟨hz6, hg6, hh6⟩ := unhide HZ6
      have hm7 := (unhide HM6).on hb7 hh6
      have hx7 := (unhide HX6).on hb7 hg6
      have hy7 := ((unhide HNY).on hb7 hz6).at_
      have m0 := hm7 0 (by decide)
      have m1 := hm7 1 (by decide)
      have m2 := hm7 2 (by decide)
      have m3 := hm7 3 (by decide)
      have p0 := hx7 0 (by decide)
      have p1 := hx7 1 (by decide)
      have p2 := hx7 2 (by decide)
      have p3 := hx7 3 (by decide)
      have q0 := hy7 0 (by decide)
      have q1 := hy7 1 (by decide)
      have q2 := hy7 2 (by decide)
      have q3 := hy7 3 (by decide)
      simp only [hcell] at m0 m1 m2 m3 p0 p1 p2 p3 q0 q1 q2 q3
      have HB7 := hide (Below.then (unhide HB1) (Below.then (unhide HB6) hb7))
      clear hb7 hm7 hx7 hy7 hz6 hg6 hh6 HZ6
      cases h3 : a0 == 3 with
      | false =>
        have e1 : MB = false := by rw [HMB.out, h3]; rfl
        subst e1
        go_wp2_with fail
        go_ret
        exact ⟨rfl, unhide HB7⟩
      | true =>
        cases h4 : a1 == 4 with
        | false =>
          have e1 : MB = false := by rw [HMB.out, h3, h4]; rfl
          subst e1
          go_wp2_with fail
          go_ret
          exact ⟨rfl, unhide HB7⟩
        | true =>
          have e1 : MB = true := by rw [HMB.out, h3, h4]; rfl
          subst e1
          have e2 : MN = a2 % 65536 := by rw [HMN.out, if_pos rfl]
          subst e2
          go_wp2_with fail
          go_ret
          exact ⟨rfl, unhide HB7⟩
  case inr =>
    have hA' := hA.symm
    clear hA
    subst hA'
    go_wp2_with fail
    have hn := unhide HHN
    clear hcv
    generalize hg : v3.heap.size + 1 = g at *
    obtain ⟨Kn, hKn⟩ : ∃ Kn : Nat, (A / 8 % (n : Int)).toNat = Kn := ⟨_, rfl⟩
    have hK0 : 0 ≤ A / 8 % (n : Int) := Int.emod_nonneg _ (by omega)
    have hK1 : A / 8 % (n : Int) < n := Int.emod_lt_of_pos _ (by omega)
    have hKlt : Kn < n := by omega
    have hq8 : A.tdiv 8 = A / 8 := Int.tdiv_eq_ediv_of_nonneg (by omega)
    have hq8w : IntKind.i64.wrap (A / 8) = A / 8 := by rw [IntKind.wrap_i64]; omega
    have hrem : (A / 8).tmod (n : Int) = A / 8 % (n : Int) := Int.tmod_eq_emod_of_nonneg (by omega)
    have hnz : ¬ n = 0 := by omega
    have hr8 : A.tmod 8 = A % 8 := Int.tmod_eq_emod_of_nonneg (by omega)
    obtain ⟨PW, hPW⟩ : ∃ PW : Int, (2 : Int) ^ (A.toNat % 8) = PW := ⟨_, rfl⟩
    have he8 : (A % 8).toNat = A.toNat % 8 := by omega
    have hPb : 1 ≤ PW ∧ PW ≤ 128 := by
      have hm8 : A.toNat % 8 = 0 ∨ A.toNat % 8 = 1 ∨ A.toNat % 8 = 2 ∨ A.toNat % 8 = 3 ∨ A.toNat % 8 = 4 ∨ A.toNat % 8 = 5 ∨ A.toNat % 8 = 6 ∨ A.toNat % 8 = 7 := by omega
      rcases hm8 with h | h | h | h | h | h | h | h <;> rw [h] at hPW <;> simp at hPW <;> omega
    have hsh : IntKind.u8.wrap (2 ^ (A % 8).toNat) = PW := by
      rw [he8, hPW]
      simp [IntKind.wrap, IntKind.bits, IntKind.signed]; omega
    have hon : ∀ {u : World}, Below V.heap.size V.drew u → Bts u g s.data.toList := fun {u} hb => hVt.on (hdrew hb)
    have hlt : Kn < s.data.toList.length := by rw [Oct.len_eq]; omega
    have hbts : ∀ {u : World}, Below V.heap.size V.drew u → u.cell? ⟨g, Kn, none⟩ = some (.int .u8 ((s.data.toList.getD Kn 0).toNat : Int)) := fun {u} hb => (hon hb Kn hlt).1
    have hbtf : ∀ {u : World}, Below V.heap.size V.drew u → u.frozen? ⟨g, Kn, none⟩ = false := fun {u} hb => (hon hb Kn hlt).2
    obtain ⟨X, hX⟩ : ∃ X : Int, bits .xor .u8 ((s.data.toList.getD Kn 0).toNat : Int) PW = X := ⟨_, rfl⟩
    have hXb := bounds_u8 (wf_bits .xor .u8 ((s.data.toList.getD Kn 0).toNat : Int) PW)
    rw [hX] at hXb
    obtain ⟨hX0, hX1⟩ := hXb
    have hbad : parseE (withB s Kn (UInt8.ofNat X.toNat)) = 7 := unhide HT Kn (A.toNat % 8) (by omega) (by omega) X (by rw [hPW]; exact hX) hX0 hX1
    generalize hbK : ((s.data.toList.getD Kn 0).toNat : Int) = bK at *
    refine wp_region_grow_store (by kernel_rfl) [.slice (some ⟨g, 0, none⟩) n c, .int .i64 A, .int .i64 (A / 8), .slice (some ⟨g, 0, none⟩) n c, .int .i64 n, .int .i64 (A / 8 % n), .slice (some ⟨g, 0, none⟩) n c, .int .i64 A, .int .i64 (A / 8), .slice (some ⟨g, 0, none⟩) n c, .int .i64 n, .int .i64 (A / 8 % n), .pointer (some ⟨g, Kn, none⟩), .int .u8 bK, .int .i64 A, .int .i64 (A % 8), .int .u8 PW, .int .u8 X, .pointer (some ⟨g, Kn, none⟩), undef] 19 (fun v => v.setCell ⟨g, Kn, none⟩ (.int .u8 X)) (by kernel_rfl) (by decide) rfl ?op ?store ?fin
    case op =>
      intro i o bx u ho hne hbel hS
      match i, ho with
      | 0, ho =>
        obtain rfl := Option.some.inj ho
        have d17 : bx.tmps.getD 17 undef = .slice (some ⟨g, 0, none⟩) n c := hS.base 17 (by kernel_rfl)
        refine .inl ⟨rfl, ends_value (c := .slice (some ⟨g, 0, none⟩) n c) ?_⟩
        simp [execOp, Act.eval, d17]
      | 1, ho =>
        obtain rfl := Option.some.inj ho
        have d4 : bx.tmps.getD 4 undef = .int .i64 A := hS.base 4 (by kernel_rfl)
        refine .inl ⟨rfl, ends_value (c := .int .i64 A) ?_⟩
        simp [execOp, Act.eval, d4]
      | 2, ho =>
        obtain rfl := Option.some.inj ho
        have d65 : bx.tmps.getD 65 undef = .int .i64 A := hS.dep 1 65 (by kernel_rfl) (by kernel_rfl)
        refine .inl ⟨rfl, ends_value (c := .int .i64 (A / 8)) ?_⟩
        simp [Act.eval, d65, go_sem, hq8, hq8w]
      | 3, ho =>
        obtain rfl := Option.some.inj ho
        have d17 : bx.tmps.getD 17 undef = .slice (some ⟨g, 0, none⟩) n c := hS.base 17 (by kernel_rfl)
        refine .inl ⟨rfl, ends_value (c := .slice (some ⟨g, 0, none⟩) n c) ?_⟩
        simp [execOp, Act.eval, d17]
      | 4, ho =>
        obtain rfl := Option.some.inj ho
        have d67 : bx.tmps.getD 67 undef = .slice (some ⟨g, 0, none⟩) n c := hS.dep 3 67 (by kernel_rfl) (by kernel_rfl)
        refine .inl ⟨rfl, ends_value (c := .int .i64 n) ?_⟩
        simp [Act.eval, d67, go_sem]
      | 5, ho =>
        obtain rfl := Option.some.inj ho
        have d66 : bx.tmps.getD 66 undef = .int .i64 (A / 8) := hS.dep 2 66 (by kernel_rfl) (by kernel_rfl)
        have d68 : bx.tmps.getD 68 undef = .int .i64 n := hS.dep 4 68 (by kernel_rfl) (by kernel_rfl)
        refine .inl ⟨rfl, ends_value (c := .int .i64 (A / 8 % n)) ?_⟩
        simp [Act.eval, d66, d68, go_sem, hrem, hnz]
      | 6, ho =>
        obtain rfl := Option.some.inj ho
        have d17 : bx.tmps.getD 17 undef = .slice (some ⟨g, 0, none⟩) n c := hS.base 17 (by kernel_rfl)
        refine .inl ⟨rfl, ends_value (c := .slice (some ⟨g, 0, none⟩) n c) ?_⟩
        simp [execOp, Act.eval, d17]
      | 7, ho =>
        obtain rfl := Option.some.inj ho
        have d4 : bx.tmps.getD 4 undef = .int .i64 A := hS.base 4 (by kernel_rfl)
        refine .inl ⟨rfl, ends_value (c := .int .i64 A) ?_⟩
        simp [execOp, Act.eval, d4]
      | 8, ho =>
        obtain rfl := Option.some.inj ho
        have d71 : bx.tmps.getD 71 undef = .int .i64 A := hS.dep 7 71 (by kernel_rfl) (by kernel_rfl)
        refine .inl ⟨rfl, ends_value (c := .int .i64 (A / 8)) ?_⟩
        simp [Act.eval, d71, go_sem, hq8, hq8w]
      | 9, ho =>
        obtain rfl := Option.some.inj ho
        have d17 : bx.tmps.getD 17 undef = .slice (some ⟨g, 0, none⟩) n c := hS.base 17 (by kernel_rfl)
        refine .inl ⟨rfl, ends_value (c := .slice (some ⟨g, 0, none⟩) n c) ?_⟩
        simp [execOp, Act.eval, d17]
      | 10, ho =>
        obtain rfl := Option.some.inj ho
        have d73 : bx.tmps.getD 73 undef = .slice (some ⟨g, 0, none⟩) n c := hS.dep 9 73 (by kernel_rfl) (by kernel_rfl)
        refine .inl ⟨rfl, ends_value (c := .int .i64 n) ?_⟩
        simp [Act.eval, d73, go_sem]
      | 11, ho =>
        obtain rfl := Option.some.inj ho
        have d72 : bx.tmps.getD 72 undef = .int .i64 (A / 8) := hS.dep 8 72 (by kernel_rfl) (by kernel_rfl)
        have d74 : bx.tmps.getD 74 undef = .int .i64 n := hS.dep 10 74 (by kernel_rfl) (by kernel_rfl)
        refine .inl ⟨rfl, ends_value (c := .int .i64 (A / 8 % n)) ?_⟩
        simp [Act.eval, d72, d74, go_sem, hrem, hnz]
      | 12, ho =>
        obtain rfl := Option.some.inj ho
        have d70 : bx.tmps.getD 70 undef = .slice (some ⟨g, 0, none⟩) n c := hS.dep 6 70 (by kernel_rfl) (by kernel_rfl)
        have d75 : bx.tmps.getD 75 undef = .int .i64 (A / 8 % n) := hS.dep 11 75 (by kernel_rfl) (by kernel_rfl)
        refine .inl ⟨rfl, ends_value (c := .pointer (some ⟨g, Kn, none⟩)) ?_⟩
        simp [Act.eval, d70, d75, go_sem, hK0, hK1, hKn]
      | 13, ho =>
        obtain rfl := Option.some.inj ho
        have d76 : bx.tmps.getD 76 undef = .pointer (some ⟨g, Kn, none⟩) := hS.dep 12 76 (by kernel_rfl) (by kernel_rfl)
        have hl := (hbts (hbel (by kernel_rfl)))
        refine .inl ⟨rfl, ends_value (c := .int .u8 bK) ?_⟩
        simp [Act.eval, d76, go_sem, hl]
      | 14, ho =>
        obtain rfl := Option.some.inj ho
        have d4 : bx.tmps.getD 4 undef = .int .i64 A := hS.base 4 (by kernel_rfl)
        refine .inl ⟨rfl, ends_value (c := .int .i64 A) ?_⟩
        simp [execOp, Act.eval, d4]
      | 15, ho =>
        obtain rfl := Option.some.inj ho
        have d78 : bx.tmps.getD 78 undef = .int .i64 A := hS.dep 14 78 (by kernel_rfl) (by kernel_rfl)
        refine .inl ⟨rfl, ends_value (c := .int .i64 (A % 8)) ?_⟩
        simp [Act.eval, d78, go_sem, hr8]
      | 16, ho =>
        obtain rfl := Option.some.inj ho
        have d79 : bx.tmps.getD 79 undef = .int .i64 (A % 8) := hS.dep 15 79 (by kernel_rfl) (by kernel_rfl)
        refine .inl ⟨rfl, ends_value (c := .int .u8 PW) ?_⟩
        simp [Act.eval, d79, go_sem, hsh]
      | 17, ho =>
        obtain rfl := Option.some.inj ho
        have d77 : bx.tmps.getD 77 undef = .int .u8 bK := hS.dep 13 77 (by kernel_rfl) (by kernel_rfl)
        have d80 : bx.tmps.getD 80 undef = .int .u8 PW := hS.dep 16 80 (by kernel_rfl) (by kernel_rfl)
        refine .inl ⟨rfl, ends_value (c := .int .u8 X) ?_⟩
        simp [Act.eval, d77, d80, go_sem, hX]
      | 18, ho =>
        obtain rfl := Option.some.inj ho
        have d64 : bx.tmps.getD 64 undef = .slice (some ⟨g, 0, none⟩) n c := hS.dep 0 64 (by kernel_rfl) (by kernel_rfl)
        have d69 : bx.tmps.getD 69 undef = .int .i64 (A / 8 % n) := hS.dep 5 69 (by kernel_rfl) (by kernel_rfl)
        refine .inl ⟨rfl, ends_value (c := .pointer (some ⟨g, Kn, none⟩)) ?_⟩
        simp [Act.eval, d64, d69, go_sem, hK0, hK1, hKn]
      | 19, _ => exact absurd rfl hne
      | n + 20, ho => exact absurd ho (by simp)
    case store =>
      intro o bx u ho hbel hS
      obtain rfl := Option.some.inj ho
      have d82 : bx.tmps.getD 82 undef = .pointer (some ⟨g, Kn, none⟩) := hS.dep 18 82 (by kernel_rfl) (by kernel_rfl)
      have d81 : bx.tmps.getD 81 undef = .int .u8 X := hS.dep 17 81 (by kernel_rfl) (by kernel_rfl)
      have hs1 := hbts hbel
      have hs2 := hbtf hbel
      refine ⟨rfl, ?_⟩
      simp [Act.eval, d82, d81, go_sem, hs1, hs2]
    case fin =>
      intro u hbel
      simp [putAll, dstAt, Act.put]
      have hB2 : Bts (u.setCell ⟨g, Kn, none⟩ (.int .u8 X)) g (s.data.toList.set Kn (UInt8.ofNat X.toNat)) := (hon hbel).set Kn (by rw [Oct.len_eq]; omega) X hX0 (by omega)
      have hbu : Below v1.heap.size v1 u := (unhide HBV).drew.trans (hbel.mono (by omega))
      have hbz : Below v1.heap.size v1 (u.setCell ⟨g, Kn, none⟩ (.int .u8 X)) := hbu.setCell (p := ⟨g, Kn, none⟩) (by show _ ≤ g; omega) _
      have hmz : HdAt (u.setCell ⟨g, Kn, none⟩ (.int .u8 X)) v1.heap.size ⟨a0, a1, a2, B⟩ := ((unhide HM).on (hdrew hbel) (by omega)).set (p := ⟨g, Kn, none⟩) (by show g ≠ _; omega) _
      have hxz : HdAt (u.setCell ⟨g, Kn, none⟩ (.int .u8 X)) v3.heap.size ⟨a0, a1, a2, B⟩ := ((unhide HXA).on (hdrew hbel) (by omega)).set (p := ⟨g, Kn, none⟩) (by show g ≠ _; omega) _
      have hzz : g < (u.setCell ⟨g, Kn, none⟩ (.int .u8 X)).heap.size := by
        have h1 := hbel.size
        have h2 : (u.setCell ⟨g, Kn, none⟩ (.int .u8 X)).heap.size = u.heap.size := by simp
        have h3 : V.drew.heap.size = V.heap.size := rfl
        omega
      generalize u.setCell ⟨g, Kn, none⟩ (.int .u8 X) = Z at *
      have hlen : (s.data.toList.set Kn (UInt8.ofNat X.toNat)).length = n := by rw [List.length_set, Oct.len_eq]; exact hn
      have htx := hB2.text c
      rw [hlen] at htx
      have hxe : (⟨(s.data.toList.set Kn (UInt8.ofNat X.toNat)).toArray⟩ : ByteArray) = withB s Kn (UInt8.ofNat X.toNat) := rfl
      rw [hxe] at htx
      have hxs : (withB s Kn (UInt8.ofNat X.toNat)).size ≤ 281474976710656 := by rw [withB_size]; omega
      have HP2 : Hid (∀ u, Calls Tryd.prog 16 #[.string (withB s Kn (UInt8.ofNat X.toNat))] u fun e u' => e = .returned (.tuple #[.agg #[.int .i64 0, .int .i64 0, .int .u32 0, .string ⟨#[]⟩], .int .i64 7]) ∧ Below u.heap.size u u') := fun u => by
        have := parse_any (withB s Kn (UInt8.ofNat X.toNat)) u hxs
        rw [parseH_no (by rw [hbad]; decide), hbad] at this
        exact this
      have HBZ := hide hbz
      have HMZ := hide hmz
      have HXZ := hide hxz
      clear hB2 hxe hbad hbu hbz hmz hxz hbel hxs hon hbts hbtf
      generalize withB s Kn (UInt8.ofNat X.toNat) = x at *
      go_wp2_with fail
      refine (unhide HP2 _).mono ?_
      rintro e v5 ⟨rfl, hb5⟩
      clear htx
      have hs5 := hb5.size
      have hb6 := hb5.trans ((alloc_on v5 (.cells #[.int .i64 0, .int .i64 0, .int .u32 0, .string ⟨#[]⟩] 24)).mono hs5)
      have hny := newHd v5 zeroHd 24
      simp only [zeroHd] at hny
      have hz6 : v5.heap.size < (v5.alloc (.cells #[.int .i64 0, .int .i64 0, .int .u32 0, .string ⟨#[]⟩] 24)).heap.size := by simp
      have hm6 := (unhide HMZ).on hb6 (by omega)
      have hx6 := (unhide HXZ).on hb6 (by omega)
      have hbe6 := (unhide HBZ).trans (hb6.mono (by omega))
      have m0 := hm6 0 (by decide)
      have m1 := hm6 1 (by decide)
      have m2 := hm6 2 (by decide)
      have m3 := hm6 3 (by decide)
      simp only [hcell] at m0 m1 m2 m3
      have HM6 := hide hm6
      have HX6 := hide hx6
      have HB6 := hide hbe6
      have HNY := hide hny
      have hg6 : v3.heap.size < (v5.alloc (.cells #[.int .i64 0, .int .i64 0, .int .u32 0, .string ⟨#[]⟩] 24)).heap.size := by omega
      have hh6 : v1.heap.size < (v5.alloc (.cells #[.int .i64 0, .int .i64 0, .int .u32 0, .string ⟨#[]⟩] 24)).heap.size := by omega
      clear hb5 hb6 hm6 hx6 hbe6 hny HBZ HMZ HXZ
      have HZ6 := hide (And.intro hz6 (And.intro hg6 hh6))
      clear hz6 hg6 hh6 hs5 hzz
      go_wp2_with fail
      refine (unhide HMC _ ((unhide HE).on (Below.then (unhide HB1) (unhide HB6)))).mono ?_
      rintro e v7 ⟨rfl, hb7⟩
      clear m0 m1 m2 m3
      obtain ⟨hz6, hg6, hh6⟩ := unhide HZ6
      have hm7 := (unhide HM6).on hb7 hh6
      have hx7 := (unhide HX6).on hb7 hg6
      have hy7 := ((unhide HNY).on hb7 hz6).at_
      have m0 := hm7 0 (by decide)
      have m1 := hm7 1 (by decide)
      have m2 := hm7 2 (by decide)
      have m3 := hm7 3 (by decide)
      have p0 := hx7 0 (by decide)
      have p1 := hx7 1 (by decide)
      have p2 := hx7 2 (by decide)
      have p3 := hx7 3 (by decide)
      have q0 := hy7 0 (by decide)
      have q1 := hy7 1 (by decide)
      have q2 := hy7 2 (by decide)
      have q3 := hy7 3 (by decide)
      simp only [hcell] at m0 m1 m2 m3 p0 p1 p2 p3 q0 q1 q2 q3
      have HB7 := hide (Below.then (unhide HB1) (Below.then (unhide HB6) hb7))
      clear hb7 hm7 hx7 hy7 hz6 hg6 hh6 HZ6
      cases h3 : a0 == 3 with
      | false =>
        have e1 : MB = false := by rw [HMB.out, h3]; rfl
        subst e1
        go_wp2_with fail
        go_ret
        exact ⟨rfl, unhide HB7⟩
      | true =>
        cases h4 : a1 == 4 with
        | false =>
          have e1 : MB = false := by rw [HMB.out, h3, h4]; rfl
          subst e1
          go_wp2_with fail
          go_ret
          exact ⟨rfl, unhide HB7⟩
        | true =>
          have e1 : MB = true := by rw [HMB.out, h3, h4]; rfl
          subst e1
          have e2 : MN = a2 % 65536 := by rw [HMN.out, if_pos rfl]
          subst e2
          go_wp2_with fail
          go_ret
          exact ⟨rfl, unhide HB7⟩

theorem reads (os : Os) {H : Type} (enc : TypeId × Value → H) : DataW.whole enc Tryd.prog ((World.laidAll Tryd.prog os Rows.icmpBuildsRow.laid).forCall (fun _ _ => 0) ⟨#[], #[.int .u8 0, .int .u8 0, .int .u32 0, .string ByteArray.empty, .int .i64 0], []⟩).memory Tryd.f5.params.toList Rows.icmpBackSpec.vars false (#[.int .u8 0, .int .u8 0, .int .u32 0, .string ByteArray.empty, .int .i64 0] : Array Value).toList 8 = some ([.lit (.int .u8 0), .lit (.int .u8 0), .lit (.int .u32 0), .lit (.string []), .lit (.int .i64 0)], [], []) := by kernel_rfl
set_option maxRecDepth 100000 in
theorem lifted (os : Os) (started : os.Started) (H : Type) (enc : TypeId × Value → H) (F : Stop.Interp) :
    ReturnsInHanded {} Tryd.checked os 5 .any ((OpenSpec.ofChange Rows.icmpBackSpec).preRow enc Tryd.prog Tryd.f5 Rows.icmpBackRow.domain false Rows.icmpBackRow.laid) (((OpenSpec.ofChange Rows.icmpBackSpec).at F).post enc Tryd.prog Tryd.f5 false true false false) := by
  refine returnsInHanded_of_row (C := Tryd.checked) (s := (OpenSpec.ofChange Rows.icmpBackSpec)) own started (by kernel_rfl) Tryd.func5
    (witness_row_at (enc := enc) (C := Tryd.checked) false (World.laidAll Tryd.prog os Rows.icmpBuildsRow.laid) #[.int .u8 0, .int .u8 0, .int .u32 0, .string ByteArray.empty, .int .i64 0] (World.laidAll_os _ _ _) (by kernel_rfl) (by kernel_rfl) (by kernel_rfl)
      (OpenSpec.preRow_of_cond 8 (reads os enc) (by kernel_rfl) (fun k hk => by cases hk) (by kernel_rfl) (laid_met os _))) ?_
  intro W base args ds gs before hval0 hW _ hcond hsz hL _ _
  have hval : ∀ (j : Nat) t v, Tryd.f5.params[j]? = some t → args[j]? = some v → Value.okWide Tryd.prog W .any base t v := hval0
  have hW' := hW
  obtain ⟨p, q, hA0, hV, rfl, hfz, hnd⟩ := hW
  have hA : DataW.TrodAll enc Tryd.prog W 0 (fun _ => true) true Tryd.f5.params.toList args.toList ds p := hA0
  rw [Tryd.params5] at hA hval
  obtain ⟨v0, vs0, d0, ds0, p0, q0, hargs, rfl, rfl, h0, r0⟩ := trodAll_cons hA
  obtain ⟨v1, vs1, d1, ds1, p1, q1, rfl, rfl, rfl, h1, r1⟩ := trodAll_cons r0
  obtain ⟨v2, vs2, d2, ds2, p2, q2, rfl, rfl, rfl, h2, r2⟩ := trodAll_cons r1
  obtain ⟨v3, vs3, d3, ds3, p3, q3, rfl, rfl, rfl, h3, r3⟩ := trodAll_cons r2
  obtain ⟨v4, vs4, d4, ds4, p4, q4, rfl, rfl, rfl, h4, r4⟩ := trodAll_cons r3
  obtain ⟨rfl, rfl, rfl⟩ := trodAll_nil r4
  obtain rfl : args = #[v0, v1, v2, v3, v4] := by cases args; simp_all
  obtain ⟨rfl, rfl⟩ := trodVars_none hV
  obtain ⟨a0, rfl, rfl, rfl, w0⟩ := open_int Tryd.underlying5 (hval 0 5 v0 rfl rfl) h0
  obtain ⟨a1, rfl, rfl, rfl, w1⟩ := open_int Tryd.underlying5 (hval 1 5 v1 rfl rfl) h1
  obtain ⟨a2, rfl, rfl, rfl, w2⟩ := open_int Tryd.underlying22 (hval 2 22 v2 rfl rfl) h2
  obtain ⟨a3, rfl, rfl, rfl, w3⟩ := open_string Tryd.underlying9 (hval 3 9 v3 rfl rfl) h3
  obtain ⟨a4, rfl, rfl, rfl, w4⟩ := open_int Tryd.underlying3 (hval 4 3 v4 rfl rfl) h4
  clear hA0 hval0
  simp only [List.append_nil] at hW'
  have z3 : a3.size ≤ 140737488355328 := by
    have hq : a3.data.toList.length ≤ reachBytes := sized_string hsz (j := 3) (t := 9) rfl rfl
    have e : a3.data.toList.length = a3.size := by rw [Array.length_toList]; rfl
    rw [e] at hq
    exact Nat.le_trans hq (by decide)
  refine (walk W (env_of hL) a0 w0 a1 w1 a2 w2 a3 z3 a4 w4).mono fun e W' ⟨he, bel⟩ => ?_
  subst he
  exact ⟨_, rfl, _, _, _, [], _, [], hW', (trodAll_cons_mk (shut_bool Tryd.underlying4 _) trodAll_mk0), (trodAll_cons_mk (shut_int Tryd.underlying5 w0) (trodAll_cons_mk (shut_int Tryd.underlying5 w1) (trodAll_cons_mk (shut_int Tryd.underlying22 w2) (trodAll_cons_mk (shut_string Tryd.underlying9 w3) (trodAll_cons_mk (shut_int Tryd.underlying3 w4) trodAll_mk0))))), rfl, bel.frame _, fun h => by cases h⟩

theorem over : Rows.icmpBackRow.holds Tryd.pinned (OpenSpec.ofChange Rows.icmpBackSpec) :=
  OpenClaim.holds_of_cond 5 Tryd.f5 rfl rfl rfl rfl rfl rfl rfl ⟨rfl, rfl, rfl, rfl, rfl⟩ rfl rfl rfl rfl rfl (by kernel_rfl) Tryd.func5 (by kernel_rfl)
    (of_decide_eq_true (by kernel_rfl)) (by unfold Func.isWrapper; first | (rw [if_pos (by decide +kernel)]; kernel_rfl) | (rw [if_neg (by decide +kernel)]; exact ⟨rfl, rfl⟩))
    (fun os started H enc _ F => by rw [OpenClaim.pre_eq_preRow]; exact lifted os started H enc F)

/-- No parameter wants a stand-in; the program's own looks are off. -/
theorem plain (f : FuncId) (fn : Func) (hf : Tryd.pinned.checked.prog.funcNamed Rows.icmpBackRow.func = some f) (hfn : Tryd.pinned.checked.prog.funcs[f]? = some fn) :
    false = Tryd.pinned.checked.prog.looks [] ∧ ∀ (j : Nat) t, fn.params[j]? = some t → Tryd.pinned.checked.prog.wantsStandIn t = false := by
  obtain rfl : f = 5 := Option.some.inj ((show Tryd.prog.funcNamed Rows.icmpBackRow.func = some 5 by kernel_rfl).symm.trans hf) |>.symm
  obtain rfl : fn = Tryd.f5 := (Option.some.inj (Tryd.func5.symm.trans hfn)).symm
  refine ⟨by kernel_rfl, fun j t ht => ?_⟩
  rw [Tryd.params5] at ht
  have hm : t ∈ [5, 5, 22, 9, 3] := by simpa using Array.mem_of_getElem? ht
  have hall : ([5, 5, 22, 9, 3].all fun u => !Tryd.prog.wantsStandIn u) = true := by kernel_rfl
  exact (show Tryd.prog.wantsStandIn t = false by simpa using List.all_eq_true.1 hall t hm)

theorem proved : Rows.IcmpBackCardSaid :=
  Claim7.holds_tied_plain_at .later [] _ _ _ _ over (fun _ h => by cases h) (by kernel_rfl) (fun _ h => by cases h) icmpBack_row_tie rfl ⟨rfl, rfl⟩ (by kernel_rfl) rfl plain (by kernel_rfl)
#print axioms proved
end Go.Proofs.YteggaeleehlhmaaDoor.icmpBack
