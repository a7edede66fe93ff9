/- The law Ip4Order returns true for every body and every number of bytes that are cut off. -/
import Derived.Test.YtfppjpcolohmfaaRows
import Derived.OpenShut
import Derived.ShutString
import Derived.ChangeOld
import Derived.Below
import Derived.SizedLaws
import Derived.Test.YtfppjpcolohmfaaIpOpen
import Derived.Test.YtfppjpcolohmfaaIpOrdM
import Derived.Test.YtfppjpcolohmfaaIpEx
import Derived.Test.YtfppjpcolohmfaaIpMade
import Derived.Test.YtfppjpcolohmfaaIpRefP
import Derived.Test.YtfppjpcolohmfaaCkAny
namespace Go.Proofs.Ytfppjpcolohmfaa.ip4Order
open Go.ChangeShapes Go.WideShapes Go.ChangeAt Go.RowKit
open Go.ChangeMaps (open_string shut_string)
set_option linter.unusedVariables false
theorem made_exact {w0 : Nat} {X : Int} {vs : List Value} {i5 i16 i17 i : Nat} {v c : Value} {u : World} (h1 : i ≠ i5) (h2 : i ≠ i16) (h3 : i ≠ i17) (h : madeF w0 X vs i5 i16 i17 i v u) (hc : vs.getD i undef = c) : v = c := by
  unfold madeF at h
  rw [if_neg h1, if_neg h2, if_neg h3] at h
  exact h.trans hc
theorem conv_cell (u : World) (g : Nat) (X : Int) (hc : u.cell? ⟨g, 0, none⟩ = some (.int .u8 X)) : (convert 37 9 (.slice (some ⟨g, 0, none⟩) 1 1)).run Try.prog u = .ok (.string (strOfNums [X])) u := by
  refine run_convert_bytes_arg _ 37 5 Try.underlying37 Try.underlying5 _ 0 1 1 [X] (by simp) ?_ 9 Try.underlying9
  intro i hi
  obtain rfl : i = 0 := by omega
  exact hc
set_option maxHeartbeats 1000000 in
set_option maxRecDepth 100000 in
theorem walk (w : World) (a0 : ByteArray) (z0 : a0.size ≤ 140737488351232) (a1 : Int) (w1 : (Lit.int .u8 a1).wf = true) :
    Calls Try.prog 9 #[.string a0, .int .u8 a1] w fun e w' => e = .returned (.bool true) ∧ Below w.heap.size w w' := by
  obtain ⟨y0, y1⟩ := bounds_u8 w1
  obtain ⟨bd, hbd⟩ : ∃ bd : ByteArray, a0.extract 0 (min (a0.size : Int) 200).toNat = bd := ⟨_, rfl⟩
  have hbs : bd.size ≤ 200 := by rw [← hbd, Oct.ext_size _ _ _ (by omega)]; omega
  have i0 : 0 ≤ min (a0.size : Int) 200 := by omega
  have i1 : min (a0.size : Int) 200 ≤ a0.size := by omega
  have hE := buildE_of (ordB hbs)
  have hS := buildS_of (ordB hbs)
  go_enter Try.func9, Try.ntmps9
  go_wp2_with fail
  refine (examples_ok _).mono ?_
  rintro e w1' ⟨rfl, hb1⟩
  have HB := hide hb1
  clear hb1
  go_wp2_with fail
  refine (build_any ordH bd _ ordW (by omega)).mono ?_
  rintro e w2' ⟨rfl, hb2⟩
  rw [hE, hS]
  have hb3 := (unhide HB).trans (hb2.mono (unhide HB).size)
  clear HB hb2 hE hS
  have HB := hide hb3
  clear hb3
  have hsz := ord_size bd
  have hcut := ord_cut hbs
  have hver := ord_version hbs
  have hhdr := ord_header hbs
  have hsum := ord_sum hbs
  generalize built ordH bd = s at *
  have hs20 : decide ((s.size : Int) < 20) = false := by simp; omega
  have hl0 : 0 < s.size := by omega
  have hA := with0 s 101 hl0
  have hB := with0 s 68 hl0
  obtain ⟨K, hK⟩ : ∃ K : Int, a1 % ((s.size : Int) + 1) = K := ⟨_, rfl⟩
  have K0 : 0 ≤ K := by rw [← hK]; exact Int.emod_nonneg _ (by omega)
  have K1 : K ≤ s.size := by have := Int.emod_lt_of_pos a1 (show (0 : Int) < (s.size : Int) + 1 by omega); omega
  obtain ⟨x1, hx1⟩ : ∃ x1 : ByteArray, s.extract 0 ((s.size : Int) - K).toNat = x1 := ⟨_, rfl⟩
  have hE1 : parseE x1 = if (s.size : Int) - K < 20 then 2 else if 0 < K then 5 else 0 := by
    have := hcut K.toNat (by omega)
    rw [show 20 + bd.size - K.toNat = ((s.size : Int) - K).toNat by omega, hx1] at this
    rw [this]
    by_cases h : (s.size : Int) - K < 20
    · rw [if_pos h, if_pos (by omega)]
    · rw [if_neg h, if_neg (by omega)]
      by_cases h2 : 0 < K
      · rw [if_pos h2, if_pos (by omega)]
      · rw [if_neg h2, if_neg (by omega)]
  have hx1s : x1.size ≤ 281474976710656 := by rw [← hx1, Oct.ext_size _ _ _ (by omega)]; omega
  have j0 : 0 ≤ (s.size : Int) - K := by omega
  have j1 : (s.size : Int) - K ≤ s.size := by omega
  have q1 : (1 : Int) ≤ s.size := by omega
  have hP1 := fun u => parse_any x1 u hx1s
  have hPA := fun u => parse_any (withB s 0 101) u (by rw [withB_size]; omega)
  have hPB := fun u => parse_any (withB s 0 68) u (by rw [withB_size]; omega)
  rw [hver] at hPA
  rw [hhdr] at hPB
  have tA := fun (wx : World) => run_string_add_sum (P := Try.prog) (w := wx) ⟨#[101]⟩ (s.extract 1 s.size) (by rw [Oct.ext_size _ _ _ (Nat.le_refl _)]; have : (⟨#[101]⟩ : ByteArray).size = 1 := rfl; omega)
  have tB := fun (wx : World) => run_string_add_sum (P := Try.prog) (w := wx) ⟨#[68]⟩ (s.extract 1 s.size) (by rw [Oct.ext_size _ _ _ (Nat.le_refl _)]; have : (⟨#[68]⟩ : ByteArray).size = 1 := rfl; omega)
  rw [hA] at tA
  rw [hB] at tB
  obtain ⟨X, hX⟩ : ∃ X : Int, bits .xor .u8 (byt s 10) 1 = X := ⟨_, rfl⟩
  have hXb := bounds_u8 (wf_bits .xor .u8 (byt s 10) 1)
  rw [hX] at hXb
  obtain ⟨hX0, hX1⟩ := hXb
  have hE3 := hsum X hX hX0 hX1
  have h10l : 10 < s.size := by omega
  rw [byt_eq s 10 h10l] at hX
  have hw10 := with10 s (UInt8.ofNat X.toNat) (by omega)
  have hP3 := fun u => parse_any (withB s 10 (UInt8.ofNat X.toNat)) u (by rw [withB_size]; omega)
  rw [hE3] at hP3
  obtain ⟨S10, hS10⟩ : ∃ S10, s.extract 0 10 = S10 := ⟨_, rfl⟩
  obtain ⟨S11, hS11⟩ : ∃ S11, s.extract 11 s.size = S11 := ⟨_, rfl⟩
  obtain ⟨S1, hS1⟩ : ∃ S1, strOfNums [X] = S1 := ⟨_, rfl⟩
  have hS1' : (⟨#[UInt8.ofNat X.toNat]⟩ : ByteArray) = S1 := hS1
  rw [hS10, hS11, hS1'] at hw10
  have h10z : S10.size = 10 := by rw [← hS10, Oct.ext_size _ _ _ (by omega)]
  have h11z : S11.size ≤ 300 := by rw [← hS11, Oct.ext_size _ _ _ (Nat.le_refl _)]; omega
  have h1z : S1.size = 1 := by rw [← hS1]; rfl
  have hSA := fun (wx : World) => run_string_add_sum (P := Try.prog) (w := wx) S10 S1 (by omega)
  have hx3 := fun (wx : World) => run_string_add_sum (P := Try.prog) (w := wx) (S10 ++ S1) S11 (by rw [ByteArray.size_append]; omega)
  rw [hw10] at hx3
  generalize hxx : withB s 10 (UInt8.ofNat X.toNat) = x3 at *
  generalize S10 ++ S1 = SA at *
  generalize withB s 0 101 = xA at *
  generalize withB s 0 68 = xB at *
  have h10s : (10 : Int) ≤ s.size := by omega
  have h10i : (10 : Int) < s.size := by omega
  have h11s : (11 : Int) ≤ s.size := by omega
  have s20 : (20 : Int) ≤ s.size := by omega
  have s220 : (s.size : Int) ≤ 220 := by omega
  clear hcut hver hhdr hsum hw10 hA hB hE3 hS1' h10z h11z h1z hbd i0 i1 hx1s hxx hsz
  generalize hb10 : (s[10].toNat : Int) = b10 at *
  generalize parseH x3 = Y at *
  generalize parseS x3 = YS at *
  generalize hY1 : parseH x1 = Y1 at *
  generalize parseS x1 = YS1 at *
  generalize parseH xA = YA at *
  generalize parseS xA = YSA at *
  generalize parseH xB = YB at *
  generalize parseS xB = YSB at *
  by_cases hc1 : (s.size : Int) - K < 20
  · rw [if_pos hc1] at hE1
    rw [hE1] at hP1
    have dk : decide (0 < K) = true := by simp; omega
    have ds : decide ((s.size : Int) - K < 20) = true := by simpa using hc1
    go_wp2_with fail
    refine (hP1 _).mono ?_
    rintro e w2 ⟨rfl, hb⟩
    have hbq := (unhide HB).trans (hb.mono (unhide HB).size)
    have hbr := hbq.alloc hbq.size (.cells #[.int .i64 Y1.tos, .int .i64 Y1.id, .int .i64 Y1.flags, .int .i64 Y1.frag, .int .i64 Y1.ttl, .int .i64 Y1.proto, .int .u32 Y1.src, .int .u32 Y1.dst, .string Y1.opts] 24)
    clear HB hb hbq
    have HB := hide hbr
    clear hbr
    go_wp2_with fail
    refine (hPA _).mono ?_
    rintro e w3 ⟨rfl, hb⟩
    have hbq := (unhide HB).trans (hb.mono (unhide HB).size)
    have hbr := hbq.alloc hbq.size (.cells #[.int .i64 YA.tos, .int .i64 YA.id, .int .i64 YA.flags, .int .i64 YA.frag, .int .i64 YA.ttl, .int .i64 YA.proto, .int .u32 YA.src, .int .u32 YA.dst, .string YA.opts] 24)
    clear HB hb hbq
    have HB := hide hbr
    clear hbr
    go_wp2_with fail
    refine (hPB _).mono ?_
    rintro e w4 ⟨rfl, hb⟩
    have hbq := (unhide HB).trans (hb.mono (unhide HB).size)
    have hbr := hbq.alloc hbq.size (.cells #[.int .i64 YB.tos, .int .i64 YB.id, .int .i64 YB.flags, .int .i64 YB.frag, .int .i64 YB.ttl, .int .i64 YB.proto, .int .u32 YB.src, .int .u32 YB.dst, .string YB.opts] 24)
    clear HB hb hbq
    have HB := hide hbr
    clear hbr
    go_wp2_with fail
    generalize w4.alloc (.cells #[.int .i64 YB.tos, .int .i64 YB.id, .int .i64 YB.flags, .int .i64 YB.frag, .int .i64 YB.ttl, .int .i64 YB.proto, .int .u32 YB.src, .int .u32 YB.dst, .string YB.opts] 24) = wz at *
    refine wp_region_inv (by kernel_rfl) (madeF wz.heap.size X [.string s, .string S10, .string s, .int .u8 b10, .int .u8 X, undef, .string S1, .string SA, .string s, .string S11, .string x3, .tuple #[.agg #[.int .i64 Y.tos, .int .i64 Y.id, .int .i64 Y.flags, .int .i64 Y.frag, .int .i64 Y.ttl, .int .i64 Y.proto, .int .u32 Y.src, .int .u32 Y.dst, .string Y.opts], .string YS, .int .i64 7], .tuple #[.agg #[.int .i64 Y.tos, .int .i64 Y.id, .int .i64 Y.flags, .int .i64 Y.frag, .int .i64 Y.ttl, .int .i64 Y.proto, .int .u32 Y.src, .int .u32 Y.dst, .string Y.opts], .string YS, .int .i64 7], .agg #[.int .i64 Y.tos, .int .i64 Y.id, .int .i64 Y.flags, .int .i64 Y.frag, .int .i64 Y.ttl, .int .i64 Y.proto, .int .u32 Y.src, .int .u32 Y.dst, .string Y.opts], .string YS, .int .i64 7, undef, undef, .string YS, .int .i64 7] 5 16 17) (fun _ u => Below wz.heap.size wz.drew u) (by kernel_rfl) (Below.refl _ _) ?op ?fin
    case op =>
      intro i o bx u come ho hn hC hr hI hold hnew
      match i, ho with
      | 0, ho =>
        obtain rfl := Option.some.inj ho
        have d6 : bx.tmps.getD 6 undef = .string s := hold 6 (base_of (by kernel_rfl))
        refine .inl ⟨rfl, made_value (v := .string s) hI ?_ (by unfold madeF; rw [if_neg (by decide), if_neg (by decide), if_neg (by decide)]; rfl)⟩
        simp [execOp, Act.eval, d6]
      | 1, ho =>
        obtain rfl := Option.some.inj ho
        have d84 : bx.tmps.getD 84 undef = .string s := made_exact (by decide) (by decide) (by decide) (hnew 0 84 (hr 0 (by kernel_rfl)) (by kernel_rfl)) (by kernel_rfl)
        refine .inl ⟨rfl, made_value (v := .string S10) hI ?_ (by unfold madeF; rw [if_neg (by decide), if_neg (by decide), if_neg (by decide)]; rfl)⟩
        simp [Act.eval, d84, go_sem, h10s, hS10]
      | 2, ho =>
        obtain rfl := Option.some.inj ho
        have d6 : bx.tmps.getD 6 undef = .string s := hold 6 (base_of (by kernel_rfl))
        refine .inl ⟨rfl, made_value (v := .string s) hI ?_ (by unfold madeF; rw [if_neg (by decide), if_neg (by decide), if_neg (by decide)]; rfl)⟩
        simp [execOp, Act.eval, d6]
      | 3, ho =>
        obtain rfl := Option.some.inj ho
        have d86 : bx.tmps.getD 86 undef = .string s := made_exact (by decide) (by decide) (by decide) (hnew 2 86 (hr 2 (by kernel_rfl)) (by kernel_rfl)) (by kernel_rfl)
        refine .inl ⟨rfl, made_value (v := .int .u8 b10) hI ?_ (by unfold madeF; rw [if_neg (by decide), if_neg (by decide), if_neg (by decide)]; rfl)⟩
        simp [Act.eval, d86, go_sem, h10i, hb10]
      | 4, ho =>
        obtain rfl := Option.some.inj ho
        have d87 : bx.tmps.getD 87 undef = .int .u8 b10 := made_exact (by decide) (by decide) (by decide) (hnew 3 87 (hr 3 (by kernel_rfl)) (by kernel_rfl)) (by kernel_rfl)
        refine .inl ⟨rfl, made_value (v := .int .u8 X) hI ?_ (by unfold madeF; rw [if_neg (by decide), if_neg (by decide), if_neg (by decide)]; rfl)⟩
        simp [Act.eval, d87, go_sem, hX]
      | 5, ho =>
        obtain rfl := Option.some.inj ho
        have d88 : bx.tmps.getD 88 undef = .int .u8 X := made_exact (by decide) (by decide) (by decide) (hnew 4 88 (hr 4 (by kernel_rfl)) (by kernel_rfl)) (by kernel_rfl)
        have q88 : bx.tmps[88]?.getD undef = .int .u8 X := by rw [← Array.getD_eq_getD_getElem?]; exact d88
        refine .inl ⟨rfl, made_grow (v := .slice (some ⟨u.heap.size, 0, none⟩) 1 1) (u' := u.alloc (.cells #[.int .u8 X] 5)) hI ?_ (alloc_on u _) (by unfold madeF; rw [if_pos rfl]; exact ⟨_, rfl, by simp [go_sem]⟩)⟩
        simp [Act.eval, q88, go_sem]
      | 6, ho =>
        obtain rfl := Option.some.inj ho
        obtain ⟨g, d89, hc⟩ : ∃ g, bx.tmps.getD 89 undef = .slice (some ⟨g, 0, none⟩) 1 1 ∧ u.cell? ⟨g, 0, none⟩ = some (.int .u8 X) := by have := hnew 5 89 (hr 5 (by kernel_rfl)) (by kernel_rfl); unfold madeF at this; rw [if_pos rfl] at this; exact this
        have hcv := conv_cell u g X hc
        rw [hS1] at hcv
        refine .inl ⟨rfl, made_value (v := .string S1) hI ?_ (by unfold madeF; rw [if_neg (by decide), if_neg (by decide), if_neg (by decide)]; rfl)⟩
        simp [Act.eval, d89, go_sem, hcv]
      | 7, ho =>
        obtain rfl := Option.some.inj ho
        have d85 : bx.tmps.getD 85 undef = .string S10 := made_exact (by decide) (by decide) (by decide) (hnew 1 85 (hr 1 (by kernel_rfl)) (by kernel_rfl)) (by kernel_rfl)
        have d90 : bx.tmps.getD 90 undef = .string S1 := made_exact (by decide) (by decide) (by decide) (hnew 6 90 (hr 6 (by kernel_rfl)) (by kernel_rfl)) (by kernel_rfl)
        refine .inl ⟨rfl, made_value (v := .string SA) hI ?_ (by unfold madeF; rw [if_neg (by decide), if_neg (by decide), if_neg (by decide)]; rfl)⟩
        simp [Act.eval, d85, d90, go_sem, hSA]
      | 8, ho =>
        obtain rfl := Option.some.inj ho
        have d6 : bx.tmps.getD 6 undef = .string s := hold 6 (base_of (by kernel_rfl))
        refine .inl ⟨rfl, made_value (v := .string s) hI ?_ (by unfold madeF; rw [if_neg (by decide), if_neg (by decide), if_neg (by decide)]; rfl)⟩
        simp [execOp, Act.eval, d6]
      | 9, ho =>
        obtain rfl := Option.some.inj ho
        have d92 : bx.tmps.getD 92 undef = .string s := made_exact (by decide) (by decide) (by decide) (hnew 8 92 (hr 8 (by kernel_rfl)) (by kernel_rfl)) (by kernel_rfl)
        refine .inl ⟨rfl, made_value (v := .string S11) hI ?_ (by unfold madeF; rw [if_neg (by decide), if_neg (by decide), if_neg (by decide)]; rfl)⟩
        simp [Act.eval, d92, go_sem, h11s, hS11]
      | 10, ho =>
        obtain rfl := Option.some.inj ho
        have d91 : bx.tmps.getD 91 undef = .string SA := made_exact (by decide) (by decide) (by decide) (hnew 7 91 (hr 7 (by kernel_rfl)) (by kernel_rfl)) (by kernel_rfl)
        have d93 : bx.tmps.getD 93 undef = .string S11 := made_exact (by decide) (by decide) (by decide) (hnew 9 93 (hr 9 (by kernel_rfl)) (by kernel_rfl)) (by kernel_rfl)
        refine .inl ⟨rfl, made_value (v := .string x3) hI ?_ (by unfold madeF; rw [if_neg (by decide), if_neg (by decide), if_neg (by decide)]; rfl)⟩
        simp [Act.eval, d91, d93, go_sem, hx3]
      | 11, ho =>
        obtain rfl := Option.some.inj ho
        have d94 : bx.tmps.getD 94 undef = .string x3 := made_exact (by decide) (by decide) (by decide) (hnew 10 94 (hr 10 (by kernel_rfl)) (by kernel_rfl)) (by kernel_rfl)
        refine .inl ⟨rfl, made_call (v := .tuple #[.agg #[.int .i64 Y.tos, .int .i64 Y.id, .int .i64 Y.flags, .int .i64 Y.frag, .int .i64 Y.ttl, .int .i64 Y.proto, .int .u32 Y.src, .int .u32 Y.dst, .string Y.opts], .string YS, .int .i64 7]) (f := 18) (args := #[.string x3]) hI ?_ (hP3 u) (fun u' => (by unfold madeF; rw [if_neg (by decide), if_neg (by decide), if_neg (by decide)]; rfl))⟩
        simp [Act.eval, d94, go_sem]
      | 12, ho =>
        obtain rfl := Option.some.inj ho
        have d95 : bx.tmps.getD 95 undef = .tuple #[.agg #[.int .i64 Y.tos, .int .i64 Y.id, .int .i64 Y.flags, .int .i64 Y.frag, .int .i64 Y.ttl, .int .i64 Y.proto, .int .u32 Y.src, .int .u32 Y.dst, .string Y.opts], .string YS, .int .i64 7] := made_exact (by decide) (by decide) (by decide) (hnew 11 95 (hr 11 (by kernel_rfl)) (by kernel_rfl)) (by kernel_rfl)
        refine .inl ⟨rfl, made_value (v := .tuple #[.agg #[.int .i64 Y.tos, .int .i64 Y.id, .int .i64 Y.flags, .int .i64 Y.frag, .int .i64 Y.ttl, .int .i64 Y.proto, .int .u32 Y.src, .int .u32 Y.dst, .string Y.opts], .string YS, .int .i64 7]) hI ?_ (by unfold madeF; rw [if_neg (by decide), if_neg (by decide), if_neg (by decide)]; rfl)⟩
        simp [execOp, Act.eval, d95]
      | 13, ho =>
        obtain rfl := Option.some.inj ho
        have d83 : bx.tmps.getD 83 undef = .tuple #[.agg #[.int .i64 Y.tos, .int .i64 Y.id, .int .i64 Y.flags, .int .i64 Y.frag, .int .i64 Y.ttl, .int .i64 Y.proto, .int .u32 Y.src, .int .u32 Y.dst, .string Y.opts], .string YS, .int .i64 7] := made_exact (by decide) (by decide) (by decide) (hnew 12 83 (hr 12 (by kernel_rfl)) (by kernel_rfl)) (by kernel_rfl)
        refine .inl ⟨rfl, made_value (v := .agg #[.int .i64 Y.tos, .int .i64 Y.id, .int .i64 Y.flags, .int .i64 Y.frag, .int .i64 Y.ttl, .int .i64 Y.proto, .int .u32 Y.src, .int .u32 Y.dst, .string Y.opts]) hI ?_ (by unfold madeF; rw [if_neg (by decide), if_neg (by decide), if_neg (by decide)]; rfl)⟩
        simp [Act.eval, d83, go_sem]
      | 14, ho =>
        obtain rfl := Option.some.inj ho
        have d83 : bx.tmps.getD 83 undef = .tuple #[.agg #[.int .i64 Y.tos, .int .i64 Y.id, .int .i64 Y.flags, .int .i64 Y.frag, .int .i64 Y.ttl, .int .i64 Y.proto, .int .u32 Y.src, .int .u32 Y.dst, .string Y.opts], .string YS, .int .i64 7] := made_exact (by decide) (by decide) (by decide) (hnew 12 83 (hr 12 (by kernel_rfl)) (by kernel_rfl)) (by kernel_rfl)
        refine .inl ⟨rfl, made_value (v := .string YS) hI ?_ (by unfold madeF; rw [if_neg (by decide), if_neg (by decide), if_neg (by decide)]; rfl)⟩
        simp [Act.eval, d83, go_sem]
      | 15, ho =>
        obtain rfl := Option.some.inj ho
        have d83 : bx.tmps.getD 83 undef = .tuple #[.agg #[.int .i64 Y.tos, .int .i64 Y.id, .int .i64 Y.flags, .int .i64 Y.frag, .int .i64 Y.ttl, .int .i64 Y.proto, .int .u32 Y.src, .int .u32 Y.dst, .string Y.opts], .string YS, .int .i64 7] := made_exact (by decide) (by decide) (by decide) (hnew 12 83 (hr 12 (by kernel_rfl)) (by kernel_rfl)) (by kernel_rfl)
        refine .inl ⟨rfl, made_value (v := .int .i64 7) hI ?_ (by unfold madeF; rw [if_neg (by decide), if_neg (by decide), if_neg (by decide)]; rfl)⟩
        simp [Act.eval, d83, go_sem]
      | 16, ho =>
        obtain rfl := Option.some.inj ho
        refine .inl ⟨rfl, made_grow (v := .pointer (some ⟨u.heap.size, 0, none⟩)) (u' := u.alloc (.cells #[.int .i64 zeroHd.tos, .int .i64 zeroHd.id, .int .i64 zeroHd.flags, .int .i64 zeroHd.frag, .int .i64 zeroHd.ttl, .int .i64 zeroHd.proto, .int .u32 zeroHd.src, .int .u32 zeroHd.dst, .string zeroHd.opts] 24)) hI ?_ (alloc_on u _) (by unfold madeF; rw [if_neg (by decide), if_pos rfl]; exact ⟨_, zeroHd, rfl, hI.size, newHd u zeroHd _⟩)⟩
        simp [go_sem, zeroHd]
      | 17, ho =>
        obtain rfl := Option.some.inj ho
        obtain ⟨g, z, d19, hg, hN⟩ : ∃ g z, bx.tmps.getD 19 undef = .pointer (some ⟨g, 0, none⟩) ∧ wz.heap.size ≤ g ∧ NewHd u g z := by have := hnew 16 19 (hr 16 (by kernel_rfl)) (by kernel_rfl); unfold madeF at this; rw [if_neg (by decide), if_pos rfl] at this; exact this
        have d96 : bx.tmps.getD 96 undef = .agg #[.int .i64 Y.tos, .int .i64 Y.id, .int .i64 Y.flags, .int .i64 Y.frag, .int .i64 Y.ttl, .int .i64 Y.proto, .int .u32 Y.src, .int .u32 Y.dst, .string Y.opts] := made_exact (by decide) (by decide) (by decide) (hnew 13 96 (hr 13 (by kernel_rfl)) (by kernel_rfl)) (by kernel_rfl)
        have r0 := hN.at_ 0 (by decide)
        have r1 := hN.at_ 1 (by decide)
        have r2 := hN.at_ 2 (by decide)
        have r3 := hN.at_ 3 (by decide)
        have r4 := hN.at_ 4 (by decide)
        have r5 := hN.at_ 5 (by decide)
        have r6 := hN.at_ 6 (by decide)
        have r7 := hN.at_ 7 (by decide)
        have r8 := hN.at_ 8 (by decide)
        simp only [hcell] at r0 r1 r2 r3 r4 r5 r6 r7 r8
        have rf := hN.free
        refine .inl ⟨rfl, made_store (x := Y) hI ?_ hN hg (fun u' => by unfold madeF; rw [if_neg (by decide), if_neg (by decide), if_pos rfl]; trivial)⟩
        unfold setHd
        simp [Act.eval, d19, d96, go_sem, r0, r1, r2, r3, r4, r5, r6, r7, r8, rf]
      | 18, ho =>
        obtain rfl := Option.some.inj ho
        have d97 : bx.tmps.getD 97 undef = .string YS := made_exact (by decide) (by decide) (by decide) (hnew 14 97 (hr 14 (by kernel_rfl)) (by kernel_rfl)) (by kernel_rfl)
        refine .inl ⟨rfl, made_value (v := .string YS) hI ?_ (by unfold madeF; rw [if_neg (by decide), if_neg (by decide), if_neg (by decide)]; rfl)⟩
        simp [execOp, Act.eval, d97]
      | 19, ho =>
        obtain rfl := Option.some.inj ho
        have d98 : bx.tmps.getD 98 undef = .int .i64 7 := made_exact (by decide) (by decide) (by decide) (hnew 15 98 (hr 15 (by kernel_rfl)) (by kernel_rfl)) (by kernel_rfl)
        refine .inl ⟨rfl, made_value (v := .int .i64 7) hI ?_ (by unfold madeF; rw [if_neg (by decide), if_neg (by decide), if_neg (by decide)]; rfl)⟩
        simp [execOp, Act.eval, d98]
      | n + 20, ho => exact absurd ho (by simp)
    case fin =>
      intro bx u hI hm
      obtain ⟨x89, h89⟩ : ∃ x, bx.tmps.getD 89 undef = x := ⟨_, rfl⟩
      obtain ⟨x19, h19⟩ : ∃ x, bx.tmps.getD 19 undef = x := ⟨_, rfl⟩
      have hbx := met_all_list (vs := [.string s, .string S10, .string s, .int .u8 b10, .int .u8 X, x89, .string S1, .string SA, .string s, .string S11, .string x3, .tuple #[.agg #[.int .i64 Y.tos, .int .i64 Y.id, .int .i64 Y.flags, .int .i64 Y.frag, .int .i64 Y.ttl, .int .i64 Y.proto, .int .u32 Y.src, .int .u32 Y.dst, .string Y.opts], .string YS, .int .i64 7], .tuple #[.agg #[.int .i64 Y.tos, .int .i64 Y.id, .int .i64 Y.flags, .int .i64 Y.frag, .int .i64 Y.ttl, .int .i64 Y.proto, .int .u32 Y.src, .int .u32 Y.dst, .string Y.opts], .string YS, .int .i64 7], .agg #[.int .i64 Y.tos, .int .i64 Y.id, .int .i64 Y.flags, .int .i64 Y.frag, .int .i64 Y.ttl, .int .i64 Y.proto, .int .u32 Y.src, .int .u32 Y.dst, .string Y.opts], .string YS, .int .i64 7, x19, undef, .string YS, .int .i64 7]) (b := bx) (u := u) (by kernel_rfl) ⟨hm.defers, hm.size, hm.old, fun j t hj hd => by
        have hn := hm.new j t hj hd
        have hj' : j < 20 := hj
        match j, hj', hd, hn with
        | 0, _, hd, hn =>
          obtain rfl : 84 = t := Option.some.inj hd
          exact made_exact (by decide) (by decide) (by decide) hn (by kernel_rfl)
        | 1, _, hd, hn =>
          obtain rfl : 85 = t := Option.some.inj hd
          exact made_exact (by decide) (by decide) (by decide) hn (by kernel_rfl)
        | 2, _, hd, hn =>
          obtain rfl : 86 = t := Option.some.inj hd
          exact made_exact (by decide) (by decide) (by decide) hn (by kernel_rfl)
        | 3, _, hd, hn =>
          obtain rfl : 87 = t := Option.some.inj hd
          exact made_exact (by decide) (by decide) (by decide) hn (by kernel_rfl)
        | 4, _, hd, hn =>
          obtain rfl : 88 = t := Option.some.inj hd
          exact made_exact (by decide) (by decide) (by decide) hn (by kernel_rfl)
        | 5, _, hd, hn =>
          obtain rfl : 89 = t := Option.some.inj hd
          exact h89
        | 6, _, hd, hn =>
          obtain rfl : 90 = t := Option.some.inj hd
          exact made_exact (by decide) (by decide) (by decide) hn (by kernel_rfl)
        | 7, _, hd, hn =>
          obtain rfl : 91 = t := Option.some.inj hd
          exact made_exact (by decide) (by decide) (by decide) hn (by kernel_rfl)
        | 8, _, hd, hn =>
          obtain rfl : 92 = t := Option.some.inj hd
          exact made_exact (by decide) (by decide) (by decide) hn (by kernel_rfl)
        | 9, _, hd, hn =>
          obtain rfl : 93 = t := Option.some.inj hd
          exact made_exact (by decide) (by decide) (by decide) hn (by kernel_rfl)
        | 10, _, hd, hn =>
          obtain rfl : 94 = t := Option.some.inj hd
          exact made_exact (by decide) (by decide) (by decide) hn (by kernel_rfl)
        | 11, _, hd, hn =>
          obtain rfl : 95 = t := Option.some.inj hd
          exact made_exact (by decide) (by decide) (by decide) hn (by kernel_rfl)
        | 12, _, hd, hn =>
          obtain rfl : 83 = t := Option.some.inj hd
          exact made_exact (by decide) (by decide) (by decide) hn (by kernel_rfl)
        | 13, _, hd, hn =>
          obtain rfl : 96 = t := Option.some.inj hd
          exact made_exact (by decide) (by decide) (by decide) hn (by kernel_rfl)
        | 14, _, hd, hn =>
          obtain rfl : 97 = t := Option.some.inj hd
          exact made_exact (by decide) (by decide) (by decide) hn (by kernel_rfl)
        | 15, _, hd, hn =>
          obtain rfl : 98 = t := Option.some.inj hd
          exact made_exact (by decide) (by decide) (by decide) hn (by kernel_rfl)
        | 16, _, hd, hn =>
          obtain rfl : 19 = t := Option.some.inj hd
          exact h19
        | 17, _, hd, hn => cases hd
        | 18, _, hd, hn =>
          obtain rfl : 20 = t := Option.some.inj hd
          exact made_exact (by decide) (by decide) (by decide) hn (by kernel_rfl)
        | 19, _, hd, hn =>
          obtain rfl : 21 = t := Option.some.inj hd
          exact made_exact (by decide) (by decide) (by decide) hn (by kernel_rfl)
      ⟩
      rw [hbx]
      have HBZ := hide ((unhide HB).drew.trans (hI.mono (unhide HB).size))
      clear hbx hm h89 h19 hI HB hP3 h10s h10i hX hSA h11s hx3 hS10 hS11 hS1
      simp [putAll, dstAt, Act.put]
      go_wp2_with fail
      go_ret
      exact ⟨rfl, unhide HBZ⟩
  · rw [if_neg hc1] at hE1
    by_cases hc2 : 0 < K
    · rw [if_pos hc2] at hE1
      rw [hE1] at hP1
      have dk : decide (0 < K) = true := by simpa using hc2
      have ds : decide ((s.size : Int) - K < 20) = false := by simpa using hc1
      go_wp2_with fail
      refine (hP1 _).mono ?_
      rintro e w2 ⟨rfl, hb⟩
      have hbq := (unhide HB).trans (hb.mono (unhide HB).size)
      have hbr := hbq.alloc hbq.size (.cells #[.int .i64 Y1.tos, .int .i64 Y1.id, .int .i64 Y1.flags, .int .i64 Y1.frag, .int .i64 Y1.ttl, .int .i64 Y1.proto, .int .u32 Y1.src, .int .u32 Y1.dst, .string Y1.opts] 24)
      clear HB hb hbq
      have HB := hide hbr
      clear hbr
      go_wp2_with fail
      refine (hPA _).mono ?_
      rintro e w3 ⟨rfl, hb⟩
      have hbq := (unhide HB).trans (hb.mono (unhide HB).size)
      have hbr := hbq.alloc hbq.size (.cells #[.int .i64 YA.tos, .int .i64 YA.id, .int .i64 YA.flags, .int .i64 YA.frag, .int .i64 YA.ttl, .int .i64 YA.proto, .int .u32 YA.src, .int .u32 YA.dst, .string YA.opts] 24)
      clear HB hb hbq
      have HB := hide hbr
      clear hbr
      go_wp2_with fail
      refine (hPB _).mono ?_
      rintro e w4 ⟨rfl, hb⟩
      have hbq := (unhide HB).trans (hb.mono (unhide HB).size)
      have hbr := hbq.alloc hbq.size (.cells #[.int .i64 YB.tos, .int .i64 YB.id, .int .i64 YB.flags, .int .i64 YB.frag, .int .i64 YB.ttl, .int .i64 YB.proto, .int .u32 YB.src, .int .u32 YB.dst, .string YB.opts] 24)
      clear HB hb hbq
      have HB := hide hbr
      clear hbr
      go_wp2_with fail
      generalize w4.alloc (.cells #[.int .i64 YB.tos, .int .i64 YB.id, .int .i64 YB.flags, .int .i64 YB.frag, .int .i64 YB.ttl, .int .i64 YB.proto, .int .u32 YB.src, .int .u32 YB.dst, .string YB.opts] 24) = wz at *
      refine wp_region_inv (by kernel_rfl) (madeF wz.heap.size X [.string s, .string S10, .string s, .int .u8 b10, .int .u8 X, undef, .string S1, .string SA, .string s, .string S11, .string x3, .tuple #[.agg #[.int .i64 Y.tos, .int .i64 Y.id, .int .i64 Y.flags, .int .i64 Y.frag, .int .i64 Y.ttl, .int .i64 Y.proto, .int .u32 Y.src, .int .u32 Y.dst, .string Y.opts], .string YS, .int .i64 7], .tuple #[.agg #[.int .i64 Y.tos, .int .i64 Y.id, .int .i64 Y.flags, .int .i64 Y.frag, .int .i64 Y.ttl, .int .i64 Y.proto, .int .u32 Y.src, .int .u32 Y.dst, .string Y.opts], .string YS, .int .i64 7], .agg #[.int .i64 Y.tos, .int .i64 Y.id, .int .i64 Y.flags, .int .i64 Y.frag, .int .i64 Y.ttl, .int .i64 Y.proto, .int .u32 Y.src, .int .u32 Y.dst, .string Y.opts], .string YS, .int .i64 7, undef, undef, .string YS, .int .i64 7] 5 16 17) (fun _ u => Below wz.heap.size wz.drew u) (by kernel_rfl) (Below.refl _ _) ?op ?fin
      case op =>
        intro i o bx u come ho hn hC hr hI hold hnew
        match i, ho with
        | 0, ho =>
          obtain rfl := Option.some.inj ho
          have d6 : bx.tmps.getD 6 undef = .string s := hold 6 (base_of (by kernel_rfl))
          refine .inl ⟨rfl, made_value (v := .string s) hI ?_ (by unfold madeF; rw [if_neg (by decide), if_neg (by decide), if_neg (by decide)]; rfl)⟩
          simp [execOp, Act.eval, d6]
        | 1, ho =>
          obtain rfl := Option.some.inj ho
          have d84 : bx.tmps.getD 84 undef = .string s := made_exact (by decide) (by decide) (by decide) (hnew 0 84 (hr 0 (by kernel_rfl)) (by kernel_rfl)) (by kernel_rfl)
          refine .inl ⟨rfl, made_value (v := .string S10) hI ?_ (by unfold madeF; rw [if_neg (by decide), if_neg (by decide), if_neg (by decide)]; rfl)⟩
          simp [Act.eval, d84, go_sem, h10s, hS10]
        | 2, ho =>
          obtain rfl := Option.some.inj ho
          have d6 : bx.tmps.getD 6 undef = .string s := hold 6 (base_of (by kernel_rfl))
          refine .inl ⟨rfl, made_value (v := .string s) hI ?_ (by unfold madeF; rw [if_neg (by decide), if_neg (by decide), if_neg (by decide)]; rfl)⟩
          simp [execOp, Act.eval, d6]
        | 3, ho =>
          obtain rfl := Option.some.inj ho
          have d86 : bx.tmps.getD 86 undef = .string s := made_exact (by decide) (by decide) (by decide) (hnew 2 86 (hr 2 (by kernel_rfl)) (by kernel_rfl)) (by kernel_rfl)
          refine .inl ⟨rfl, made_value (v := .int .u8 b10) hI ?_ (by unfold madeF; rw [if_neg (by decide), if_neg (by decide), if_neg (by decide)]; rfl)⟩
          simp [Act.eval, d86, go_sem, h10i, hb10]
        | 4, ho =>
          obtain rfl := Option.some.inj ho
          have d87 : bx.tmps.getD 87 undef = .int .u8 b10 := made_exact (by decide) (by decide) (by decide) (hnew 3 87 (hr 3 (by kernel_rfl)) (by kernel_rfl)) (by kernel_rfl)
          refine .inl ⟨rfl, made_value (v := .int .u8 X) hI ?_ (by unfold madeF; rw [if_neg (by decide), if_neg (by decide), if_neg (by decide)]; rfl)⟩
          simp [Act.eval, d87, go_sem, hX]
        | 5, ho =>
          obtain rfl := Option.some.inj ho
          have d88 : bx.tmps.getD 88 undef = .int .u8 X := made_exact (by decide) (by decide) (by decide) (hnew 4 88 (hr 4 (by kernel_rfl)) (by kernel_rfl)) (by kernel_rfl)
          have q88 : bx.tmps[88]?.getD undef = .int .u8 X := by rw [← Array.getD_eq_getD_getElem?]; exact d88
          refine .inl ⟨rfl, made_grow (v := .slice (some ⟨u.heap.size, 0, none⟩) 1 1) (u' := u.alloc (.cells #[.int .u8 X] 5)) hI ?_ (alloc_on u _) (by unfold madeF; rw [if_pos rfl]; exact ⟨_, rfl, by simp [go_sem]⟩)⟩
          simp [Act.eval, q88, go_sem]
        | 6, ho =>
          obtain rfl := Option.some.inj ho
          obtain ⟨g, d89, hc⟩ : ∃ g, bx.tmps.getD 89 undef = .slice (some ⟨g, 0, none⟩) 1 1 ∧ u.cell? ⟨g, 0, none⟩ = some (.int .u8 X) := by have := hnew 5 89 (hr 5 (by kernel_rfl)) (by kernel_rfl); unfold madeF at this; rw [if_pos rfl] at this; exact this
          have hcv := conv_cell u g X hc
          rw [hS1] at hcv
          refine .inl ⟨rfl, made_value (v := .string S1) hI ?_ (by unfold madeF; rw [if_neg (by decide), if_neg (by decide), if_neg (by decide)]; rfl)⟩
          simp [Act.eval, d89, go_sem, hcv]
        | 7, ho =>
          obtain rfl := Option.some.inj ho
          have d85 : bx.tmps.getD 85 undef = .string S10 := made_exact (by decide) (by decide) (by decide) (hnew 1 85 (hr 1 (by kernel_rfl)) (by kernel_rfl)) (by kernel_rfl)
          have d90 : bx.tmps.getD 90 undef = .string S1 := made_exact (by decide) (by decide) (by decide) (hnew 6 90 (hr 6 (by kernel_rfl)) (by kernel_rfl)) (by kernel_rfl)
          refine .inl ⟨rfl, made_value (v := .string SA) hI ?_ (by unfold madeF; rw [if_neg (by decide), if_neg (by decide), if_neg (by decide)]; rfl)⟩
          simp [Act.eval, d85, d90, go_sem, hSA]
        | 8, ho =>
          obtain rfl := Option.some.inj ho
          have d6 : bx.tmps.getD 6 undef = .string s := hold 6 (base_of (by kernel_rfl))
          refine .inl ⟨rfl, made_value (v := .string s) hI ?_ (by unfold madeF; rw [if_neg (by decide), if_neg (by decide), if_neg (by decide)]; rfl)⟩
          simp [execOp, Act.eval, d6]
        | 9, ho =>
          obtain rfl := Option.some.inj ho
          have d92 : bx.tmps.getD 92 undef = .string s := made_exact (by decide) (by decide) (by decide) (hnew 8 92 (hr 8 (by kernel_rfl)) (by kernel_rfl)) (by kernel_rfl)
          refine .inl ⟨rfl, made_value (v := .string S11) hI ?_ (by unfold madeF; rw [if_neg (by decide), if_neg (by decide), if_neg (by decide)]; rfl)⟩
          simp [Act.eval, d92, go_sem, h11s, hS11]
        | 10, ho =>
          obtain rfl := Option.some.inj ho
          have d91 : bx.tmps.getD 91 undef = .string SA := made_exact (by decide) (by decide) (by decide) (hnew 7 91 (hr 7 (by kernel_rfl)) (by kernel_rfl)) (by kernel_rfl)
          have d93 : bx.tmps.getD 93 undef = .string S11 := made_exact (by decide) (by decide) (by decide) (hnew 9 93 (hr 9 (by kernel_rfl)) (by kernel_rfl)) (by kernel_rfl)
          refine .inl ⟨rfl, made_value (v := .string x3) hI ?_ (by unfold madeF; rw [if_neg (by decide), if_neg (by decide), if_neg (by decide)]; rfl)⟩
          simp [Act.eval, d91, d93, go_sem, hx3]
        | 11, ho =>
          obtain rfl := Option.some.inj ho
          have d94 : bx.tmps.getD 94 undef = .string x3 := made_exact (by decide) (by decide) (by decide) (hnew 10 94 (hr 10 (by kernel_rfl)) (by kernel_rfl)) (by kernel_rfl)
          refine .inl ⟨rfl, made_call (v := .tuple #[.agg #[.int .i64 Y.tos, .int .i64 Y.id, .int .i64 Y.flags, .int .i64 Y.frag, .int .i64 Y.ttl, .int .i64 Y.proto, .int .u32 Y.src, .int .u32 Y.dst, .string Y.opts], .string YS, .int .i64 7]) (f := 18) (args := #[.string x3]) hI ?_ (hP3 u) (fun u' => (by unfold madeF; rw [if_neg (by decide), if_neg (by decide), if_neg (by decide)]; rfl))⟩
          simp [Act.eval, d94, go_sem]
        | 12, ho =>
          obtain rfl := Option.some.inj ho
          have d95 : bx.tmps.getD 95 undef = .tuple #[.agg #[.int .i64 Y.tos, .int .i64 Y.id, .int .i64 Y.flags, .int .i64 Y.frag, .int .i64 Y.ttl, .int .i64 Y.proto, .int .u32 Y.src, .int .u32 Y.dst, .string Y.opts], .string YS, .int .i64 7] := made_exact (by decide) (by decide) (by decide) (hnew 11 95 (hr 11 (by kernel_rfl)) (by kernel_rfl)) (by kernel_rfl)
          refine .inl ⟨rfl, made_value (v := .tuple #[.agg #[.int .i64 Y.tos, .int .i64 Y.id, .int .i64 Y.flags, .int .i64 Y.frag, .int .i64 Y.ttl, .int .i64 Y.proto, .int .u32 Y.src, .int .u32 Y.dst, .string Y.opts], .string YS, .int .i64 7]) hI ?_ (by unfold madeF; rw [if_neg (by decide), if_neg (by decide), if_neg (by decide)]; rfl)⟩
          simp [execOp, Act.eval, d95]
        | 13, ho =>
          obtain rfl := Option.some.inj ho
          have d83 : bx.tmps.getD 83 undef = .tuple #[.agg #[.int .i64 Y.tos, .int .i64 Y.id, .int .i64 Y.flags, .int .i64 Y.frag, .int .i64 Y.ttl, .int .i64 Y.proto, .int .u32 Y.src, .int .u32 Y.dst, .string Y.opts], .string YS, .int .i64 7] := made_exact (by decide) (by decide) (by decide) (hnew 12 83 (hr 12 (by kernel_rfl)) (by kernel_rfl)) (by kernel_rfl)
          refine .inl ⟨rfl, made_value (v := .agg #[.int .i64 Y.tos, .int .i64 Y.id, .int .i64 Y.flags, .int .i64 Y.frag, .int .i64 Y.ttl, .int .i64 Y.proto, .int .u32 Y.src, .int .u32 Y.dst, .string Y.opts]) hI ?_ (by unfold madeF; rw [if_neg (by decide), if_neg (by decide), if_neg (by decide)]; rfl)⟩
          simp [Act.eval, d83, go_sem]
        | 14, ho =>
          obtain rfl := Option.some.inj ho
          have d83 : bx.tmps.getD 83 undef = .tuple #[.agg #[.int .i64 Y.tos, .int .i64 Y.id, .int .i64 Y.flags, .int .i64 Y.frag, .int .i64 Y.ttl, .int .i64 Y.proto, .int .u32 Y.src, .int .u32 Y.dst, .string Y.opts], .string YS, .int .i64 7] := made_exact (by decide) (by decide) (by decide) (hnew 12 83 (hr 12 (by kernel_rfl)) (by kernel_rfl)) (by kernel_rfl)
          refine .inl ⟨rfl, made_value (v := .string YS) hI ?_ (by unfold madeF; rw [if_neg (by decide), if_neg (by decide), if_neg (by decide)]; rfl)⟩
          simp [Act.eval, d83, go_sem]
        | 15, ho =>
          obtain rfl := Option.some.inj ho
          have d83 : bx.tmps.getD 83 undef = .tuple #[.agg #[.int .i64 Y.tos, .int .i64 Y.id, .int .i64 Y.flags, .int .i64 Y.frag, .int .i64 Y.ttl, .int .i64 Y.proto, .int .u32 Y.src, .int .u32 Y.dst, .string Y.opts], .string YS, .int .i64 7] := made_exact (by decide) (by decide) (by decide) (hnew 12 83 (hr 12 (by kernel_rfl)) (by kernel_rfl)) (by kernel_rfl)
          refine .inl ⟨rfl, made_value (v := .int .i64 7) hI ?_ (by unfold madeF; rw [if_neg (by decide), if_neg (by decide), if_neg (by decide)]; rfl)⟩
          simp [Act.eval, d83, go_sem]
        | 16, ho =>
          obtain rfl := Option.some.inj ho
          refine .inl ⟨rfl, made_grow (v := .pointer (some ⟨u.heap.size, 0, none⟩)) (u' := u.alloc (.cells #[.int .i64 zeroHd.tos, .int .i64 zeroHd.id, .int .i64 zeroHd.flags, .int .i64 zeroHd.frag, .int .i64 zeroHd.ttl, .int .i64 zeroHd.proto, .int .u32 zeroHd.src, .int .u32 zeroHd.dst, .string zeroHd.opts] 24)) hI ?_ (alloc_on u _) (by unfold madeF; rw [if_neg (by decide), if_pos rfl]; exact ⟨_, zeroHd, rfl, hI.size, newHd u zeroHd _⟩)⟩
          simp [go_sem, zeroHd]
        | 17, ho =>
          obtain rfl := Option.some.inj ho
          obtain ⟨g, z, d19, hg, hN⟩ : ∃ g z, bx.tmps.getD 19 undef = .pointer (some ⟨g, 0, none⟩) ∧ wz.heap.size ≤ g ∧ NewHd u g z := by have := hnew 16 19 (hr 16 (by kernel_rfl)) (by kernel_rfl); unfold madeF at this; rw [if_neg (by decide), if_pos rfl] at this; exact this
          have d96 : bx.tmps.getD 96 undef = .agg #[.int .i64 Y.tos, .int .i64 Y.id, .int .i64 Y.flags, .int .i64 Y.frag, .int .i64 Y.ttl, .int .i64 Y.proto, .int .u32 Y.src, .int .u32 Y.dst, .string Y.opts] := made_exact (by decide) (by decide) (by decide) (hnew 13 96 (hr 13 (by kernel_rfl)) (by kernel_rfl)) (by kernel_rfl)
          have r0 := hN.at_ 0 (by decide)
          have r1 := hN.at_ 1 (by decide)
          have r2 := hN.at_ 2 (by decide)
          have r3 := hN.at_ 3 (by decide)
          have r4 := hN.at_ 4 (by decide)
          have r5 := hN.at_ 5 (by decide)
          have r6 := hN.at_ 6 (by decide)
          have r7 := hN.at_ 7 (by decide)
          have r8 := hN.at_ 8 (by decide)
          simp only [hcell] at r0 r1 r2 r3 r4 r5 r6 r7 r8
          have rf := hN.free
          refine .inl ⟨rfl, made_store (x := Y) hI ?_ hN hg (fun u' => by unfold madeF; rw [if_neg (by decide), if_neg (by decide), if_pos rfl]; trivial)⟩
          unfold setHd
          simp [Act.eval, d19, d96, go_sem, r0, r1, r2, r3, r4, r5, r6, r7, r8, rf]
        | 18, ho =>
          obtain rfl := Option.some.inj ho
          have d97 : bx.tmps.getD 97 undef = .string YS := made_exact (by decide) (by decide) (by decide) (hnew 14 97 (hr 14 (by kernel_rfl)) (by kernel_rfl)) (by kernel_rfl)
          refine .inl ⟨rfl, made_value (v := .string YS) hI ?_ (by unfold madeF; rw [if_neg (by decide), if_neg (by decide), if_neg (by decide)]; rfl)⟩
          simp [execOp, Act.eval, d97]
        | 19, ho =>
          obtain rfl := Option.some.inj ho
          have d98 : bx.tmps.getD 98 undef = .int .i64 7 := made_exact (by decide) (by decide) (by decide) (hnew 15 98 (hr 15 (by kernel_rfl)) (by kernel_rfl)) (by kernel_rfl)
          refine .inl ⟨rfl, made_value (v := .int .i64 7) hI ?_ (by unfold madeF; rw [if_neg (by decide), if_neg (by decide), if_neg (by decide)]; rfl)⟩
          simp [execOp, Act.eval, d98]
        | n + 20, ho => exact absurd ho (by simp)
      case fin =>
        intro bx u hI hm
        obtain ⟨x89, h89⟩ : ∃ x, bx.tmps.getD 89 undef = x := ⟨_, rfl⟩
        obtain ⟨x19, h19⟩ : ∃ x, bx.tmps.getD 19 undef = x := ⟨_, rfl⟩
        have hbx := met_all_list (vs := [.string s, .string S10, .string s, .int .u8 b10, .int .u8 X, x89, .string S1, .string SA, .string s, .string S11, .string x3, .tuple #[.agg #[.int .i64 Y.tos, .int .i64 Y.id, .int .i64 Y.flags, .int .i64 Y.frag, .int .i64 Y.ttl, .int .i64 Y.proto, .int .u32 Y.src, .int .u32 Y.dst, .string Y.opts], .string YS, .int .i64 7], .tuple #[.agg #[.int .i64 Y.tos, .int .i64 Y.id, .int .i64 Y.flags, .int .i64 Y.frag, .int .i64 Y.ttl, .int .i64 Y.proto, .int .u32 Y.src, .int .u32 Y.dst, .string Y.opts], .string YS, .int .i64 7], .agg #[.int .i64 Y.tos, .int .i64 Y.id, .int .i64 Y.flags, .int .i64 Y.frag, .int .i64 Y.ttl, .int .i64 Y.proto, .int .u32 Y.src, .int .u32 Y.dst, .string Y.opts], .string YS, .int .i64 7, x19, undef, .string YS, .int .i64 7]) (b := bx) (u := u) (by kernel_rfl) ⟨hm.defers, hm.size, hm.old, fun j t hj hd => by
          have hn := hm.new j t hj hd
          have hj' : j < 20 := hj
          match j, hj', hd, hn with
          | 0, _, hd, hn =>
            obtain rfl : 84 = t := Option.some.inj hd
            exact made_exact (by decide) (by decide) (by decide) hn (by kernel_rfl)
          | 1, _, hd, hn =>
            obtain rfl : 85 = t := Option.some.inj hd
            exact made_exact (by decide) (by decide) (by decide) hn (by kernel_rfl)
          | 2, _, hd, hn =>
            obtain rfl : 86 = t := Option.some.inj hd
            exact made_exact (by decide) (by decide) (by decide) hn (by kernel_rfl)
          | 3, _, hd, hn =>
            obtain rfl : 87 = t := Option.some.inj hd
            exact made_exact (by decide) (by decide) (by decide) hn (by kernel_rfl)
          | 4, _, hd, hn =>
            obtain rfl : 88 = t := Option.some.inj hd
            exact made_exact (by decide) (by decide) (by decide) hn (by kernel_rfl)
          | 5, _, hd, hn =>
            obtain rfl : 89 = t := Option.some.inj hd
            exact h89
          | 6, _, hd, hn =>
            obtain rfl : 90 = t := Option.some.inj hd
            exact made_exact (by decide) (by decide) (by decide) hn (by kernel_rfl)
          | 7, _, hd, hn =>
            obtain rfl : 91 = t := Option.some.inj hd
            exact made_exact (by decide) (by decide) (by decide) hn (by kernel_rfl)
          | 8, _, hd, hn =>
            obtain rfl : 92 = t := Option.some.inj hd
            exact made_exact (by decide) (by decide) (by decide) hn (by kernel_rfl)
          | 9, _, hd, hn =>
            obtain rfl : 93 = t := Option.some.inj hd
            exact made_exact (by decide) (by decide) (by decide) hn (by kernel_rfl)
          | 10, _, hd, hn =>
            obtain rfl : 94 = t := Option.some.inj hd
            exact made_exact (by decide) (by decide) (by decide) hn (by kernel_rfl)
          | 11, _, hd, hn =>
            obtain rfl : 95 = t := Option.some.inj hd
            exact made_exact (by decide) (by decide) (by decide) hn (by kernel_rfl)
          | 12, _, hd, hn =>
            obtain rfl : 83 = t := Option.some.inj hd
            exact made_exact (by decide) (by decide) (by decide) hn (by kernel_rfl)
          | 13, _, hd, hn =>
            obtain rfl : 96 = t := Option.some.inj hd
            exact made_exact (by decide) (by decide) (by decide) hn (by kernel_rfl)
          | 14, _, hd, hn =>
            obtain rfl : 97 = t := Option.some.inj hd
            exact made_exact (by decide) (by decide) (by decide) hn (by kernel_rfl)
          | 15, _, hd, hn =>
            obtain rfl : 98 = t := Option.some.inj hd
            exact made_exact (by decide) (by decide) (by decide) hn (by kernel_rfl)
          | 16, _, hd, hn =>
            obtain rfl : 19 = t := Option.some.inj hd
            exact h19
          | 17, _, hd, hn => cases hd
          | 18, _, hd, hn =>
            obtain rfl : 20 = t := Option.some.inj hd
            exact made_exact (by decide) (by decide) (by decide) hn (by kernel_rfl)
          | 19, _, hd, hn =>
            obtain rfl : 21 = t := Option.some.inj hd
            exact made_exact (by decide) (by decide) (by decide) hn (by kernel_rfl)
        ⟩
        rw [hbx]
        have HBZ := hide ((unhide HB).drew.trans (hI.mono (unhide HB).size))
        clear hbx hm h89 h19 hI HB hP3 h10s h10i hX hSA h11s hx3 hS10 hS11 hS1
        simp [putAll, dstAt, Act.put]
        go_wp2_with fail
        go_ret
        exact ⟨rfl, unhide HBZ⟩
    · rw [if_neg hc2] at hE1
      rw [hE1] at hP1
      have dk : decide (0 < K) = false := by simpa using hc2
      have ds : decide ((s.size : Int) - K < 20) = false := by simpa using hc1
      go_wp2_with fail
      refine (hP1 _).mono ?_
      rintro e w2 ⟨rfl, hb⟩
      have hbq := (unhide HB).trans (hb.mono (unhide HB).size)
      have hbr := hbq.alloc hbq.size (.cells #[.int .i64 Y1.tos, .int .i64 Y1.id, .int .i64 Y1.flags, .int .i64 Y1.frag, .int .i64 Y1.ttl, .int .i64 Y1.proto, .int .u32 Y1.src, .int .u32 Y1.dst, .string Y1.opts] 24)
      clear HB hb hbq
      have HB := hide hbr
      clear hbr
      go_wp2_with fail
      refine (hPA _).mono ?_
      rintro e w3 ⟨rfl, hb⟩
      have hbq := (unhide HB).trans (hb.mono (unhide HB).size)
      have hbr := hbq.alloc hbq.size (.cells #[.int .i64 YA.tos, .int .i64 YA.id, .int .i64 YA.flags, .int .i64 YA.frag, .int .i64 YA.ttl, .int .i64 YA.proto, .int .u32 YA.src, .int .u32 YA.dst, .string YA.opts] 24)
      clear HB hb hbq
      have HB := hide hbr
      clear hbr
      go_wp2_with fail
      refine (hPB _).mono ?_
      rintro e w4 ⟨rfl, hb⟩
      have hbq := (unhide HB).trans (hb.mono (unhide HB).size)
      have hbr := hbq.alloc hbq.size (.cells #[.int .i64 YB.tos, .int .i64 YB.id, .int .i64 YB.flags, .int .i64 YB.frag, .int .i64 YB.ttl, .int .i64 YB.proto, .int .u32 YB.src, .int .u32 YB.dst, .string YB.opts] 24)
      clear HB hb hbq
      have HB := hide hbr
      clear hbr
      go_wp2_with fail
      generalize w4.alloc (.cells #[.int .i64 YB.tos, .int .i64 YB.id, .int .i64 YB.flags, .int .i64 YB.frag, .int .i64 YB.ttl, .int .i64 YB.proto, .int .u32 YB.src, .int .u32 YB.dst, .string YB.opts] 24) = wz at *
      refine wp_region_inv (by kernel_rfl) (madeF wz.heap.size X [.string s, .string S10, .string s, .int .u8 b10, .int .u8 X, undef, .string S1, .string SA, .string s, .string S11, .string x3, .tuple #[.agg #[.int .i64 Y.tos, .int .i64 Y.id, .int .i64 Y.flags, .int .i64 Y.frag, .int .i64 Y.ttl, .int .i64 Y.proto, .int .u32 Y.src, .int .u32 Y.dst, .string Y.opts], .string YS, .int .i64 7], .tuple #[.agg #[.int .i64 Y.tos, .int .i64 Y.id, .int .i64 Y.flags, .int .i64 Y.frag, .int .i64 Y.ttl, .int .i64 Y.proto, .int .u32 Y.src, .int .u32 Y.dst, .string Y.opts], .string YS, .int .i64 7], .agg #[.int .i64 Y.tos, .int .i64 Y.id, .int .i64 Y.flags, .int .i64 Y.frag, .int .i64 Y.ttl, .int .i64 Y.proto, .int .u32 Y.src, .int .u32 Y.dst, .string Y.opts], .string YS, .int .i64 7, undef, undef, .string YS, .int .i64 7] 5 16 17) (fun _ u => Below wz.heap.size wz.drew u) (by kernel_rfl) (Below.refl _ _) ?op ?fin
      case op =>
        intro i o bx u come ho hn hC hr hI hold hnew
        match i, ho with
        | 0, ho =>
          obtain rfl := Option.some.inj ho
          have d6 : bx.tmps.getD 6 undef = .string s := hold 6 (base_of (by kernel_rfl))
          refine .inl ⟨rfl, made_value (v := .string s) hI ?_ (by unfold madeF; rw [if_neg (by decide), if_neg (by decide), if_neg (by decide)]; rfl)⟩
          simp [execOp, Act.eval, d6]
        | 1, ho =>
          obtain rfl := Option.some.inj ho
          have d84 : bx.tmps.getD 84 undef = .string s := made_exact (by decide) (by decide) (by decide) (hnew 0 84 (hr 0 (by kernel_rfl)) (by kernel_rfl)) (by kernel_rfl)
          refine .inl ⟨rfl, made_value (v := .string S10) hI ?_ (by unfold madeF; rw [if_neg (by decide), if_neg (by decide), if_neg (by decide)]; rfl)⟩
          simp [Act.eval, d84, go_sem, h10s, hS10]
        | 2, ho =>
          obtain rfl := Option.some.inj ho
          have d6 : bx.tmps.getD 6 undef = .string s := hold 6 (base_of (by kernel_rfl))
          refine .inl ⟨rfl, made_value (v := .string s) hI ?_ (by unfold madeF; rw [if_neg (by decide), if_neg (by decide), if_neg (by decide)]; rfl)⟩
          simp [execOp, Act.eval, d6]
        | 3, ho =>
          obtain rfl := Option.some.inj ho
          have d86 : bx.tmps.getD 86 undef = .string s := made_exact (by decide) (by decide) (by decide) (hnew 2 86 (hr 2 (by kernel_rfl)) (by kernel_rfl)) (by kernel_rfl)
          refine .inl ⟨rfl, made_value (v := .int .u8 b10) hI ?_ (by unfold madeF; rw [if_neg (by decide), if_neg (by decide), if_neg (by decide)]; rfl)⟩
          simp [Act.eval, d86, go_sem, h10i, hb10]
        | 4, ho =>
          obtain rfl := Option.some.inj ho
          have d87 : bx.tmps.getD 87 undef = .int .u8 b10 := made_exact (by decide) (by decide) (by decide) (hnew 3 87 (hr 3 (by kernel_rfl)) (by kernel_rfl)) (by kernel_rfl)
          refine .inl ⟨rfl, made_value (v := .int .u8 X) hI ?_ (by unfold madeF; rw [if_neg (by decide), if_neg (by decide), if_neg (by decide)]; rfl)⟩
          simp [Act.eval, d87, go_sem, hX]
        | 5, ho =>
          obtain rfl := Option.some.inj ho
          have d88 : bx.tmps.getD 88 undef = .int .u8 X := made_exact (by decide) (by decide) (by decide) (hnew 4 88 (hr 4 (by kernel_rfl)) (by kernel_rfl)) (by kernel_rfl)
          have q88 : bx.tmps[88]?.getD undef = .int .u8 X := by rw [← Array.getD_eq_getD_getElem?]; exact d88
          refine .inl ⟨rfl, made_grow (v := .slice (some ⟨u.heap.size, 0, none⟩) 1 1) (u' := u.alloc (.cells #[.int .u8 X] 5)) hI ?_ (alloc_on u _) (by unfold madeF; rw [if_pos rfl]; exact ⟨_, rfl, by simp [go_sem]⟩)⟩
          simp [Act.eval, q88, go_sem]
        | 6, ho =>
          obtain rfl := Option.some.inj ho
          obtain ⟨g, d89, hc⟩ : ∃ g, bx.tmps.getD 89 undef = .slice (some ⟨g, 0, none⟩) 1 1 ∧ u.cell? ⟨g, 0, none⟩ = some (.int .u8 X) := by have := hnew 5 89 (hr 5 (by kernel_rfl)) (by kernel_rfl); unfold madeF at this; rw [if_pos rfl] at this; exact this
          have hcv := conv_cell u g X hc
          rw [hS1] at hcv
          refine .inl ⟨rfl, made_value (v := .string S1) hI ?_ (by unfold madeF; rw [if_neg (by decide), if_neg (by decide), if_neg (by decide)]; rfl)⟩
          simp [Act.eval, d89, go_sem, hcv]
        | 7, ho =>
          obtain rfl := Option.some.inj ho
          have d85 : bx.tmps.getD 85 undef = .string S10 := made_exact (by decide) (by decide) (by decide) (hnew 1 85 (hr 1 (by kernel_rfl)) (by kernel_rfl)) (by kernel_rfl)
          have d90 : bx.tmps.getD 90 undef = .string S1 := made_exact (by decide) (by decide) (by decide) (hnew 6 90 (hr 6 (by kernel_rfl)) (by kernel_rfl)) (by kernel_rfl)
          refine .inl ⟨rfl, made_value (v := .string SA) hI ?_ (by unfold madeF; rw [if_neg (by decide), if_neg (by decide), if_neg (by decide)]; rfl)⟩
          simp [Act.eval, d85, d90, go_sem, hSA]
        | 8, ho =>
          obtain rfl := Option.some.inj ho
          have d6 : bx.tmps.getD 6 undef = .string s := hold 6 (base_of (by kernel_rfl))
          refine .inl ⟨rfl, made_value (v := .string s) hI ?_ (by unfold madeF; rw [if_neg (by decide), if_neg (by decide), if_neg (by decide)]; rfl)⟩
          simp [execOp, Act.eval, d6]
        | 9, ho =>
          obtain rfl := Option.some.inj ho
          have d92 : bx.tmps.getD 92 undef = .string s := made_exact (by decide) (by decide) (by decide) (hnew 8 92 (hr 8 (by kernel_rfl)) (by kernel_rfl)) (by kernel_rfl)
          refine .inl ⟨rfl, made_value (v := .string S11) hI ?_ (by unfold madeF; rw [if_neg (by decide), if_neg (by decide), if_neg (by decide)]; rfl)⟩
          simp [Act.eval, d92, go_sem, h11s, hS11]
        | 10, ho =>
          obtain rfl := Option.some.inj ho
          have d91 : bx.tmps.getD 91 undef = .string SA := made_exact (by decide) (by decide) (by decide) (hnew 7 91 (hr 7 (by kernel_rfl)) (by kernel_rfl)) (by kernel_rfl)
          have d93 : bx.tmps.getD 93 undef = .string S11 := made_exact (by decide) (by decide) (by decide) (hnew 9 93 (hr 9 (by kernel_rfl)) (by kernel_rfl)) (by kernel_rfl)
          refine .inl ⟨rfl, made_value (v := .string x3) hI ?_ (by unfold madeF; rw [if_neg (by decide), if_neg (by decide), if_neg (by decide)]; rfl)⟩
          simp [Act.eval, d91, d93, go_sem, hx3]
        | 11, ho =>
          obtain rfl := Option.some.inj ho
          have d94 : bx.tmps.getD 94 undef = .string x3 := made_exact (by decide) (by decide) (by decide) (hnew 10 94 (hr 10 (by kernel_rfl)) (by kernel_rfl)) (by kernel_rfl)
          refine .inl ⟨rfl, made_call (v := .tuple #[.agg #[.int .i64 Y.tos, .int .i64 Y.id, .int .i64 Y.flags, .int .i64 Y.frag, .int .i64 Y.ttl, .int .i64 Y.proto, .int .u32 Y.src, .int .u32 Y.dst, .string Y.opts], .string YS, .int .i64 7]) (f := 18) (args := #[.string x3]) hI ?_ (hP3 u) (fun u' => (by unfold madeF; rw [if_neg (by decide), if_neg (by decide), if_neg (by decide)]; rfl))⟩
          simp [Act.eval, d94, go_sem]
        | 12, ho =>
          obtain rfl := Option.some.inj ho
          have d95 : bx.tmps.getD 95 undef = .tuple #[.agg #[.int .i64 Y.tos, .int .i64 Y.id, .int .i64 Y.flags, .int .i64 Y.frag, .int .i64 Y.ttl, .int .i64 Y.proto, .int .u32 Y.src, .int .u32 Y.dst, .string Y.opts], .string YS, .int .i64 7] := made_exact (by decide) (by decide) (by decide) (hnew 11 95 (hr 11 (by kernel_rfl)) (by kernel_rfl)) (by kernel_rfl)
          refine .inl ⟨rfl, made_value (v := .tuple #[.agg #[.int .i64 Y.tos, .int .i64 Y.id, .int .i64 Y.flags, .int .i64 Y.frag, .int .i64 Y.ttl, .int .i64 Y.proto, .int .u32 Y.src, .int .u32 Y.dst, .string Y.opts], .string YS, .int .i64 7]) hI ?_ (by unfold madeF; rw [if_neg (by decide), if_neg (by decide), if_neg (by decide)]; rfl)⟩
          simp [execOp, Act.eval, d95]
        | 13, ho =>
          obtain rfl := Option.some.inj ho
          have d83 : bx.tmps.getD 83 undef = .tuple #[.agg #[.int .i64 Y.tos, .int .i64 Y.id, .int .i64 Y.flags, .int .i64 Y.frag, .int .i64 Y.ttl, .int .i64 Y.proto, .int .u32 Y.src, .int .u32 Y.dst, .string Y.opts], .string YS, .int .i64 7] := made_exact (by decide) (by decide) (by decide) (hnew 12 83 (hr 12 (by kernel_rfl)) (by kernel_rfl)) (by kernel_rfl)
          refine .inl ⟨rfl, made_value (v := .agg #[.int .i64 Y.tos, .int .i64 Y.id, .int .i64 Y.flags, .int .i64 Y.frag, .int .i64 Y.ttl, .int .i64 Y.proto, .int .u32 Y.src, .int .u32 Y.dst, .string Y.opts]) hI ?_ (by unfold madeF; rw [if_neg (by decide), if_neg (by decide), if_neg (by decide)]; rfl)⟩
          simp [Act.eval, d83, go_sem]
        | 14, ho =>
          obtain rfl := Option.some.inj ho
          have d83 : bx.tmps.getD 83 undef = .tuple #[.agg #[.int .i64 Y.tos, .int .i64 Y.id, .int .i64 Y.flags, .int .i64 Y.frag, .int .i64 Y.ttl, .int .i64 Y.proto, .int .u32 Y.src, .int .u32 Y.dst, .string Y.opts], .string YS, .int .i64 7] := made_exact (by decide) (by decide) (by decide) (hnew 12 83 (hr 12 (by kernel_rfl)) (by kernel_rfl)) (by kernel_rfl)
          refine .inl ⟨rfl, made_value (v := .string YS) hI ?_ (by unfold madeF; rw [if_neg (by decide), if_neg (by decide), if_neg (by decide)]; rfl)⟩
          simp [Act.eval, d83, go_sem]
        | 15, ho =>
          obtain rfl := Option.some.inj ho
          have d83 : bx.tmps.getD 83 undef = .tuple #[.agg #[.int .i64 Y.tos, .int .i64 Y.id, .int .i64 Y.flags, .int .i64 Y.frag, .int .i64 Y.ttl, .int .i64 Y.proto, .int .u32 Y.src, .int .u32 Y.dst, .string Y.opts], .string YS, .int .i64 7] := made_exact (by decide) (by decide) (by decide) (hnew 12 83 (hr 12 (by kernel_rfl)) (by kernel_rfl)) (by kernel_rfl)
          refine .inl ⟨rfl, made_value (v := .int .i64 7) hI ?_ (by unfold madeF; rw [if_neg (by decide), if_neg (by decide), if_neg (by decide)]; rfl)⟩
          simp [Act.eval, d83, go_sem]
        | 16, ho =>
          obtain rfl := Option.some.inj ho
          refine .inl ⟨rfl, made_grow (v := .pointer (some ⟨u.heap.size, 0, none⟩)) (u' := u.alloc (.cells #[.int .i64 zeroHd.tos, .int .i64 zeroHd.id, .int .i64 zeroHd.flags, .int .i64 zeroHd.frag, .int .i64 zeroHd.ttl, .int .i64 zeroHd.proto, .int .u32 zeroHd.src, .int .u32 zeroHd.dst, .string zeroHd.opts] 24)) hI ?_ (alloc_on u _) (by unfold madeF; rw [if_neg (by decide), if_pos rfl]; exact ⟨_, zeroHd, rfl, hI.size, newHd u zeroHd _⟩)⟩
          simp [go_sem, zeroHd]
        | 17, ho =>
          obtain rfl := Option.some.inj ho
          obtain ⟨g, z, d19, hg, hN⟩ : ∃ g z, bx.tmps.getD 19 undef = .pointer (some ⟨g, 0, none⟩) ∧ wz.heap.size ≤ g ∧ NewHd u g z := by have := hnew 16 19 (hr 16 (by kernel_rfl)) (by kernel_rfl); unfold madeF at this; rw [if_neg (by decide), if_pos rfl] at this; exact this
          have d96 : bx.tmps.getD 96 undef = .agg #[.int .i64 Y.tos, .int .i64 Y.id, .int .i64 Y.flags, .int .i64 Y.frag, .int .i64 Y.ttl, .int .i64 Y.proto, .int .u32 Y.src, .int .u32 Y.dst, .string Y.opts] := made_exact (by decide) (by decide) (by decide) (hnew 13 96 (hr 13 (by kernel_rfl)) (by kernel_rfl)) (by kernel_rfl)
          have r0 := hN.at_ 0 (by decide)
          have r1 := hN.at_ 1 (by decide)
          have r2 := hN.at_ 2 (by decide)
          have r3 := hN.at_ 3 (by decide)
          have r4 := hN.at_ 4 (by decide)
          have r5 := hN.at_ 5 (by decide)
          have r6 := hN.at_ 6 (by decide)
          have r7 := hN.at_ 7 (by decide)
          have r8 := hN.at_ 8 (by decide)
          simp only [hcell] at r0 r1 r2 r3 r4 r5 r6 r7 r8
          have rf := hN.free
          refine .inl ⟨rfl, made_store (x := Y) hI ?_ hN hg (fun u' => by unfold madeF; rw [if_neg (by decide), if_neg (by decide), if_pos rfl]; trivial)⟩
          unfold setHd
          simp [Act.eval, d19, d96, go_sem, r0, r1, r2, r3, r4, r5, r6, r7, r8, rf]
        | 18, ho =>
          obtain rfl := Option.some.inj ho
          have d97 : bx.tmps.getD 97 undef = .string YS := made_exact (by decide) (by decide) (by decide) (hnew 14 97 (hr 14 (by kernel_rfl)) (by kernel_rfl)) (by kernel_rfl)
          refine .inl ⟨rfl, made_value (v := .string YS) hI ?_ (by unfold madeF; rw [if_neg (by decide), if_neg (by decide), if_neg (by decide)]; rfl)⟩
          simp [execOp, Act.eval, d97]
        | 19, ho =>
          obtain rfl := Option.some.inj ho
          have d98 : bx.tmps.getD 98 undef = .int .i64 7 := made_exact (by decide) (by decide) (by decide) (hnew 15 98 (hr 15 (by kernel_rfl)) (by kernel_rfl)) (by kernel_rfl)
          refine .inl ⟨rfl, made_value (v := .int .i64 7) hI ?_ (by unfold madeF; rw [if_neg (by decide), if_neg (by decide), if_neg (by decide)]; rfl)⟩
          simp [execOp, Act.eval, d98]
        | n + 20, ho => exact absurd ho (by simp)
      case fin =>
        intro bx u hI hm
        obtain ⟨x89, h89⟩ : ∃ x, bx.tmps.getD 89 undef = x := ⟨_, rfl⟩
        obtain ⟨x19, h19⟩ : ∃ x, bx.tmps.getD 19 undef = x := ⟨_, rfl⟩
        have hbx := met_all_list (vs := [.string s, .string S10, .string s, .int .u8 b10, .int .u8 X, x89, .string S1, .string SA, .string s, .string S11, .string x3, .tuple #[.agg #[.int .i64 Y.tos, .int .i64 Y.id, .int .i64 Y.flags, .int .i64 Y.frag, .int .i64 Y.ttl, .int .i64 Y.proto, .int .u32 Y.src, .int .u32 Y.dst, .string Y.opts], .string YS, .int .i64 7], .tuple #[.agg #[.int .i64 Y.tos, .int .i64 Y.id, .int .i64 Y.flags, .int .i64 Y.frag, .int .i64 Y.ttl, .int .i64 Y.proto, .int .u32 Y.src, .int .u32 Y.dst, .string Y.opts], .string YS, .int .i64 7], .agg #[.int .i64 Y.tos, .int .i64 Y.id, .int .i64 Y.flags, .int .i64 Y.frag, .int .i64 Y.ttl, .int .i64 Y.proto, .int .u32 Y.src, .int .u32 Y.dst, .string Y.opts], .string YS, .int .i64 7, x19, undef, .string YS, .int .i64 7]) (b := bx) (u := u) (by kernel_rfl) ⟨hm.defers, hm.size, hm.old, fun j t hj hd => by
          have hn := hm.new j t hj hd
          have hj' : j < 20 := hj
          match j, hj', hd, hn with
          | 0, _, hd, hn =>
            obtain rfl : 84 = t := Option.some.inj hd
            exact made_exact (by decide) (by decide) (by decide) hn (by kernel_rfl)
          | 1, _, hd, hn =>
            obtain rfl : 85 = t := Option.some.inj hd
            exact made_exact (by decide) (by decide) (by decide) hn (by kernel_rfl)
          | 2, _, hd, hn =>
            obtain rfl : 86 = t := Option.some.inj hd
            exact made_exact (by decide) (by decide) (by decide) hn (by kernel_rfl)
          | 3, _, hd, hn =>
            obtain rfl : 87 = t := Option.some.inj hd
            exact made_exact (by decide) (by decide) (by decide) hn (by kernel_rfl)
          | 4, _, hd, hn =>
            obtain rfl : 88 = t := Option.some.inj hd
            exact made_exact (by decide) (by decide) (by decide) hn (by kernel_rfl)
          | 5, _, hd, hn =>
            obtain rfl : 89 = t := Option.some.inj hd
            exact h89
          | 6, _, hd, hn =>
            obtain rfl : 90 = t := Option.some.inj hd
            exact made_exact (by decide) (by decide) (by decide) hn (by kernel_rfl)
          | 7, _, hd, hn =>
            obtain rfl : 91 = t := Option.some.inj hd
            exact made_exact (by decide) (by decide) (by decide) hn (by kernel_rfl)
          | 8, _, hd, hn =>
            obtain rfl : 92 = t := Option.some.inj hd
            exact made_exact (by decide) (by decide) (by decide) hn (by kernel_rfl)
          | 9, _, hd, hn =>
            obtain rfl : 93 = t := Option.some.inj hd
            exact made_exact (by decide) (by decide) (by decide) hn (by kernel_rfl)
          | 10, _, hd, hn =>
            obtain rfl : 94 = t := Option.some.inj hd
            exact made_exact (by decide) (by decide) (by decide) hn (by kernel_rfl)
          | 11, _, hd, hn =>
            obtain rfl : 95 = t := Option.some.inj hd
            exact made_exact (by decide) (by decide) (by decide) hn (by kernel_rfl)
          | 12, _, hd, hn =>
            obtain rfl : 83 = t := Option.some.inj hd
            exact made_exact (by decide) (by decide) (by decide) hn (by kernel_rfl)
          | 13, _, hd, hn =>
            obtain rfl : 96 = t := Option.some.inj hd
            exact made_exact (by decide) (by decide) (by decide) hn (by kernel_rfl)
          | 14, _, hd, hn =>
            obtain rfl : 97 = t := Option.some.inj hd
            exact made_exact (by decide) (by decide) (by decide) hn (by kernel_rfl)
          | 15, _, hd, hn =>
            obtain rfl : 98 = t := Option.some.inj hd
            exact made_exact (by decide) (by decide) (by decide) hn (by kernel_rfl)
          | 16, _, hd, hn =>
            obtain rfl : 19 = t := Option.some.inj hd
            exact h19
          | 17, _, hd, hn => cases hd
          | 18, _, hd, hn =>
            obtain rfl : 20 = t := Option.some.inj hd
            exact made_exact (by decide) (by decide) (by decide) hn (by kernel_rfl)
          | 19, _, hd, hn =>
            obtain rfl : 21 = t := Option.some.inj hd
            exact made_exact (by decide) (by decide) (by decide) hn (by kernel_rfl)
        ⟩
        rw [hbx]
        have HBZ := hide ((unhide HB).drew.trans (hI.mono (unhide HB).size))
        clear hbx hm h89 h19 hI HB hP3 h10s h10i hX hSA h11s hx3 hS10 hS11 hS1
        simp [putAll, dstAt, Act.put]
        go_wp2_with fail
        go_ret
        exact ⟨rfl, unhide HBZ⟩

theorem own : ownKnob Try.prog.godebug = none := by kernel_rfl
set_option maxRecDepth 100000 in
theorem lifted (os : Os) (started : os.Started) (H : Type) (enc : TypeId × Value → H) :
    ReturnsInHanded {} Try.checked os 9 .any (Rows.ip4OrderSpec.pre6 enc Try.prog Try.f9 Rows.ip4OrderRow.domain false) (Rows.ip4OrderSpec.post enc Try.prog Try.f9 false true false false) := by
  refine returnsInHanded_of_change_sized (C := Try.checked) own started (by kernel_rfl) Try.func9
    (ChangeSpec.witness6 (enc := enc) (C := Try.checked) false ⟨#[], #[.string ByteArray.empty, .int .u8 0], []⟩ 8 (by kernel_rfl) (by kernel_rfl) (by kernel_rfl) (by kernel_rfl)) ?_
  intro W base args ds gs before hval0 hW hcnd hsz _
  have hval : ∀ (j : Nat) t v, Try.f9.params[j]? = some t → args[j]? = some v → Value.okWide Try.prog W .any base t v := hval0
  have hW' := hW
  obtain ⟨p, q, hA0, hV, rfl, hfz, hnd⟩ := hW
  have hA : DataW.TrodAll enc Try.prog W 0 (fun _ => true) true Try.f9.params.toList args.toList ds p := hA0
  rw [Try.params9] at hA hval
  obtain ⟨v0, vs0, d0, ds0, p0, q0, hargs, rfl, rfl, h0, r0⟩ := trodAll_cons hA
  obtain ⟨v1, vs1, d1, ds1, p1, q1, rfl, rfl, rfl, h1, r1⟩ := trodAll_cons r0
  obtain ⟨rfl, rfl, rfl⟩ := trodAll_nil r1
  obtain rfl : args = #[v0, v1] := by cases args; simp_all
  obtain ⟨rfl, rfl⟩ := trodVars_none hV
  obtain ⟨a0, rfl, rfl, rfl, w0⟩ := open_string Try.underlying9 (hval 0 9 v0 rfl rfl) h0
  obtain ⟨a1, rfl, rfl, rfl, w1⟩ := open_int Try.underlying5 (hval 1 5 v1 rfl rfl) h1
  clear hA0 hval0
  simp only [List.append_nil] at hW'
  have z0 : a0.size ≤ 140737488351232 := by
    have hq : a0.data.toList.length ≤ reachBytes := sized_string hsz (j := 0) (t := 9) rfl rfl
    have e : a0.data.toList.length = a0.size := by rw [Array.length_toList]; rfl
    rw [e] at hq
    exact Nat.le_trans hq (by decide)
  refine (walk W a0 z0 a1 w1).mono fun e W' ⟨he, bel⟩ => ?_
  subst he
  exact ⟨_, rfl, _, _, _, [], _, [], hW', (trodAll_cons_mk (shut_bool Try.underlying4 _) trodAll_mk0), (trodAll_cons_mk (shut_string Try.underlying9 w0) (trodAll_cons_mk (shut_int Try.underlying5 w1) trodAll_mk0)), rfl, bel.frame _, fun h => by cases h⟩

theorem over : Rows.ip4OrderRow.holds Try.pinned (OpenSpec.ofChange Rows.ip4OrderSpec) :=
  OpenClaim.holds_of_wide 9 Try.f9 rfl rfl rfl rfl rfl rfl rfl ⟨rfl, rfl, rfl, rfl, rfl⟩ rfl rfl rfl rfl rfl (by kernel_rfl) Try.func9 (by kernel_rfl)
    (of_decide_eq_true (by kernel_rfl)) (by unfold Func.isWrapper; first | (rw [if_pos (by decide +kernel)]; kernel_rfl) | (rw [if_neg (by decide +kernel)]; exact ⟨rfl, rfl⟩))
    (fun os started H enc _ => lifted os started H enc)

theorem proved : Rows.Ip4OrderSaid := over
#print axioms proved
end Go.Proofs.Ytfppjpcolohmfaa.ip4Order
