/- What broken and alike of the law's package do. -/
import Derived.Test.YtpjaajeojiaeiaaGreatDoorPkQuoB
import Derived.OpenShut
namespace Go.Proofs.YtpjaajeojiaeiaaGreatDoor
open Go.ChangeShapes Go.WideShapes Go.ChangeAt Go.RowKit

theorem hdrew' {V u : World} {B : Nat} (hb : Below B V.drew u) : Below B V u := ⟨hb.os, hb.tape, hb.output, hb.size, hb.block⟩
set_option maxRecDepth 100000 in
set_option maxHeartbeats 4000000 in
theorem broken_any (s : ByteArray) (a b : Int) (w : World) (h1 : 1 ≤ s.size) (h2 : s.size ≤ 1000) (ha : -9223372036854775808 ≤ a ∧ a ≤ 9223372036854775807) :
  Calls Tryz.prog 11 #[.string s, .int .i64 a, .int .u8 b] w fun e w' => ∃ t : ByteArray, e = .returned (.string t) ∧ t.size = s.size ∧ Below w.heap.size w w' := by
 have te : (s.toList == []) = false := by
  cases hs : s.toList with
  | nil =>
   have h0 : s.toList.length = 0 := by rw [hs]; rfl
   rw [ByteArray.toList_eq, Oct.len_eq] at h0
   omega
  | cons _ _ => rfl
 have te2 : s.toList ≠ [] := by simpa using te
 obtain ⟨A, hA, hA0⟩ : ∃ A : Int, ((decide (a < 0) = true ∧ -(a + 1) = A) ∨ (decide (a < 0) = false ∧ a = A)) ∧ 0 ≤ A := by
  by_cases h : a < 0
  ·exact ⟨-(a + 1), .inl ⟨by simpa using h, rfl⟩, by omega⟩
  ·exact ⟨a, .inr ⟨by simpa using h, rfl⟩, by omega⟩
 obtain ⟨R, hR, hR0, hR1⟩ : ∃ R : Int, A.tmod (s.size : Int) = R ∧ 0 ≤ R ∧ R < s.size := by
  refine ⟨_, rfl, ?_, ?_⟩
  ·rw [Int.tmod_eq_emod_of_nonneg hA0]; exact Int.emod_nonneg _ (by omega)
  ·rw [Int.tmod_eq_emod_of_nonneg hA0]; exact Int.emod_lt_of_pos _ (by omega)
 have hnz : ¬ ((s.size : Int) = 0) := by omega
 have hne0 : ¬ s = ByteArray.empty := fun h => by rw [h] at h1; exact absurd h1 (by decide)
 obtain ⟨c, V, hcv, hVb, hVt⟩ := conv_bytes s w
 have HBV := hide hVb
 have hgw : w.heap.size ≤ w.heap.size := Nat.le_refl _
 have HVt := hide hVt
 clear hVb hVt
 obtain ⟨g, hg⟩ : ∃ g, w.heap.size = g := ⟨_, rfl⟩
 rw [hg] at hcv HVt
 have hgw : w.heap.size ≤ g := by omega
 obtain ⟨Kn, hKn⟩ : ∃ Kn : Nat, R.toNat = Kn := ⟨_, rfl⟩
 have hK0 : 0 ≤ R := hR0
 have hK1 : R < s.size := hR1
 have hKlt : Kn < s.size := by omega
 have hon : ∀ {u : World}, Below V.heap.size V.drew u → Bts u g s.data.toList := fun {u} hb => (unhide HVt).on (hdrew' hb)
 have hlt : Kn < s.data.toList.length := by rw [Oct.len_eq]; omega
 have hbts : ∀ {u : World}, Below V.heap.size V.drew u → u.cell? ⟨g, Kn, none⟩ = some (.int .u8 ((s.data.toList.getD Kn 0).toNat : Int)) := fun {u} hb => (hon hb Kn hlt).1
 have hbtf : ∀ {u : World}, Below V.heap.size V.drew u → u.frozen? ⟨g, Kn, none⟩ = false := fun {u} hb => (hon hb Kn hlt).2
 obtain ⟨X, hX⟩ : ∃ X : Int, bits .xor .u8 ((s.data.toList.getD Kn 0).toNat : Int) b = X := ⟨_, rfl⟩
 have hXb := bounds_u8 (wf_bits .xor .u8 ((s.data.toList.getD Kn 0).toNat : Int) b)
 rw [hX] at hXb
 obtain ⟨hX0, hX1⟩ := hXb
 generalize hbK : ((s.data.toList.getD Kn 0).toNat : Int) = bK at *
 have HH := hide (And.intro hR (And.intro hnz (And.intro hKn hX)))
 have HON := hide (And.intro (fun u => @hon u) (And.intro (fun u => @hbts u) (fun u => @hbtf u)))
 rcases hA with ⟨hd, hA⟩ | ⟨hd, hA⟩
 ·go_enter Tryz.func11, Tryz.ntmps11
  go_wp2_with fail
  clear hcv
  refine wp_region_grow_store (by kernel_rfl) [.slice (some ⟨g, 0, none⟩) s.size c, .int .i64 A, .slice (some ⟨g, 0, none⟩) s.size c, .int .i64 s.size, .int .i64 R, .slice (some ⟨g, 0, none⟩) s.size c, .int .i64 A, .slice (some ⟨g, 0, none⟩) s.size c, .int .i64 s.size, .int .i64 R, .pointer (some ⟨g, Kn, none⟩), .int .u8 bK, .int .u8 b, .int .u8 X, .pointer (some ⟨g, Kn, none⟩), undef] 15 (fun v => v.setCell ⟨g, Kn, none⟩ (.int .u8 X)) (by kernel_rfl) (by decide) rfl ?op ?store ?fin
  case op =>
   intro i o bx u ho hne hbel hS
   match i, ho with
   | 0, ho =>
    obtain rfl := Option.some.inj ho
    have d7 : bx.tmps.getD 7 undef = .slice (some ⟨g, 0, none⟩) s.size c := hS.base 7
    refine .inl ⟨rfl, ends_value (c := .slice (some ⟨g, 0, none⟩) s.size c) ?_⟩
    simp [execOp, Act.eval, d7]
   | 1, ho =>
    obtain rfl := Option.some.inj ho
    have d1 : bx.tmps.getD 1 undef = .int .i64 A := hS.base 1
    refine .inl ⟨rfl, ends_value (c := .int .i64 A) ?_⟩
    simp [execOp, Act.eval, d1]
   | 2, ho =>
    obtain rfl := Option.some.inj ho
    have d7 : bx.tmps.getD 7 undef = .slice (some ⟨g, 0, none⟩) s.size c := hS.base 7
    refine .inl ⟨rfl, ends_value (c := .slice (some ⟨g, 0, none⟩) s.size c) ?_⟩
    simp [execOp, Act.eval, d7]
   | 3, ho =>
    obtain rfl := Option.some.inj ho
    have d20 : bx.tmps.getD 20 undef = .slice (some ⟨g, 0, none⟩) s.size c := hS.dep 2 20
    refine .inl ⟨rfl, ends_value (c := .int .i64 s.size) ?_⟩
    simp [Act.eval, d20, go_sem]
   | 4, ho =>
    obtain rfl := Option.some.inj ho
    have d19 : bx.tmps.getD 19 undef = .int .i64 A := hS.dep 1 19
    have d21 : bx.tmps.getD 21 undef = .int .i64 s.size := hS.dep 3 21
    refine .inl ⟨rfl, ends_value (c := .int .i64 R) ?_⟩
    simp [Act.eval, d19, d21, go_sem, hR, hne0]
   | 5, ho =>
    obtain rfl := Option.some.inj ho
    have d7 : bx.tmps.getD 7 undef = .slice (some ⟨g, 0, none⟩) s.size c := hS.base 7
    refine .inl ⟨rfl, ends_value (c := .slice (some ⟨g, 0, none⟩) s.size c) ?_⟩
    simp [execOp, Act.eval, d7]
   | 6, ho =>
    obtain rfl := Option.some.inj ho
    have d1 : bx.tmps.getD 1 undef = .int .i64 A := hS.base 1
    refine .inl ⟨rfl, ends_value (c := .int .i64 A) ?_⟩
    simp [execOp, Act.eval, d1]
   | 7, ho =>
    obtain rfl := Option.some.inj ho
    have d7 : bx.tmps.getD 7 undef = .slice (some ⟨g, 0, none⟩) s.size c := hS.base 7
    refine .inl ⟨rfl, ends_value (c := .slice (some ⟨g, 0, none⟩) s.size c) ?_⟩
    simp [execOp, Act.eval, d7]
   | 8, ho =>
    obtain rfl := Option.some.inj ho
    have d25 : bx.tmps.getD 25 undef = .slice (some ⟨g, 0, none⟩) s.size c := hS.dep 7 25
    refine .inl ⟨rfl, ends_value (c := .int .i64 s.size) ?_⟩
    simp [Act.eval, d25, go_sem]
   | 9, ho =>
    obtain rfl := Option.some.inj ho
    have d24 : bx.tmps.getD 24 undef = .int .i64 A := hS.dep 6 24
    have d26 : bx.tmps.getD 26 undef = .int .i64 s.size := hS.dep 8 26
    refine .inl ⟨rfl, ends_value (c := .int .i64 R) ?_⟩
    simp [Act.eval, d24, d26, go_sem, hR, hne0]
   | 10, ho =>
    obtain rfl := Option.some.inj ho
    have d23 : bx.tmps.getD 23 undef = .slice (some ⟨g, 0, none⟩) s.size c := hS.dep 5 23
    have d27 : bx.tmps.getD 27 undef = .int .i64 R := hS.dep 9 27
    refine .inl ⟨rfl, ends_value (c := .pointer (some ⟨g, Kn, none⟩)) ?_⟩
    simp [Act.eval, d23, d27, go_sem, hK0, hK1, hKn]
   | 11, ho =>
    obtain rfl := Option.some.inj ho
    have d28 : bx.tmps.getD 28 undef = .pointer (some ⟨g, Kn, none⟩) := hS.dep 10 28
    have hl := (hbts (hbel (by kernel_rfl)))
    refine .inl ⟨rfl, ends_value (c := .int .u8 bK) ?_⟩
    simp [Act.eval, d28, go_sem, hl]
   | 12, ho =>
    obtain rfl := Option.some.inj ho
    have d2 : bx.tmps.getD 2 undef = .int .u8 b := hS.base 2
    refine .inl ⟨rfl, ends_value (c := .int .u8 b) ?_⟩
    simp [execOp, Act.eval, d2]
   | 13, ho =>
    obtain rfl := Option.some.inj ho
    have d29 : bx.tmps.getD 29 undef = .int .u8 bK := hS.dep 11 29
    have d30 : bx.tmps.getD 30 undef = .int .u8 b := hS.dep 12 30
    refine .inl ⟨rfl, ends_value (c := .int .u8 X) ?_⟩
    simp [Act.eval, d29, d30, go_sem, hX]
   | 14, ho =>
    obtain rfl := Option.some.inj ho
    have d18 : bx.tmps.getD 18 undef = .slice (some ⟨g, 0, none⟩) s.size c := hS.dep 0 18
    have d22 : bx.tmps.getD 22 undef = .int .i64 R := hS.dep 4 22
    refine .inl ⟨rfl, ends_value (c := .pointer (some ⟨g, Kn, none⟩)) ?_⟩
    simp [Act.eval, d18, d22, go_sem, hK0, hK1, hKn]
   | 15, _ => exact absurd rfl hne
   | n + 16, ho => exact absurd ho (by simp)
  case store =>
   intro o bx u ho hbel hS
   obtain rfl := Option.some.inj ho
   have d32 : bx.tmps.getD 32 undef = .pointer (some ⟨g, Kn, none⟩) := hS.dep 14 32
   have d31 : bx.tmps.getD 31 undef = .int .u8 X := hS.dep 13 31
   have hs1 := hbts hbel
   have hs2 := hbtf hbel
   refine ⟨rfl, ?_⟩
   simp [Act.eval, d32, d31, go_sem, hs1, hs2]
  case fin =>
   intro u hbel
   simp [putAll, dstAt, Act.put]
   have hB2 : Bts (u.setCell ⟨g, Kn, none⟩ (.int .u8 X)) g (s.data.toList.set Kn (UInt8.ofNat X.toNat)) := (hon hbel).set Kn (by rw [Oct.len_eq]; omega) X hX0 (by omega)
   have hbz : Below w.heap.size w (u.setCell ⟨g, Kn, none⟩ (.int .u8 X)) := ((unhide HBV).drew.trans (hbel.mono (unhide HBV).size)).setCell (p := ⟨g, Kn, none⟩) (by show _ ≤ g; exact hgw) _
   generalize u.setCell ⟨g, Kn, none⟩ (.int .u8 X) = Z at *
   have hlen : (s.data.toList.set Kn (UInt8.ofNat X.toNat)).length = s.size := by rw [List.length_set, Oct.len_eq]
   have htx := hB2.text c
   rw [hlen] at htx
   have hsz : (⟨(s.data.toList.set Kn (UInt8.ofNat X.toNat)).toArray⟩ : ByteArray).size = s.size := by rw [← Oct.len_eq]; exact hlen
   have HBZ := hide hbz
   have HSZ := hide hsz
   clear hB2 hbz hbel hon hbts hbtf hlen hsz
   generalize (⟨(s.data.toList.set Kn (UInt8.ofNat X.toNat)).toArray⟩ : ByteArray) = x at *
   go_wp2_with fail
   go_ret
   exact ⟨_, rfl, unhide HSZ, unhide HBZ⟩
 ·subst hA
  go_enter Tryz.func11, Tryz.ntmps11
  go_wp2_with fail
  clear hcv
  refine wp_region_grow_store (by kernel_rfl) [.slice (some ⟨g, 0, none⟩) s.size c, .int .i64 a, .slice (some ⟨g, 0, none⟩) s.size c, .int .i64 s.size, .int .i64 R, .slice (some ⟨g, 0, none⟩) s.size c, .int .i64 a, .slice (some ⟨g, 0, none⟩) s.size c, .int .i64 s.size, .int .i64 R, .pointer (some ⟨g, Kn, none⟩), .int .u8 bK, .int .u8 b, .int .u8 X, .pointer (some ⟨g, Kn, none⟩), undef] 15 (fun v => v.setCell ⟨g, Kn, none⟩ (.int .u8 X)) (by kernel_rfl) (by decide) rfl ?op ?store ?fin
  case op =>
   intro i o bx u ho hne hbel hS
   match i, ho with
   | 0, ho =>
    obtain rfl := Option.some.inj ho
    have d7 : bx.tmps.getD 7 undef = .slice (some ⟨g, 0, none⟩) s.size c := hS.base 7
    refine .inl ⟨rfl, ends_value (c := .slice (some ⟨g, 0, none⟩) s.size c) ?_⟩
    simp [execOp, Act.eval, d7]
   | 1, ho =>
    obtain rfl := Option.some.inj ho
    have d1 : bx.tmps.getD 1 undef = .int .i64 a := hS.base 1
    refine .inl ⟨rfl, ends_value (c := .int .i64 a) ?_⟩
    simp [execOp, Act.eval, d1]
   | 2, ho =>
    obtain rfl := Option.some.inj ho
    have d7 : bx.tmps.getD 7 undef = .slice (some ⟨g, 0, none⟩) s.size c := hS.base 7
    refine .inl ⟨rfl, ends_value (c := .slice (some ⟨g, 0, none⟩) s.size c) ?_⟩
    simp [execOp, Act.eval, d7]
   | 3, ho =>
    obtain rfl := Option.some.inj ho
    have d20 : bx.tmps.getD 20 undef = .slice (some ⟨g, 0, none⟩) s.size c := hS.dep 2 20
    refine .inl ⟨rfl, ends_value (c := .int .i64 s.size) ?_⟩
    simp [Act.eval, d20, go_sem]
   | 4, ho =>
    obtain rfl := Option.some.inj ho
    have d19 : bx.tmps.getD 19 undef = .int .i64 a := hS.dep 1 19
    have d21 : bx.tmps.getD 21 undef = .int .i64 s.size := hS.dep 3 21
    refine .inl ⟨rfl, ends_value (c := .int .i64 R) ?_⟩
    simp [Act.eval, d19, d21, go_sem, hR, hne0]
   | 5, ho =>
    obtain rfl := Option.some.inj ho
    have d7 : bx.tmps.getD 7 undef = .slice (some ⟨g, 0, none⟩) s.size c := hS.base 7
    refine .inl ⟨rfl, ends_value (c := .slice (some ⟨g, 0, none⟩) s.size c) ?_⟩
    simp [execOp, Act.eval, d7]
   | 6, ho =>
    obtain rfl := Option.some.inj ho
    have d1 : bx.tmps.getD 1 undef = .int .i64 a := hS.base 1
    refine .inl ⟨rfl, ends_value (c := .int .i64 a) ?_⟩
    simp [execOp, Act.eval, d1]
   | 7, ho =>
    obtain rfl := Option.some.inj ho
    have d7 : bx.tmps.getD 7 undef = .slice (some ⟨g, 0, none⟩) s.size c := hS.base 7
    refine .inl ⟨rfl, ends_value (c := .slice (some ⟨g, 0, none⟩) s.size c) ?_⟩
    simp [execOp, Act.eval, d7]
   | 8, ho =>
    obtain rfl := Option.some.inj ho
    have d25 : bx.tmps.getD 25 undef = .slice (some ⟨g, 0, none⟩) s.size c := hS.dep 7 25
    refine .inl ⟨rfl, ends_value (c := .int .i64 s.size) ?_⟩
    simp [Act.eval, d25, go_sem]
   | 9, ho =>
    obtain rfl := Option.some.inj ho
    have d24 : bx.tmps.getD 24 undef = .int .i64 a := hS.dep 6 24
    have d26 : bx.tmps.getD 26 undef = .int .i64 s.size := hS.dep 8 26
    refine .inl ⟨rfl, ends_value (c := .int .i64 R) ?_⟩
    simp [Act.eval, d24, d26, go_sem, hR, hne0]
   | 10, ho =>
    obtain rfl := Option.some.inj ho
    have d23 : bx.tmps.getD 23 undef = .slice (some ⟨g, 0, none⟩) s.size c := hS.dep 5 23
    have d27 : bx.tmps.getD 27 undef = .int .i64 R := hS.dep 9 27
    refine .inl ⟨rfl, ends_value (c := .pointer (some ⟨g, Kn, none⟩)) ?_⟩
    simp [Act.eval, d23, d27, go_sem, hK0, hK1, hKn]
   | 11, ho =>
    obtain rfl := Option.some.inj ho
    have d28 : bx.tmps.getD 28 undef = .pointer (some ⟨g, Kn, none⟩) := hS.dep 10 28
    have hl := (hbts (hbel (by kernel_rfl)))
    refine .inl ⟨rfl, ends_value (c := .int .u8 bK) ?_⟩
    simp [Act.eval, d28, go_sem, hl]
   | 12, ho =>
    obtain rfl := Option.some.inj ho
    have d2 : bx.tmps.getD 2 undef = .int .u8 b := hS.base 2
    refine .inl ⟨rfl, ends_value (c := .int .u8 b) ?_⟩
    simp [execOp, Act.eval, d2]
   | 13, ho =>
    obtain rfl := Option.some.inj ho
    have d29 : bx.tmps.getD 29 undef = .int .u8 bK := hS.dep 11 29
    have d30 : bx.tmps.getD 30 undef = .int .u8 b := hS.dep 12 30
    refine .inl ⟨rfl, ends_value (c := .int .u8 X) ?_⟩
    simp [Act.eval, d29, d30, go_sem, hX]
   | 14, ho =>
    obtain rfl := Option.some.inj ho
    have d18 : bx.tmps.getD 18 undef = .slice (some ⟨g, 0, none⟩) s.size c := hS.dep 0 18
    have d22 : bx.tmps.getD 22 undef = .int .i64 R := hS.dep 4 22
    refine .inl ⟨rfl, ends_value (c := .pointer (some ⟨g, Kn, none⟩)) ?_⟩
    simp [Act.eval, d18, d22, go_sem, hK0, hK1, hKn]
   | 15, _ => exact absurd rfl hne
   | n + 16, ho => exact absurd ho (by simp)
  case store =>
   intro o bx u ho hbel hS
   obtain rfl := Option.some.inj ho
   have d32 : bx.tmps.getD 32 undef = .pointer (some ⟨g, Kn, none⟩) := hS.dep 14 32
   have d31 : bx.tmps.getD 31 undef = .int .u8 X := hS.dep 13 31
   have hs1 := hbts hbel
   have hs2 := hbtf hbel
   refine ⟨rfl, ?_⟩
   simp [Act.eval, d32, d31, go_sem, hs1, hs2]
  case fin =>
   intro u hbel
   simp [putAll, dstAt, Act.put]
   have hB2 : Bts (u.setCell ⟨g, Kn, none⟩ (.int .u8 X)) g (s.data.toList.set Kn (UInt8.ofNat X.toNat)) := (hon hbel).set Kn (by rw [Oct.len_eq]; omega) X hX0 (by omega)
   have hbz : Below w.heap.size w (u.setCell ⟨g, Kn, none⟩ (.int .u8 X)) := ((unhide HBV).drew.trans (hbel.mono (unhide HBV).size)).setCell (p := ⟨g, Kn, none⟩) (by show _ ≤ g; exact hgw) _
   generalize u.setCell ⟨g, Kn, none⟩ (.int .u8 X) = Z at *
   have hlen : (s.data.toList.set Kn (UInt8.ofNat X.toNat)).length = s.size := by rw [List.length_set, Oct.len_eq]
   have htx := hB2.text c
   rw [hlen] at htx
   have hsz : (⟨(s.data.toList.set Kn (UInt8.ofNat X.toNat)).toArray⟩ : ByteArray).size = s.size := by rw [← Oct.len_eq]; exact hlen
   have HBZ := hide hbz
   have HSZ := hide hsz
   clear hB2 hbz hbel hon hbts hbtf hlen hsz
   generalize (⟨(s.data.toList.set Kn (UInt8.ofNat X.toNat)).toArray⟩ : ByteArray) = x at *
   go_wp2_with fail
   go_ret
   exact ⟨_, rfl, unhide HSZ, unhide HBZ⟩
end Go.Proofs.YtpjaajeojiaeiaaGreatDoor
