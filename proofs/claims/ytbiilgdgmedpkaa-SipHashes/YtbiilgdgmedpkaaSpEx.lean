/- examples and sixteen of the law's package. -/
import Derived.Test.YtbiilgdgmedpkaaSpBytes
namespace Go.Proofs.Ytbiilgdgmedpkaa
open Go.ChangeShapes Go.WideShapes Go.ChangeAt Go.RowKit Sp

set_option maxHeartbeats 2000000 in
theorem examples_any (w : World) :
    Calls Try.prog 8 #[] w fun e w' => e = .returned (.bool true) ∧ Below w.heap.size w w' := by
  have hmk := make_run 16 (by decide) (by decide) w
  have HT16 : Hid (∀ W g, Bts W g (exL 16) → (convert 31 9 (.slice (some ⟨g, 0, none⟩) 16 16)).run Try.prog W = .ok (.string ex16) W) := fun W g h => text_of h (exL_length _) 16
  have HT15 : Hid (∀ W g, Bts W g (exL 16) → (convert 31 9 (.slice (some ⟨g, 0, none⟩) 15 16)).run Try.prog W = .ok (.string ex15) W) := fun W g h => text_of (h.take 15) (by rw [List.length_take, exL_length]; rfl) 16
  have HX : Hid (∀ u, Calls Try.prog 10 #[.string ex16, .string ex15] u fun e u' => e = .returned (.tuple #[.int .u64 11613035633349379557, .bool true]) ∧ Below u.heap.size u u') := fun u => by
    have h := hash_any ex16 ex15 u (by decide)
    rw [ex_hash] at h
    exact h
  go_enter Try.func8, Try.ntmps8
  go_wp2_with fail
  have hbt0 := made_bts w 16
  have hbl0 : Below w.heap.size w (w.alloc (.cells (madeCells #[.int .u8 0] 16) 5)) := (Below.refl _ _).alloc (Nat.le_refl _) _
  rw [← exL_zero] at hbt0
  have HT := hide hbt0
  have HB := hide hbl0
  have HG : Hid (w.heap.size ≤ w.heap.size) := Nat.le_refl _
  clear hbt0 hbl0 hmk
  generalize w.alloc (.cells (madeCells #[.int .u8 0] 16) 5) = W0 at *
  obtain ⟨g, hg⟩ : ∃ g, w.heap.size = g := ⟨_, rfl⟩
  have HG : Hid (w.heap.size ≤ g) := by rw [← hg]; exact Nat.le_refl _
  rw [hg] at HT
  simp only [hg]
  clear hg
  go_loopw [2] (fun t W => ∃ i : Nat, i ≤ 16 ∧ t = .int .i64 i ∧ Bts W g (exL i) ∧ Below w.heap.size w W) (fun t _ => 16 - (intOf t).toNat)
  case atStart => exact ⟨0, Nat.zero_le _, rfl, unhide HT, unhide HB⟩
  case round =>
    obtain ⟨i, hi, rfl, hT, hb⟩ := hrel
    clear HT HB
    by_cases hlt : i < 16
    · have hlt' : (i : Int) < 16 := by omega
      have hlt2 : ¬ (16 : Int) ≤ i := by omega
      have hw8 : IntKind.u8.wrap (i : Int) = i := by rw [IntKind.wrap_u8']; omega
      have hc := (hT i (by rw [exL_length]; exact hlt)).1
      have hf := (hT i (by rw [exL_length]; exact hlt)).2
      have hT2 := hT.set i (by rw [exL_length]; exact hlt) (i : Int) (by omega) (by omega)
      rw [exL_set i hlt] at hT2
      have HT2 := hide hT2
      have HB2 := hide (hb.setCell (p := ⟨g, i, none⟩) (unhide HG) (.int .u8 (i : Int)))
      clear hT hT2 hb
      go_wp2_with fail
      go_roundw
      case rel => exact ⟨i + 1, by omega, by go_num, unhide HT2, unhide HB2⟩
      case measure => simp [intOf]; omega
    · obtain rfl : i = 16 := by omega
      have hd : decide (((16 : Nat) : Int) < 16) = false := by decide
      have HT : Hid (Bts wr.drew g (exL 16)) := hT.drew
      have HB := hide hb
      clear hT hb
      go_wp2_with fail
      refine wp_region_grow (by kernel_rfl) [.slice (some ⟨g, 0, none⟩) 16 16, .string ex16, .slice (some ⟨g, 0, none⟩) 16 16, .slice (some ⟨g, 0, none⟩) 15 16, .string ex15, .tuple #[.int .u64 11613035633349379557, .bool true], .tuple #[.int .u64 11613035633349379557, .bool true], .int .u64 11613035633349379557, .bool true, .int .u64 11613035633349379557, .bool true] (by kernel_rfl) ?op ?fin
      case op =>
        intro i o bx u ho hbel hS
        match i, ho with
        | 0, ho =>
          obtain rfl := Option.some.inj ho
          have d1 : bx.tmps.getD 1 undef = .slice (some ⟨g, 0, none⟩) 16 16 := hS.base 1 (by kernel_rfl)
          refine .inl ⟨rfl, ends_value' (c := .slice (some ⟨g, 0, none⟩) 16 16) ?_⟩
          simp [execOp, Act.eval, d1]
        | 1, ho =>
          obtain rfl := Option.some.inj ho
          have d18 : bx.tmps.getD 18 undef = .slice (some ⟨g, 0, none⟩) 16 16 := hS.dep 0 18 (by kernel_rfl) (by kernel_rfl)
          have hl := (unhide HT16) u g ((unhide HT).on hbel)
          refine .inl ⟨rfl, ends_value' (c := .string ex16) ?_⟩
          simp [Act.eval, d18, go_sem, hl]
        | 2, ho =>
          obtain rfl := Option.some.inj ho
          have d1 : bx.tmps.getD 1 undef = .slice (some ⟨g, 0, none⟩) 16 16 := hS.base 1 (by kernel_rfl)
          refine .inl ⟨rfl, ends_value' (c := .slice (some ⟨g, 0, none⟩) 16 16) ?_⟩
          simp [execOp, Act.eval, d1]
        | 3, ho =>
          obtain rfl := Option.some.inj ho
          have d20 : bx.tmps.getD 20 undef = .slice (some ⟨g, 0, none⟩) 16 16 := hS.dep 2 20 (by kernel_rfl) (by kernel_rfl)
          refine .inl ⟨rfl, ends_value' (c := .slice (some ⟨g, 0, none⟩) 15 16) ?_⟩
          simp [Act.eval, d20, go_sem]
        | 4, ho =>
          obtain rfl := Option.some.inj ho
          have d21 : bx.tmps.getD 21 undef = .slice (some ⟨g, 0, none⟩) 15 16 := hS.dep 3 21 (by kernel_rfl) (by kernel_rfl)
          have hl := (unhide HT15) u g ((unhide HT).on hbel)
          refine .inl ⟨rfl, ends_value' (c := .string ex15) ?_⟩
          simp [Act.eval, d21, go_sem, hl]
        | 5, ho =>
          obtain rfl := Option.some.inj ho
          have d19 : bx.tmps.getD 19 undef = .string ex16 := hS.dep 1 19 (by kernel_rfl) (by kernel_rfl)
          have d22 : bx.tmps.getD 22 undef = .string ex15 := hS.dep 4 22 (by kernel_rfl) (by kernel_rfl)
          refine .inl ⟨rfl, ends_call' (c := .tuple #[.int .u64 11613035633349379557, .bool true]) (f := 10) (args := #[.string ex16, .string ex15]) ?_ (unhide HX u)⟩
          simp [Act.eval, d19, d22, go_sem]
        | 6, ho =>
          obtain rfl := Option.some.inj ho
          have d23 : bx.tmps.getD 23 undef = .tuple #[.int .u64 11613035633349379557, .bool true] := hS.dep 5 23 (by kernel_rfl) (by kernel_rfl)
          refine .inl ⟨rfl, ends_value' (c := .tuple #[.int .u64 11613035633349379557, .bool true]) ?_⟩
          simp [execOp, Act.eval, d23]
        | 7, ho =>
          obtain rfl := Option.some.inj ho
          have d17 : bx.tmps.getD 17 undef = .tuple #[.int .u64 11613035633349379557, .bool true] := hS.dep 6 17 (by kernel_rfl) (by kernel_rfl)
          refine .inl ⟨rfl, ends_value' (c := .int .u64 11613035633349379557) ?_⟩
          simp [Act.eval, d17, go_sem]
        | 8, ho =>
          obtain rfl := Option.some.inj ho
          have d17 : bx.tmps.getD 17 undef = .tuple #[.int .u64 11613035633349379557, .bool true] := hS.dep 6 17 (by kernel_rfl) (by kernel_rfl)
          refine .inl ⟨rfl, ends_value' (c := .bool true) ?_⟩
          simp [Act.eval, d17, go_sem]
        | 9, ho =>
          obtain rfl := Option.some.inj ho
          have d24 : bx.tmps.getD 24 undef = .int .u64 11613035633349379557 := hS.dep 7 24 (by kernel_rfl) (by kernel_rfl)
          refine .inl ⟨rfl, ends_value' (c := .int .u64 11613035633349379557) ?_⟩
          simp [execOp, Act.eval, d24]
        | 10, ho =>
          obtain rfl := Option.some.inj ho
          have d25 : bx.tmps.getD 25 undef = .bool true := hS.dep 8 25 (by kernel_rfl) (by kernel_rfl)
          refine .inl ⟨rfl, ends_value' (c := .bool true) ?_⟩
          simp [execOp, Act.eval, d25]
        | n + 11, ho => exact absurd ho (by simp)
      case fin =>
        intro u hbel
        simp [putAll, dstAt, Act.put]
        have HB := hide (Below.then (unhide HB).drew hbel)
        clear hbel
        go_wp2_with fail
        refine (hash_any exShort ⟨#[]⟩ _ (by decide)).mono ?_
        rintro e w2 ⟨rfl, hb2⟩
        have HB := hide (Below.then (unhide HB) hb2)
        clear hb2
        go_wp2_with fail
        go_ret
        exact ⟨rfl, unhide HB⟩


set_option maxHeartbeats 2000000 in
theorem sixteen_any (s : ByteArray) (w : World) :
    Calls Try.prog 9 #[.string s] w fun e w' => ∃ K : ByteArray, e = .returned (.string K) ∧ K.size = 16 ∧ Below w.heap.size w w' := by
  have hmk := make_run 16 (by decide) (by decide) w
  go_enter Try.func9, Try.ntmps9
  go_wp2_with fail
  have hbt0 := made_bts w 16
  have hbl0 : Below w.heap.size w (w.alloc (.cells (madeCells #[.int .u8 0] 16) 5)) := (Below.refl _ _).alloc (Nat.le_refl _) _
  have HT := hide hbt0
  have HB := hide hbl0
  clear hbt0 hbl0 hmk
  generalize w.alloc (.cells (madeCells #[.int .u8 0] 16) 5) = W0 at *
  obtain ⟨g, hg⟩ : ∃ g, w.heap.size = g := ⟨_, rfl⟩
  have HG : Hid (w.heap.size ≤ g) := by rw [← hg]; exact Nat.le_refl _
  rw [hg] at HT
  simp only [hg]
  clear hg
  go_loopw [4] (fun t W => ∃ i : Nat, i ≤ 16 ∧ t = .int .i64 i ∧ (∃ L : List UInt8, L.length = 16 ∧ Bts W g L) ∧ Below w.heap.size w W) (fun t _ => 16 - (intOf t).toNat)
  case atStart => exact ⟨0, Nat.zero_le _, rfl, ⟨_, by simp, unhide HT⟩, unhide HB⟩
  case round =>
    obtain ⟨i, hi, rfl, ⟨L, hL, hT⟩, hb⟩ := hrel
    clear HT HB
    have done : ∀ W, Bts W g L → (convert 31 9 (.slice (some ⟨g, 0, none⟩) 16 16)).run Try.prog W = .ok (.string ⟨L.toArray⟩) W := fun W h => text_of h hL 16
    have hKs : (ByteArray.mk L.toArray).size = 16 := by rw [mk_size, hL]
    by_cases hlt : i < 16
    · have hlt' : (i : Int) < 16 := by omega
      have hlt2 : ¬ (16 : Int) ≤ i := by omega
      by_cases hls : i < s.size
      · have hls' : (i : Int) < s.size := by omega
        have hc := (hT i (by rw [hL]; exact hlt)).1
        have hf := (hT i (by rw [hL]; exact hlt)).2
        have hb0 := s[i].toNat_lt
        have hT2 := hT.set i (by rw [hL]; exact hlt) (s[i].toNat : Int) (by omega) (by omega)
        have HT2 : Hid (∃ L' : List UInt8, L'.length = 16 ∧ Bts (wr.setCell ⟨g, i, none⟩ (.int .u8 (s[i].toNat : Int))) g L') := ⟨_, by rw [List.length_set]; exact hL, hT2⟩
        have HB2 := hide (hb.setCell (p := ⟨g, i, none⟩) (unhide HG) (.int .u8 (s[i].toNat : Int)))
        clear hT hT2 hb done hKs hb0
        go_wp2_with fail
        go_roundw
        case rel => exact ⟨i + 1, by omega, by go_num, unhide HT2, unhide HB2⟩
        case measure => simp [intOf]; omega
      · have hls' : decide ((i : Int) < s.size) = false := by simp; omega
        have hcv := done wr hT
        have HB := hide hb
        have HT := hide hT
        clear hb hT done
        generalize (ByteArray.mk L.toArray) = K at *
        go_wp2_with fail
        go_ret
        exact ⟨K, rfl, hKs, unhide HB⟩
    · have hd : decide ((i : Int) < 16) = false := by simp; omega
      have hcv := done wr hT
      have HB := hide hb
      have HT := hide hT
      clear hb hT done
      generalize (ByteArray.mk L.toArray) = K at *
      go_wp2_with fail
      go_ret
      exact ⟨K, rfl, hKs, unhide HB⟩
end Go.Proofs.Ytbiilgdgmedpkaa
