/- take, sum, last. -/
import Derived.Test.YtbiilgdgmedpkaaSpRounds
namespace Go.Proofs.Ytbiilgdgmedpkaa
open Go.ChangeShapes Go.WideShapes Go.ChangeAt Go.RowKit Sp

set_option maxHeartbeats 1000000 in
theorem take_any (p : Nat) (s : St) (m : Sp.B) (w : World) (hr : Row w p (cel s.l)) :
    Calls Try.prog 15 #[.pointer (some ⟨p, 0, none⟩), .int .u64 (nn m)] w fun e w' => e = .returned (.tuple #[]) ∧ Row w' p (cel (inW s m).l) ∧ But [p] w w' := by
  obtain ⟨d1, e1, f1⟩ : ∃ x, bits .xor .u64 (nn s.d) (nn m) = nn x ∧ Hid (x = s.d ^^^ m) := ⟨_, xor_nn _ _, rfl⟩
  obtain ⟨t, ft⟩ : ∃ t, Hid (t = rndN 2 (inB s m)) := ⟨_, rfl⟩
  obtain ⟨a1, e2, f2⟩ : ∃ x, bits .xor .u64 (nn t.a) (nn m) = nn x ∧ Hid (x = t.a ^^^ m) := ⟨_, xor_nn _ _, rfl⟩
  have c3 := hr.cell 3 _ (cel_get (xs := s.l) (x := s.d) rfl)
  have g3 := hr.free 3
  have HR := hide hr
  clear hr
  go_enter Try.func15, Try.ntmps15
  go_wp2_with fail
  go_region
  have hr1 : Row (w.setCell ⟨p, 3, none⟩ (.int .u64 (nn d1))).drew p (cel (inB s m).l) := by
    have := (unhide HR).set 3 (.int .u64 (nn d1))
    rw [cel_set] at this
    unfold inB
    rw [← unhide f1]
    exact row_drew this
  have hb1 : But [p] w (w.setCell ⟨p, 3, none⟩ (.int .u64 (nn d1))).drew := ((But.of (Below.refl _ w)).setCell (List.mem_singleton.2 rfl) 3 _).drew
  generalize (w.setCell ⟨p, 3, none⟩ (.int .u64 (nn d1))).drew = V at *
  have HR1 := hide hr1
  have HB1 := hide hb1
  clear hr1 hb1 c3 g3
  go_wp2_with fail
  refine (rounds_any p 2 _ _ (by decide) (unhide HR1)).mono ?_
  rintro e w2 ⟨rfl, hr2, hb2⟩
  have hr2 : Row w2 p (cel t.l) := by rw [unhide ft]; exact hr2
  have HB2 := hide ((unhide HB1).trans hb2)
  have c0 := hr2.cell 0 _ (cel_get (xs := t.l) (x := t.a) rfl)
  have g0 := hr2.free 0
  have HR2 := hide hr2
  clear hr2 hb2
  go_wp2_with fail
  go_region
  have hr3 : Row (w2.setCell ⟨p, 0, none⟩ (.int .u64 (nn a1))).drew p (cel (inW s m).l) := by
    have := (unhide HR2).set 0 (.int .u64 (nn a1))
    rw [cel_set] at this
    unfold inW inA
    rw [← unhide ft, ← unhide f2]
    exact row_drew this
  have hb3 : But [p] w (w2.setCell ⟨p, 0, none⟩ (.int .u64 (nn a1))).drew := ((unhide HB2).setCell (List.mem_singleton.2 rfl) 0 _).drew
  generalize (w2.setCell ⟨p, 0, none⟩ (.int .u64 (nn a1))).drew = V2 at *
  have HR3 := hide hr3
  have HB3 := hide hb3
  clear hr3 hb3 c0 g0
  go_wp2_with fail
  go_end0
  exact ⟨rfl, unhide HR3, unhide HB3⟩

set_option maxHeartbeats 1000000 in
theorem sum_any (p : Nat) (s : St) (w : World) (hr : Row w p (cel s.l)) :
    Calls Try.prog 18 #[.pointer (some ⟨p, 0, none⟩)] w fun e w' => e = .returned (.int .u64 (nn (Sp.fin s))) ∧ But [p] w w' := by
  obtain ⟨c1, e1, f1⟩ : ∃ x, bits .xor .u64 (nn s.c) 255 = nn x ∧ Hid (x = s.c ^^^ 255#64) := ⟨_, xor_nn s.c 255#64, rfl⟩
  obtain ⟨t, ft⟩ : ∃ t, Hid (t = rndN 4 { s with c := c1 }) := ⟨_, rfl⟩
  have e2 : bits .xor .u64 0 (nn t.a) = nn t.a := by
    have := xor_nn 0#64 t.a
    rw [BitVec.zero_xor] at this
    exact this
  obtain ⟨x3, e3, f3⟩ : ∃ x, bits .xor .u64 (nn t.a) (nn t.b) = nn x ∧ Hid (x = t.a ^^^ t.b) := ⟨_, xor_nn _ _, rfl⟩
  obtain ⟨x4, e4, f4⟩ : ∃ x, bits .xor .u64 (nn x3) (nn t.c) = nn x ∧ Hid (x = x3 ^^^ t.c) := ⟨_, xor_nn _ _, rfl⟩
  obtain ⟨x5, e5, f5⟩ : ∃ x, bits .xor .u64 (nn x4) (nn t.d) = nn x ∧ Hid (x = x4 ^^^ t.d) := ⟨_, xor_nn _ _, rfl⟩
  have HF : Hid (Sp.fin s = x5) := by show _ = _; rw [unhide f5, unhide f4, unhide f3, unhide ft, unhide f1]; rfl
  have c3 := hr.cell 2 _ (cel_get (xs := s.l) (x := s.c) rfl)
  have g3 := hr.free 2
  have HR := hide hr
  clear hr
  go_enter Try.func18, Try.ntmps18
  go_wp2_with fail
  go_region
  have hr1 : Row (w.setCell ⟨p, 2, none⟩ (.int .u64 (nn c1))).drew p (cel ({ s with c := c1 } : St).l) := by
    have := (unhide HR).set 2 (.int .u64 (nn c1))
    rw [cel_set] at this
    exact row_drew this
  have hb1 : But [p] w (w.setCell ⟨p, 2, none⟩ (.int .u64 (nn c1))).drew := ((But.of (Below.refl _ w)).setCell (List.mem_singleton.2 rfl) 2 _).drew
  generalize (w.setCell ⟨p, 2, none⟩ (.int .u64 (nn c1))).drew = V at *
  have HR1 := hide hr1
  have HB1 := hide hb1
  clear hr1 hb1 c3 g3
  go_wp2_with fail
  refine (rounds_any p 4 _ _ (by decide) (unhide HR1)).mono ?_
  rintro e w2 ⟨rfl, hr2, hb2⟩
  have hr2 : Row w2 p (cel t.l) := by rw [unhide ft]; exact hr2
  have HB2 := hide ((unhide HB1).trans hb2)
  have k0 := hr2.cell 0 _ (cel_get (xs := t.l) (x := t.a) rfl)
  have k1 := hr2.cell 1 _ (cel_get (xs := t.l) (x := t.b) rfl)
  have k2 := hr2.cell 2 _ (cel_get (xs := t.l) (x := t.c) rfl)
  have k3 := hr2.cell 3 _ (cel_get (xs := t.l) (x := t.d) rfl)
  clear hr2 hb2 HR HR1
  go_wp2_with fail
  refine wp_loop_rounds 5 ?_
  rw [rounds_succ]
  go_wp2_with fail
  rw [rounds_succ]
  go_wp2_with fail
  rw [rounds_succ]
  go_wp2_with fail
  rw [rounds_succ]
  go_wp2_with fail
  rw [rounds_succ]
  go_wp2_with fail
  go_ret
  exact ⟨ret_u64 (by rw [unhide HF]), unhide HB2⟩

theorem ext_list (s : ByteArray) (a b : Nat) : (s.extract a b).data.toList = (s.data.toList.take b).drop a := by
  simp [ByteArray.data_extract, List.extract_eq_take_drop, List.drop_take]
theorem ext_drop (s : ByteArray) (k : Nat) : (s.extract k s.size).data.toList = s.data.toList.drop k := by
  rw [ext_list, List.take_of_length_le (by rw [len_eq]; exact Nat.le_refl _)]
theorem ext_size (s : ByteArray) (a b : Nat) (h : b ≤ s.size) : (s.extract a b).size = b - a := by
  rw [ByteArray.size_extract]; omega
theorem top_nn (n : Nat) : nn (BitVec.ofNat 64 (n % 256) <<< 56) = (n : Int) % 256 * 72057594037927936 := by
  have h := shl_nn (BitVec.ofNat 64 (n % 256)) 56
  rw [nn_ofNat _ (by omega), IntKind.wrap_u64] at h
  rw [← h]
  omega
theorem last_or (s : ByteArray) (X : Sp.B) (h : X = leB (s.data.toList.drop (s.size - s.size % 8))) : bits .or .u64 (nn X) ((s.size : Int) % 256 * 72057594037927936) = nn (lastW s) := by
  rw [← top_nn, or_nn, h]; rfl
set_option maxHeartbeats 1000000 in
theorem last_any (s : ByteArray) (w : World) (hs : s.size ≤ maxLen) :
    Calls Try.prog 17 #[.string s] w fun e w' => e = .returned (.int .u64 (nn (lastW s))) ∧ w' = w := by
  unfold maxLen at hs
  have hz : (s.extract (s.size - s.size % 8) s.size).size ≤ 8 := by rw [ext_size _ _ _ (Nat.le_refl _)]; omega
  obtain ⟨X, hX, HX⟩ : ∃ X, X = leB (s.data.toList.drop (s.size - s.size % 8)) ∧ Hid (∀ W, Calls Try.prog 16 #[.string (s.extract (s.size - s.size % 8) s.size)] W fun e w' => e = .returned (.int .u64 (nn X)) ∧ w' = W) :=
    ⟨_, rfl, fun W => by have h := number_any (s.extract (s.size - s.size % 8) s.size) W hz; rw [ext_drop] at h; exact h⟩
  have HL := hide (last_or s X hX)
  clear hz hX
  go_enter Try.func17, Try.ntmps17
  go_wp2_with fail
  refine (unhide HX _).mono ?_
  rintro e w1 ⟨rfl, rfl⟩
  go_wp2_with fail
  go_ret
  exact ⟨ret_u64 (unhide HL), rfl⟩
end Go.Proofs.Ytbiilgdgmedpkaa
