/- What the reference computes of a text: its words as a list, Sum and Check. -/
import Derived.Test.YtmeafeomfblncaaCkRef
import Derived.Test.YtmeafeomfblncaaCkSum
namespace Go.Proofs.Ytmeafeomfblncaa
open Go.ChangeShapes Go.WideShapes Go.ChangeAt Go.RowKit

def wlist (s : ByteArray) (k : Nat) : List Int := (List.range k).map (Ck.word s.data.toList)
theorem wlist_succ (s : ByteArray) (k : Nat) : wlist s (k + 1) = wlist s k ++ [Ck.word s.data.toList k] := by simp [wlist, List.range_succ]
theorem wlist_length (s : ByteArray) (k : Nat) : (wlist s k).length = k := by simp [wlist]
theorem info_int : (Try.prog.info? 3).map (fun i => (i.zero, i.size, i.bytes)) = some (some (.int .i64 0), 1, 8) := by kernel_rfl
theorem word_two (s : ByteArray) (k : Nat) (h : 2 * k + 1 < s.size) : Ck.word s.data.toList k = 256 * (s[2 * k].toNat : Int) + (s[2 * k + 1].toNat : Int) := by
  have hl := Oct.len_eq s
  unfold Ck.word
  rw [List.getD_eq_getElem?_getD, List.getD_eq_getElem?_getD, List.getElem?_eq_getElem (by omega), List.getElem?_eq_getElem (by omega)]
  show ((s[2 * k].toNat : Nat) : Int) * 256 + ((s[2 * k + 1].toNat : Nat) : Int) = _
  omega
theorem word_one (s : ByteArray) (k : Nat) (h : 2 * k < s.size) (h2 : ¬ 2 * k + 1 < s.size) : Ck.word s.data.toList k = 256 * (s[2 * k].toNat : Int) := by
  have hl := Oct.len_eq s
  unfold Ck.word
  rw [List.getD_eq_getElem?_getD, List.getD_eq_getElem?_getD, List.getElem?_eq_getElem (by omega), List.getElem?_eq_none (by omega)]
  show ((s[2 * k].toNat : Nat) : Int) * 256 + 0 = _
  omega

theorem words_rel (s : ByteArray) (k : Nat) (x : Int) (v v' : Value) (w wr w1 : World) (hx : Ck.word s.data.toList k = x)
    (hown : wr.ownsRow w.heap.size 3 1 v k ((wlist s k).map (Value.int .i64))) (hbl : Below w.heap.size w wr)
    (hown' : w1.ownsRow w.heap.size 3 1 v' (k + 1) ((wlist s k).map (Value.int .i64) ++ [.int .i64 x])) (hgrow : (wr.alloc (.cells #[.int .i64 x] 3)).grownBy w1 v.ownBlock) :
    w1.ownsRow w.heap.size 3 1 v' (k + 1) ((wlist s (k + 1)).map (Value.int .i64)) ∧ Below w.heap.size w w1 := by
  refine ⟨by rw [wlist_succ, List.map_append, hx]; exact hown', ?_⟩
  exact (hbl.alloc hbl.size _).grown hgrow (by simp; have := hbl.size; omega) (fun j e => (hown.lt j e).1)

set_option maxRecDepth 100000 in
set_option maxHeartbeats 1000000 in
theorem rwords_any (s : ByteArray) (w : World) (hs : s.size ≤ 1048576) :
    Calls Try.prog 43 #[.string s] w fun e w' => ∃ v, e = .returned v ∧ w'.ownsRow w.heap.size 3 1 v (Ck.wcount s.data.toList) ((wlist s (Ck.wcount s.data.toList)).map (Value.int .i64)) ∧ Below w.heap.size w w' := by
  obtain ⟨i0, hi, hz0, hz1, hz2⟩ := info_parts info_int
  go_enter Try.func43, Try.ntmps43
  go_wp2
  go_loopw [3, 4] (fun v i wr => ∃ k : Nat, k ≤ (s.size + 1) / 2 ∧ i = .int .i64 (2 * (k : Int)) ∧ wr.ownsRow w.heap.size 3 1 v k ((wlist s k).map (Value.int .i64)) ∧ Below w.heap.size w wr) (fun _ i _ => s.size + 1 - (intOf i).toNat)
  case atStart => exact ⟨0, Nat.zero_le _, rfl, World.ownsRow_nil _ _ _ _, Below.refl _ _⟩
  case round =>
    obtain ⟨k, hk, rfl, hown, hbl⟩ := hrel
    by_cases hlt : 2 * (k : Int) < s.size
    · have hk1 : 2 * k < s.size := by omega
      have y0 : (s[2 * k].toNat : Int) < 256 := by have := s[2 * k].toNat_lt; omega
      by_cases hlt2 : 2 * (k : Int) + 1 < s.size
      · have hk2 : 2 * k + 1 < s.size := by omega
        have y1 : (s[2 * k + 1].toNat : Int) < 256 := by have := s[2 * k + 1].toNat_lt; omega
        have HW : Hid (Ck.word s.data.toList k = 256 * (s[2 * k].toNat : Int) + (s[2 * k + 1].toNat : Int)) := word_two s k hk2
        go_wp2_with (at_builtin; refine wpList_append_own _ rfl _ _ 63 rfl w.heap.size 3 i0 (.int .i64 0) 1 8 Try.underlying63 hi hz0 hz1 hz2 rfl (by decide) _ _ _ rfl (hown.alloc _) ⟨wr.heap.size, 0, none⟩ 1 1 [.int .i64 (256 * (s[2 * k].toNat : Int) + (s[2 * k + 1].toNat : Int))] rfl rfl ?c1 ?c2 ?c3 ?c4 ?c5 ?_)
        case c1 =>
          intro j u hj
          match j, hj with
          | 0, hj => simp at hj; subst hj; simp [Addr.add]
        case c2 => intro u hu; simp at hu; subst hu; rfl
        case c3 => unfold maxLen; omega
        case c4 => omega
        case c5 => have := hbl.size; simp; omega
        intro v' w1 hown' hgrow _
        have hrel' := words_rel s k _ _ _ w wr w1 HW.out hown hbl hown' hgrow
        have HR := hide hrel'
        clear hrel' hown' hgrow hown hbl
        go_wp2_with fail
        go_roundw
        case rel => exact ⟨k + 1, by omega, by go_num, (unhide HR).1, (unhide HR).2⟩
        case measure => simp [intOf]; omega
      · have hd : decide (2 * (k : Int) + 1 < s.size) = false := by simpa using hlt2
        have HW : Hid (Ck.word s.data.toList k = 256 * (s[2 * k].toNat : Int)) := word_one s k hk1 (by omega)
        go_wp2_with (at_builtin; refine wpList_append_own _ rfl _ _ 63 rfl w.heap.size 3 i0 (.int .i64 0) 1 8 Try.underlying63 hi hz0 hz1 hz2 rfl (by decide) _ _ _ rfl (hown.alloc _) ⟨wr.heap.size, 0, none⟩ 1 1 [.int .i64 (256 * (s[2 * k].toNat : Int))] rfl rfl ?c1 ?c2 ?c3 ?c4 ?c5 ?_)
        case c1 =>
          intro j u hj
          match j, hj with
          | 0, hj => simp at hj; subst hj; simp [Addr.add]
        case c2 => intro u hu; simp at hu; subst hu; rfl
        case c3 => unfold maxLen; omega
        case c4 => omega
        case c5 => have := hbl.size; simp; omega
        intro v' w1 hown' hgrow _
        have hrel' := words_rel s k _ _ _ w wr w1 HW.out hown hbl hown' hgrow
        have HR := hide hrel'
        clear hrel' hown' hgrow hown hbl
        go_wp2_with fail
        go_roundw
        case rel => exact ⟨k + 1, by omega, by go_num, (unhide HR).1, (unhide HR).2⟩
        case measure => simp [intOf]; omega
    · have hd : decide (2 * (k : Int) < s.size) = false := by simpa using hlt
      have HK : Hid (k = Ck.wcount s.data.toList) := by show _ = _; rw [wc]; omega
      go_wp2_with fail
      go_ret
      exact ⟨_, rfl, by rw [← HK.out]; exact hown, hbl⟩

theorem own_cells {w : World} {base n cap g : Nat} {e : TypeId} {k : IntKind} {zs : List Int} (h : w.ownsRow base e 1 (.slice (some ⟨g, 0, none⟩) n cap) n (zs.map (Value.int k))) (hn : zs.length = n) :
    ∀ i, i < n → w.cell? ⟨g, i, none⟩ = some (.int k (zs.getD i 0)) := by
  intro i hi
  rw [h.cellAt i (by omega), List.getElem?_map, List.getElem?_eq_getElem (by omega), List.getD_eq_getElem?_getD, List.getElem?_eq_getElem (by omega)]
  rfl

/-- The sum of the words of a text as it is reckoned one by one. -/
theorem wlist_get (s : ByteArray) (n k : Nat) (h : k < n) : (wlist s n).getD k 0 = Ck.word s.data.toList k := by
  rw [List.getD_eq_getElem?_getD, wlist, List.getElem?_map, List.getElem?_range h]; rfl

set_option maxRecDepth 100000 in
set_option maxHeartbeats 1000000 in
theorem rsum_any (s : ByteArray) (w : World) (hs : s.size ≤ 1048576) :
    Calls Try.prog 31 #[.string s] w fun e w' => e = .returned (.int .u16 (Ck.sum s.data.toList)) ∧ Below w.heap.size w w' := by
  obtain ⟨N, hN⟩ : ∃ N, Ck.wcount s.data.toList = N := ⟨_, rfl⟩
  have hN2 : N ≤ 524288 := by rw [← hN, wc]; omega
  have hN3 : N = 0 → s.size = 0 := by rw [← hN, wc]; omega
  have HN : Hid (Ck.wcount s.data.toList = N) := hN
  go_enter Try.func31, Try.ntmps31
  go_wp2_with fail
  refine (rwords_any s w hs).mono ?_
  rintro e w1 ⟨v, rfl, hown, hbl⟩
  rw [hN] at hown
  have HB := hide hbl
  clear hbl hN
  have hv : v = .slice none 0 0 ∧ N = 0 ∨ ∃ g cap, v = .slice (some ⟨g, 0, none⟩) N cap ∧ ∀ i, i < N → w1.cell? ⟨g, i, none⟩ = some (.int .i64 ((wlist s N).getD i 0)) := by
    have hown2 := hown
    obtain ⟨_, h | ⟨g, cap, cur, h1, _⟩⟩ := hown
    · exact .inl h
    · exact .inr ⟨g, cap, h1, own_cells (by rw [h1] at hown2; exact hown2) (wlist_length s N)⟩
  clear hown
  rcases hv with ⟨rfl, rfl⟩ | ⟨g, cap, rfl, hc⟩
  · have HZ : Hid (Ck.sum s.data.toList = 0) := by
      have : s.data.toList = [] := List.eq_nil_of_length_eq_zero (by rw [Oct.len_eq]; exact hN3 rfl)
      show _ = _; rw [this]; rfl
    go_wp2
    go_loop [3, 5] (fun n i => i = .int .i64 0 ∧ n = .int .u64 0) (fun _ _ => 0)
    case atStart => exact ⟨rfl, rfl⟩
    case round =>
      obtain ⟨rfl, rfl⟩ := hrel
      go_wp2_with fail
      refine (rfold_any _ _ (Int.le_refl _) (by decide)).mono ?_
      rintro e w' ⟨rfl, rfl⟩
      go_wp2_with fail
      go_ret
      exact ⟨ret_int HZ.out.symm, unhide HB⟩
  · go_wp2
    go_loop [3, 5] (fun n i => ∃ k : Nat, k ≤ N ∧ i = .int .i64 k ∧ n = .int .u64 (Ck.wsum (s.data.toList.take (2 * k)))) (fun _ i => N - (intOf i).toNat)
    case atStart => exact ⟨0, Nat.zero_le _, rfl, by simp [Ck.wsum]⟩
    case round =>
      obtain ⟨k, hk, rfl, rfl⟩ := hrel
      have b0 := Ck.wsum_lo (s.data.toList.take (2 * k))
      have b1 := Ck.wsum_hi (s.data.toList.take (2 * k))
      have b2 : ((s.data.toList.take (2 * k)).length : Int) ≤ s.size := by have := Oct.len_eq s; rw [List.length_take]; omega
      have c0 := Ck.word_lo s.data.toList k
      have c1 := Ck.word_hi s.data.toList k
      have b3 : Ck.wsum (s.data.toList.take (2 * k)) ≤ 68718428160 := by omega
      clear b1 b2
      by_cases hlt : k < N
      · have hcell := hc k hlt
        rw [wlist_get s N k hlt] at hcell
        clear hc
        have HS : Hid (Ck.wsum (s.data.toList.take (2 * (k + 1))) = Ck.wsum (s.data.toList.take (2 * k)) + Ck.word s.data.toList k) := Ck.wsum_take k _ (by rw [HN.out]; exact hlt)
        generalize Ck.word s.data.toList k = z at *
        go_wp2
        go_round
        case rel => exact ⟨k + 1, by omega, by go_num, by rw [HS.out]⟩
        case measure => simp [intOf]; omega
      · have HS : Hid (Ck.fold (Ck.wsum (s.data.toList.take (2 * k))) = Ck.sum s.data.toList) := by
          show _ = _
          have e : k = Ck.wcount s.data.toList := by rw [HN.out]; omega
          rw [e, Ck.wsum_all]; rfl
        go_wp2_with fail
        refine (rfold_any _ _ b0 (by omega)).mono ?_
        rintro e w' ⟨rfl, rfl⟩
        go_wp2_with fail
        go_ret
        exact ⟨ret_int HS.out, unhide HB⟩

set_option maxHeartbeats 400000 in
theorem rcheck_any (s : ByteArray) (w : World) (hs : s.size ≤ 1048576) :
    Calls Try.prog 25 #[.string s] w fun e w' => e = .returned (.int .u16 (65535 - Ck.sum s.data.toList)) ∧ Below w.heap.size w w' := by
  have f0 := Ck.sum_lo s.data.toList
  have f1 := Ck.sum_hi s.data.toList
  go_enter Try.func25, Try.ntmps25
  go_wp2_with fail
  refine (rsum_any _ _ hs).mono ?_
  rintro e w' ⟨rfl, hb⟩
  go_wp2_with fail
  go_ret
  exact ⟨rfl, hb⟩
end Go.Proofs.Ytmeafeomfblncaa
