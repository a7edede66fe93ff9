/- What Sum and Check of package cksum compute, out of octet's pairs and Words, which are ranged over. -/
import Derived.Test.YtmeafeomfblncaaCkFold
import Derived.Test.YtmeafeomfblncaaCkNum
import Derived.Test.YtmeafeomfblncaaCkIter
import Derived.Shelf.RegionOpen
namespace Go.Proofs.Ytmeafeomfblncaa
open Go.ChangeShapes Go.WideShapes Go.ChangeAt Go.RowKit Go.Shelf
attribute [local go_sem] Oper.semAt_some

/-- The bytes of a word. -/
def pair (s : ByteArray) (k : Nat) : ByteArray := if 2 * k + 2 ≤ s.size then s.extract (2 * k) (2 * k + 2) else s.extract (2 * k) s.size ++ ⟨#[0]⟩

theorem wc (s : ByteArray) : Ck.wcount s.data.toList = (s.size + 1) / 2 := by unfold Ck.wcount; rw [Oct.len_eq]
theorem pair_whole (s : ByteArray) (k : Nat) (h : 2 * k + 2 ≤ s.size) : pair s k = s.extract (2 * k) (2 * k + 2) := if_pos h
theorem pair_odd (s : ByteArray) (k : Nat) (h : ¬ 2 * k + 2 ≤ s.size) : pair s k = s.extract (2 * k) s.size ++ ⟨#[0]⟩ := if_neg h

set_option maxRecDepth 100000 in
set_option maxHeartbeats 1000000 in
theorem pairs1_gives (s : ByteArray) (hs : s.size ≤ 281474976710656) (Bs B0 : Nat) (W0 : World) (hB : B0 ≤ Bs) (hc : W0.cell? ⟨Bs, 0, none⟩ = some (.string s)) :
    Gives Try.prog 50 #[.pointer (some ⟨Bs, 0, none⟩)] (fun k => #[.string (pair s k)]) (Ck.wcount s.data.toList) B0 W0 := by
  intro l J Jx hl hJ hJx hY h0
  refine callsIn_of_wp Try.func50 rfl trivial ?_ rfl
  simp only [Try.ntmps50, List.size_toArray, List.length_cons, List.length_nil, Nat.reduceAdd, Nat.reduceSub, Array.replicate_succ, Array.replicate_zero, List.push_toArray, List.append_toArray, List.nil_append, List.cons_append]
  gi_wp2
  gi_loopw [9] (fun i wr => ∃ k : Nat, k ≤ s.size / 2 ∧ i = .int .i64 k ∧ J k wr ∧ wr.cell? ⟨Bs, 0, none⟩ = some (.string s)) (fun i _ => s.size / 2 - (intOf i).toNat)
  case atStart => exact ⟨0, Nat.zero_le _, rfl, h0, hc⟩
  case round =>
    obtain ⟨k, hk, rfl, hJs, hcr⟩ := hrel
    by_cases hlt : k < s.size / 2
    · have q0 : 0 ≤ 2 * (k : Int) := by omega
      have q1 : 2 * (k : Int) + 2 ≤ s.size := by omega
      have hy0 := hY k wr (by rw [wc]; omega) hJs
      rw [pair_whole s k (by omega)] at hy0
      obtain ⟨fn, tmps, assign, body, hy, hR⟩ := hy0
      have HN : Hid (∀ W', Above B0 wr W' → W'.cell? ⟨Bs, 0, none⟩ = some (.string s)) := fun W' h => h.cell (p := ⟨Bs, 0, none⟩) hB hcr
      have HW : Hid (Ck.wcount s.data.toList = (s.size + 1) / 2) := wc s
      gi_wp2
      refine ⟨rfl, hR.mono ?_⟩
      rintro e W3 (⟨rfl, hJ3, hA3⟩ | ⟨rfl, hJx3, hA3⟩)
      · have hc3 := HN.out W3 hA3
        gi_wp2
        go_roundw
        case rel => exact ⟨k + 1, by omega, by simp, hJ3, hc3⟩
        case measure => simp [intOf]; omega
      · gi_wp2
        refine bodyPost_ret (results_none rfl _ _ _) rfl ?_
        exact ⟨⟨_, rfl⟩, .inr ⟨k + 1, by rw [HW.out]; omega, hJx3⟩⟩
    · obtain rfl : k = s.size / 2 := by omega
      by_cases hodd : s.size % 2 = 0
      · have HW : Hid (Ck.wcount s.data.toList = s.size / 2) := by show _ = _; rw [wc]; omega
        have hz : decide (2 * ((s.size : Int) / 2) < s.size) = false := by simp; omega
        gi_wp2
        go_end0
        exact ⟨⟨_, rfl⟩, .inl (by rw [HW.out]; exact hJs)⟩
      · have HW : Hid (Ck.wcount s.data.toList = s.size / 2 + 1) := by show _ = _; rw [wc]; omega
        have hz : 2 * ((s.size : Int) / 2) < s.size := by omega
        have hy0 := hY (s.size / 2) wr (by rw [wc]; omega) hJs
        rw [pair_odd s _ (by omega)] at hy0
        obtain ⟨fn, tmps, assign, body, hy, hR⟩ := hy0
        gi_wp2
        refine ⟨rfl, hR.mono ?_⟩
        rintro e W3 (⟨rfl, hJ3, hA3⟩ | ⟨rfl, hJx3, hA3⟩)
        · gi_wp2
          go_end0
          exact ⟨⟨_, rfl⟩, .inl (by rw [HW.out]; exact hJ3)⟩
        · gi_wp2
          go_end0
          exact ⟨⟨_, rfl⟩, .inr ⟨_, by rw [HW.out]; exact Nat.le_refl _, hJx3⟩⟩

set_option maxHeartbeats 400000 in
theorem pairs_any (s : ByteArray) (w : World) :
    Calls Try.prog 49 #[.string s] w fun e w' => e = .returned (.func (.func 50) #[] #[.pointer (some ⟨w.heap.size, 0, none⟩)]) ∧ w' = w.alloc (.cells #[.string s] 9) := by
  go_enter Try.func49, Try.ntmps49
  go_wp2
  go_ret
  exact ⟨rfl, rfl⟩
set_option maxHeartbeats 400000 in
theorem words_any (s : ByteArray) (w : World) :
    Calls Try.prog 41 #[.string s] w fun e w' => e = .returned (.func (.func 48) #[] #[.pointer (some ⟨w.heap.size, 0, none⟩)]) ∧ w' = w.alloc (.cells #[.string s] 9) := by
  go_enter Try.func41, Try.ntmps41
  go_wp2
  go_ret
  exact ⟨rfl, rfl⟩

theorem pair_size (s : ByteArray) (k : Nat) (h : k < (s.size + 1) / 2) : (pair s k).size = 2 := by
  unfold pair
  split
  · rw [Oct.ext_size _ _ _ (by omega)]; omega
  · rw [ByteArray.size_append, Oct.ext_size _ _ _ (by omega)]
    show _ + 1 = 2
    omega
theorem list2 (l : List UInt8) (h : l.length = 2) : l = [l.getD 0 0, l.getD 1 0] := by
  match l, h with
  | [a, b], _ => rfl
theorem pair_word (s : ByteArray) (k : Nat) (h : k < (s.size + 1) / 2) : (Oct.num (pair s k).data.toList : Int) = Ck.word s.data.toList k := by
  have e : (pair s k).data.toList = [s.data.toList.getD (2 * k) 0, s.data.toList.getD (2 * k + 1) 0] := by
    have hl := Oct.len_eq s
    unfold pair
    split
    · rename_i h2
      rw [Oct.ext_list]
      apply List.ext_getElem
      · simp; omega
      · intro i h3 h4
        have hi : i = 0 ∨ i = 1 := by simp at h4; omega
        rcases hi with rfl | rfl
        · simp [List.getD_eq_getElem?_getD]
          rw [Array.getElem?_eq_getElem (by show 2 * k < s.size; omega)]; rfl
        · simp [List.getD_eq_getElem?_getD]
          rw [Array.getElem?_eq_getElem (by show 2 * k + 1 < s.size; omega)]; rfl
    · rename_i h2
      rw [ByteArray.data_append, Array.toList_append, Oct.ext_list, List.take_of_length_le (by omega)]
      have e2 : s.data.toList.drop (2 * k) = [s.data.toList.getD (2 * k) 0] := by
        rw [List.drop_eq_getElem_cons (by omega), List.drop_of_length_le (by omega), List.getD_eq_getElem?_getD, List.getElem?_eq_getElem (by omega)]; rfl
      rw [e2]
      have e3 : s.data.toList.getD (2 * k + 1) 0 = 0 := by rw [List.getD_eq_getElem?_getD, List.getElem?_eq_none (by omega)]; rfl
      rw [e3]; rfl
  rw [e, Ck.word]
  simp [Oct.num]

/-- What a round answers, in one. -/
theorem yield_drew {P : Program} {l B0 B : Nat} {args : Array Value} {W : World} {J Jx : World → Prop}
    (h : YieldAt Fence.wide 0 P l args W fun e W' => (e = .returned (.bool true) ∧ J W' ∧ Above B0 W W') ∨ (e = .returned (.bool false) ∧ Jx W' ∧ Above B W W')) :
    YieldAt Fence.wide 0 P l args W fun e W' => ∃ b : Bool, e = .returned (.bool b) ∧ Hid ((b = true ∧ J W' ∧ Above B0 W W') ∨ (b = false ∧ Jx W' ∧ Above B W W')) :=
  h.mono fun e W' h => by
    rcases h with ⟨rfl, h⟩ | ⟨rfl, h⟩
    · exact ⟨true, rfl, .inl ⟨rfl, h⟩⟩
    · exact ⟨false, rfl, .inr ⟨rfl, h⟩⟩

set_option maxRecDepth 100000 in
set_option maxHeartbeats 2000000 in
theorem words1_gives (s : ByteArray) (hs : s.size ≤ 281474976710656) (Bs B0 : Nat) (W0 : World) (hB0 : B0 ≤ Bs) (hlt0 : Bs < W0.heap.size) (hc : W0.cell? ⟨Bs, 0, none⟩ = some (.string s)) :
    Gives Try.prog 48 #[.pointer (some ⟨Bs, 0, none⟩)] (fun k => #[.int .i64 (Ck.word s.data.toList k)]) (Ck.wcount s.data.toList) B0 W0 := by
  intro l J Jx hl hJ hJx hY h0
  refine callsIn_of_wp_marks Try.func48 rfl trivial ?_ rfl
  simp only [Try.ntmps48, List.size_toArray, List.length_cons, List.length_nil, Nat.reduceAdd, Nat.reduceSub, Array.replicate_succ, Array.replicate_zero, List.push_toArray, List.append_toArray, List.nil_append, List.cons_append]
  gi_wp2
  refine ⟨trivial, rfl, (callsIn_wide.2 (pairs_any _ _)).mono ?_⟩
  rintro e w' ⟨rfl, rfl⟩
  gi_wp2
  have hsz : ((W0.alloc (.cells #[.func (.yield l) #[] #[]] 65)).alloc (.cells #[.string s] 9)).heap.size = W0.heap.size + 2 := by simp
  have hyc : ((W0.alloc (.cells #[.func (.yield l) #[] #[]] 65)).alloc (.cells #[.string s] 9)).cell? ⟨W0.heap.size, 0, none⟩ = some (.func (.yield l) #[] #[]) := by simp [go_sem]
  have hsc : ((W0.alloc (.cells #[.func (.yield l) #[] #[]] 65)).alloc (.cells #[.string s] 9)).cell? ⟨W0.heap.size + 1, 0, none⟩ = some (.string s) := by simp [go_sem]
  have hB : Below W0.heap.size W0 ((W0.alloc (.cells #[.func (.yield l) #[] #[]] 65)).alloc (.cells #[.string s] 9)) := ((Below.refl _ W0).alloc (Nat.le_refl _) _).alloc (by simp) _
  have hJ0 := hJ 0 _ _ h0 hB
  obtain ⟨V0, hV0⟩ : ∃ V0, (W0.alloc (.cells #[.func (.yield l) #[] #[]] 65)).alloc (.cells #[.string s] 9) = V0 := ⟨_, rfl⟩
  rw [hV0] at hsz hyc hsc hJ0 ⊢
  clear hV0 hB
  refine wpIn_gives (gf := 50) (lb := #[.pointer (some ⟨W0.heap.size + 1, 0, none⟩)]) (enc := fun k => #[.string (pair s k)]) (N := Ck.wcount s.data.toList) (B0 := W0.heap.size) rfl (enters_of Try.func50 (by kernel_rfl) rfl)
    (fun W1 hb1 _ => pairs1_gives s hs (W0.heap.size + 1) W0.heap.size W1 (by omega) ((hb1.cell (p := ⟨W0.heap.size + 1, 0, none⟩) (by simp; omega)).trans hsc)) (by omega) (fun _ => rfl)
    (fun k W => J k W ∧ W.cell? ⟨W0.heap.size, 0, none⟩ = some (.func (.yield l) #[] #[])) (fun c k W => c = .ret ∧ Jx k W)
    (fun k W W' h hb => ⟨hJ k W W' h.1 (hb.mono (by omega)), (hb.cell (p := ⟨W0.heap.size, 0, none⟩) (by simp; omega)).trans h.2⟩) (fun c k W W' h hb => ⟨h.1, hJx k W W' h.2 (hb.mono (by omega))⟩)
    ⟨hJ0, hyc⟩
    (fun k => { tmps := #[.func (.yield l) #[] #[], .pointer (some ⟨Bs, 0, none⟩), .pointer (some ⟨W0.heap.size, 0, none⟩), .string (pair s k), .string s, .func (.func 50) #[] #[.pointer (some ⟨W0.heap.size + 1, 0, none⟩)], .string (pair s k), undef, undef, undef, undef, undef], defers := [] })
    ?assign ?body ?done ?stop
  case assign =>
    intro l' k W K hK
    gi_wp2
    exact hK
  case body =>
    rintro l' k W hk ⟨hj, hcell⟩
    have hk' : k < (s.size + 1) / 2 := by rw [← wc]; exact hk
    obtain ⟨fn, tmps, assign, body, hy, hR⟩ := yield_drew (hY k W.drew hk (hJ k _ _ hj (Below.refl _ _).drew))
    have hn : ∀ u, Calls Try.prog 40 #[.string (pair s k)] u fun e w' => e = .returned (.int .i64 (Ck.word s.data.toList k)) ∧ w' = u := fun u => by
      rw [← pair_word s k hk']; exact number_any _ _ (by rw [pair_size s k hk']; decide)
    have hmx : Try.prog.follows .mixedOrders = true := by kernel_rfl
    gi_wp2
    gi_region_with_o (first | (refine ⟨trivial, rfl, ?_⟩; refine (CallsIn.inRound l' (callsIn_wide.2 (hn _))).mono ?_; rintro e w' ⟨rfl, rfl⟩) | (refine ⟨rfl, ?_⟩; refine hR.mono ?_; rintro e w' ⟨b, rfl, hb⟩))
    all_goals
      rcases hb.out with ⟨rfl, hj', hA'⟩ | ⟨rfl, hx', hA'⟩
      · have hA : Above W0.heap.size W w' := (show Above B0 W w' from ⟨hA'.size, hA'.block⟩).mono (by omega)
        gi_wp2
        exact ⟨hA, hj', hA.cell (p := ⟨W0.heap.size, 0, none⟩) (Nat.le_refl _) hcell⟩
      · have hA : Above W0.heap.size W w' := ⟨hA'.size, hA'.block⟩
        gi_wp2
        exact ⟨hA.mono (by omega), rfl, hx'⟩
  case done =>
    rintro W ⟨hj, _⟩ hK
    gi_wp2
    refine ⟨by simp, .inl ⟨_, _, rfl, run_takeDeferred hK, ?_⟩⟩
    exact ⟨_, results_none rfl _ _ _, ⟨_, rfl⟩, .inl (hJ _ _ _ hj (below_put (Below.refl _ _) (by omega) _))⟩
  case stop =>
    rintro c k W hk ⟨rfl, hx⟩ hK
    gi_wp2
    refine ⟨by simp, .inl ⟨_, _, rfl, run_takeDeferred hK, ?_⟩⟩
    exact ⟨_, results_none rfl _ _ _, ⟨_, rfl⟩, .inr ⟨k, hk, hJx _ _ _ hx (below_put (Below.refl _ _) (by omega) _)⟩⟩

set_option maxRecDepth 100000 in
set_option maxHeartbeats 2000000 in
theorem sum_any (s : ByteArray) (w : World) (hs : s.size ≤ 281474976710656) :
    Calls Try.prog 29 #[.string s] w fun e w' => e = .returned (.int .u16 (Ck.sum s.data.toList)) ∧ Below w.heap.size w w' := by
  refine (callsIn_wide (n := 0)).1 ?_
  refine callsIn_of_wp_marks Try.func29 rfl trivial ?_ rfl
  simp only [Try.ntmps29, List.size_toArray, List.length_cons, List.length_nil, Nat.reduceAdd, Nat.reduceSub, Array.replicate_succ, Array.replicate_zero, List.push_toArray, List.append_toArray, List.nil_append, List.cons_append]
  gi_wp2
  refine ⟨trivial, rfl, (callsIn_wide.2 (words_any _ _)).mono ?_⟩
  rintro e w' ⟨rfl, rfl⟩
  gi_wp2
  have hsz : ((w.alloc (.cells #[.int .u64 0] 58)).alloc (.cells #[.string s] 9)).heap.size = w.heap.size + 2 := by simp
  have hnc : ((w.alloc (.cells #[.int .u64 0] 58)).alloc (.cells #[.string s] 9)).cell? ⟨w.heap.size, 0, none⟩ = some (.int .u64 0) := by simp [go_sem]
  have hnf : ((w.alloc (.cells #[.int .u64 0] 58)).alloc (.cells #[.string s] 9)).frozen? ⟨w.heap.size, 0, none⟩ = false := by simp [go_sem]
  have hsc : ((w.alloc (.cells #[.int .u64 0] 58)).alloc (.cells #[.string s] 9)).cell? ⟨w.heap.size + 1, 0, none⟩ = some (.string s) := by simp [go_sem]
  have hB : Below w.heap.size w ((w.alloc (.cells #[.int .u64 0] 58)).alloc (.cells #[.string s] 9)) := ((Below.refl _ w).alloc (Nat.le_refl _) _).alloc (by simp) _
  obtain ⟨V0, hV0⟩ : ∃ V0, (w.alloc (.cells #[.int .u64 0] 58)).alloc (.cells #[.string s] 9) = V0 := ⟨_, rfl⟩
  rw [hV0] at hsz hnc hnf hsc hB ⊢
  clear hV0
  refine wpIn_gives (gf := 48) (lb := #[.pointer (some ⟨w.heap.size + 1, 0, none⟩)]) (enc := fun k => #[.int .i64 (Ck.word s.data.toList k)]) (N := Ck.wcount s.data.toList) (B0 := w.heap.size + 1) rfl (enters_of Try.func48 (by kernel_rfl) rfl)
    (fun W1 hb1 hs1 => words1_gives s hs (w.heap.size + 1) (w.heap.size + 1) W1 (Nat.le_refl _) (by omega) ((hb1.cell (p := ⟨w.heap.size + 1, 0, none⟩) (by simp; omega)).trans hsc)) (by omega) (fun _ => rfl)
    (fun k W => W.cell? ⟨w.heap.size, 0, none⟩ = some (.int .u64 (Ck.wsum (s.data.toList.take (2 * k)))) ∧ W.frozen? ⟨w.heap.size, 0, none⟩ = false ∧ Below w.heap.size w W) (fun _ _ _ => False)
    (fun k W W' h hb => ⟨(hb.cell (p := ⟨w.heap.size, 0, none⟩) (by simp; omega)).trans h.1, (hb.frozen (p := ⟨w.heap.size, 0, none⟩) (by simp; omega)).trans h.2.1, h.2.2.trans (hb.mono (by omega))⟩) (fun c k W W' h hb => h)
    ⟨by simpa [Ck.wsum] using hnc, hnf, hB⟩
    (fun k => { tmps := #[.string s, undef, .int .u16 0, .pointer (some ⟨w.heap.size, 0, none⟩), .int .i64 (Ck.word s.data.toList k), .string s, .func (.func 48) #[] #[.pointer (some ⟨w.heap.size + 1, 0, none⟩)], .int .i64 (Ck.word s.data.toList k), undef, undef, undef, undef, undef, undef], defers := [] })
    ?assign ?body ?done ?stop
  case assign =>
    intro l' k W K hK
    gi_wp2
    exact hK
  case body =>
    rintro l' k W hk ⟨hc, hf, hb⟩
    have HS : Hid (Ck.wsum (s.data.toList.take (2 * (k + 1))) = Ck.wsum (s.data.toList.take (2 * k)) + Ck.word s.data.toList k) := Ck.wsum_take k _ hk
    have b0 := Ck.wsum_lo (s.data.toList.take (2 * k))
    have b1 := Ck.wsum_hi (s.data.toList.take (2 * k))
    have b2 : ((s.data.toList.take (2 * k)).length : Int) ≤ s.size := by have := Oct.len_eq s; rw [List.length_take]; omega
    have c0 := Ck.word_lo s.data.toList k
    have c1 := Ck.word_hi s.data.toList k
    have b3 : Ck.wsum (s.data.toList.take (2 * k)) ≤ 18446462598732840960 := by omega
    clear b1 b2
    gi_wp2
    refine ⟨(Above.refl _ _).setCell (p := ⟨w.heap.size, 0, none⟩) (by simp) _, ?_, by rw [World.frozen?_setCell]; exact hf, hb.setCell (p := ⟨w.heap.size, 0, none⟩) (Nat.le_refl _) _⟩
    rw [HS.out]
    exact World.cell?_setCell_same' _ _ _ (by rw [hc]; rfl)
  case done =>
    rintro W ⟨hc, hf, hb⟩ hK
    rw [Ck.wsum_all] at hc
    rw [hsz] at hK
    have b1 := Ck.wsum_hi s.data.toList
    rw [Oct.len_eq] at b1
    gi_wp2
    refine ⟨trivial, rfl, (callsIn_wide.2 (fold_any _ _ (Ck.wsum_lo _) (by omega))).mono ?_⟩
    rintro e w' ⟨rfl, rfl⟩
    gi_wp2
    refine ⟨by simp, .inl ⟨_, _, rfl, run_takeDeferred hK, ?_⟩⟩
    exact ⟨_, results_tmp rfl _ _ _, rfl, below_put hb (by omega) _⟩
  case stop =>
    rintro c k W hk h hK
    exact h.elim

set_option maxHeartbeats 400000 in
theorem check_any (s : ByteArray) (w : World) (hs : s.size ≤ 281474976710656) :
    Calls Try.prog 21 #[.string s] w fun e w' => e = .returned (.int .u16 (65535 - Ck.sum s.data.toList)) ∧ Below w.heap.size w w' := by
  go_enter Try.func21, Try.ntmps21
  go_wp2_with fail
  refine (sum_any _ _ hs).mono ?_
  rintro e w' ⟨rfl, hb⟩
  go_wp2_with fail
  refine (rest_any _ _ (Ck.sum_lo _) (Ck.sum_hi _)).mono ?_
  rintro e w2 ⟨rfl, rfl⟩
  go_wp2_with fail
  go_ret
  exact ⟨rfl, hb⟩
end Go.Proofs.Ytmeafeomfblncaa
