/- A packet with one bit of its body turned has another sum (mathematics; nothing of the program). -/
import Derived.Test.YtinllnaekcifjaaDoorPkTell
namespace Go.Proofs.YtinllnaekcifjaaDoor
open Go.RowKit

theorem seg6_bit {m : Mk} (w : m.Wf) (K M8 : Nat) (h20 : 20 ≤ K) (hK : K < (segS m 6).size) (hm : M8 < 8) (X : Int) (hX : bits .xor .u8 (((segS m 6).data.toList.getD K 0).toNat : Int) (2 ^ M8) = X) (hX0 : 0 ≤ X) (hX1 : X ≤ 255) :
    Tc.parseE (Ps.withB (segS m 6) K (UInt8.ofNat X.toNat)) = 0 ∧ Ps.verE 6 m.src m.dst (Ps.withB (segS m 6) K (UInt8.ofNat X.toNat)) = 7 := by
  have hl := seg6_list w
  have hts := seg6_size w
  have hy : ((UInt8.ofNat X.toNat).toNat : Int) = X := byte_of X hX0 (by omega)
  have hv := ((segS m 6).data.toList.getD K 0).toNat_lt
  have hxb := Ps.xor_bit ⟨((segS m 6).data.toList.getD K 0).toNat, by omega⟩ ⟨M8, hm⟩
  simp only [hX] at hxb
  have tl : (Oct.be 2 0 ++ (mb m).data.toList).length = 2 + (mb m).size := by rw [List.length_append, Oct.be_length, Oct.len_eq]
  have e1 : (Ps.withB (segS m 6) K (UInt8.ofNat X.toNat)).data.toList = Tc.fixA (tch m) ++ (tck m ++ (Oct.be 2 0 ++ (mb m).data.toList).set (K - 18) (UInt8.ofNat X.toNat)) := by
    rw [Ps.withB_list, hl, List.set_append, if_neg (by rw [Tc.fixA_length]; omega), List.set_append, if_neg (by rw [Tc.fixA_length, tck_len]; omega), Tc.fixA_length, tck_len, Nat.sub_sub]
  have e2 : (segS m 6).data.toList.getD K 0 = (Oct.be 2 0 ++ (mb m).data.toList).getD (K - 18) 0 := by
    rw [hl, List.getD_eq_getElem?_getD, List.getElem?_append_right (by rw [Tc.fixA_length]; omega), List.getElem?_append_right (by rw [Tc.fixA_length, tck_len]; omega), Tc.fixA_length, tck_len, Nat.sub_sub, ← List.getD_eq_getElem?_getD]
  constructor
  · refine (Tc.parse_w (X := tck m) (B := (mb m).data.toList.set (K - 20) (UInt8.ofNat X.toNat)) (tck_len m) (tch_right w) (tch_wf w) ?_).1
    rw [e1, Tc.fixW_A, List.set_append, if_neg (by rw [Oct.be_length]; omega), Oct.be_length, Nat.sub_sub]
    rfl
  · have hs : Ps.Seg 6 (Ps.withB (segS m 6) K (UInt8.ofNat X.toNat)) (Tc.fixA (tch m)) (tck m) ((Oct.be 2 0 ++ (mb m).data.toList).set (K - 18) (UInt8.ofNat X.toNat)) [] := Ps.seg_tcp e1 (Tc.fixA_length _) (tck_len m)
    refine hs.wrong w.src w.dst rfl (B := Ps.base 6 m.src m.dst (Tc.fixA (tch m)) (Oct.be 2 0 ++ (mb m).data.toList)) ?_ ?_
    · unfold tck; rw [Ps.num_ck]; exact Ps.ck_mod (Ps.base_pos (by decide))
    · unfold Ps.base
      rw [List.length_set, Ps.wsum_set _ _ _ (by rw [tl]; omega), hy, ← e2]
      generalize (((segS m 6).data.toList.getD K 0).toNat : Int) = bv at *
      generalize Ck.wsum (Oct.be 2 0 ++ (mb m).data.toList) = Wv at *
      generalize Ck.wsum (Tc.fixA (tch m)) = Uv at *
      generalize (((Tc.fixA (tch m)).length + 2 + (Oct.be 2 0 ++ (mb m).data.toList).length : Nat) : Int) % 65536 = Lv at *
      generalize Ps.a4 m.src = Sv at *
      generalize Ps.a4 m.dst = Dv at *
      clear hl hts hy e1 e2 hs hX hv tl
      have hm8 : M8 = 0 ∨ M8 = 1 ∨ M8 = 2 ∨ M8 = 3 ∨ M8 = 4 ∨ M8 = 5 ∨ M8 = 6 ∨ M8 = 7 := by omega
      rcases hm8 with rfl | rfl | rfl | rfl | rfl | rfl | rfl | rfl <;> simp at hxb <;> split <;> omega
theorem seg17_bit {m : Mk} (w : m.Wf) (hz : m.zero = false) (K M8 : Nat) (h8 : 8 ≤ K) (hK : K < (segS m 17).size) (hm : M8 < 8) (X : Int) (hX : bits .xor .u8 (((segS m 17).data.toList.getD K 0).toNat : Int) (2 ^ M8) = X) (hX0 : 0 ≤ X) (hX1 : X ≤ 255) :
    Ps.measE (Ps.withB (segS m 17) K (UInt8.ofNat X.toNat)) = 0 ∧ Ps.verE 17 m.src m.dst (Ps.withB (segS m 17) K (UInt8.ofNat X.toNat)) = 7 := by
  have e : Ps.fillS 17 m.src m.dst (Ps.built m.sport m.dport (mb m)) = segS m 17 := by unfold segS; rw [if_neg (by decide), if_neg (by rw [hz]; decide)]
  have hts := seg17_size w
  have dl : (Ps.dgA m.sport m.dport (mb m).size).length = 6 := by unfold Ps.dgA; simp only [List.length_append, Oct.be_length]
  refine ⟨?_, Ps.dg_bit (dg_of w) e K M8 h8 hK hm X hX hX0 hX1⟩
  refine (Ps.parse_dg (D := (mb m).data.toList.set (K - 8) (UInt8.ofNat X.toNat)) (uck_len m) ((Ps.inP_iff _).2 w.sport) ((Ps.inP_iff _).2 w.dport) (k := (mb m).size) (by have := (mb_size m).1; omega) (by rw [List.length_set, Oct.len_eq]) ?_).1
  rw [Ps.withB_list, seg17_list w, List.set_append, if_neg (by rw [dl]; omega), List.set_append, if_neg (by rw [dl, uck_len]; omega), dl, uck_len, Nat.sub_sub]
theorem sums_bit {m : Mk} (w : m.Wf) (hz : m.zero = false) (hk : m.kind % 4 < 2) (K M8 : Nat) (hK0 : (frameS m).size - (mb m).size ≤ K) (hK : K < (frameS m).size) (hm : M8 < 8) (X : Int) (hX : bits .xor .u8 (((frameS m).data.toList.getD K 0).toNat : Int) (2 ^ M8) = X) (hX0 : 0 ≤ X) (hX1 : X ≤ 255) :
    clsE (Ps.withB (frameS m) K (UInt8.ofNat X.toNat)) = 7 := by
  have e : frameS m = inS m := if_pos hk
  rw [e] at hK0 hK hX ⊢
  have hsz := (inS_size w).2.2
  have hmb := (mb_size m).1
  have hin := in_built w
  have hl : (inS m).data.toList = (Ip.bhead (iph m) (segS m (pr m))).data.toList ++ (segS m (pr m)).data.toList := by unfold inS Ip.built; rw [Ip.app_list]
  have h20 : (Ip.bhead (iph m) (segS m (pr m))).data.toList.length = 20 := by rw [Oct.len_eq, Ip.bhead_size]; rfl
  have hge : 28 ≤ K := by
    rcases pr_or m with hp | hp <;> rw [hp] at hsz
    · have := seg6_size w; omega
    · have := seg17_size w; omega
  have e2 : (inS m).data.toList.getD K 0 = (segS m (pr m)).data.toList.getD (K - 20) 0 := by
    rw [hl, List.getD_eq_getElem?_getD, List.getElem?_append_right (by omega), h20, ← List.getD_eq_getElem?_getD]
  rw [e2] at hX
  have e3 : Ps.withB (inS m) K (UInt8.ofNat X.toNat) = Ip.built (iph m) (Ps.withB (segS m (pr m)) (K - 20) (UInt8.ofNat X.toNat)) := by
    apply Oct.ba_ext
    have hb : Ip.bhead (iph m) (Ps.withB (segS m (pr m)) (K - 20) (UInt8.ofNat X.toNat)) = Ip.bhead (iph m) (segS m (pr m)) := by
      unfold Ip.bhead Ip.bcheck Ip.bsummed Ip.btotal
      rw [Ps.withB_size]
    unfold Ip.built
    rw [Ip.app_list, hb, Ps.withB_list, Ps.withB_list, hl, List.set_append, if_neg (by omega), h20]
  have hb2 : Ip.Built (iph m) (Ps.withB (segS m (pr m)) (K - 20) (UInt8.ofNat X.toNat)) := ⟨hin.r, hin.w, by have := hin.l; unfold Ip.btotal at *; rw [Ps.withB_size]; exact this⟩
  have hc := (cls_whole hb2 rfl rfl ⟨#[]⟩).1
  rw [Ps.app_nil] at hc
  rw [e3, hc]
  show inE (pr m) _ _ = 7
  rcases pr_or m with hp | hp
  · rw [hp] at hX hsz ⊢
    have hs6 := seg6_size w
    obtain ⟨h1, h2⟩ := seg6_bit w (K - 20) M8 (by omega) (by omega) hm X hX hX0 hX1
    unfold inE
    rw [if_pos rfl]
    unfold segE
    rw [first2 h1]
    exact h2
  · rw [hp] at hX hsz ⊢
    have hs17 := seg17_size w
    obtain ⟨h1, h2⟩ := seg17_bit w hz (K - 20) M8 (by omega) (by omega) hm X hX hX0 hX1
    unfold inE
    rw [if_neg (by decide), if_pos rfl]
    unfold datE
    rw [first2 h1]
    exact h2
end Go.Proofs.YtinllnaekcifjaaDoor
