/- Which error is told first: the plain facts. -/
import Derived.Test.YtfppjpcolohmfaaIpBit
namespace Go.Proofs.Ytfppjpcolohmfaa
open Go.RowKit

def ordH : Hd := ⟨0, 0, 0, 0, 9, 6, 1, 2, ⟨#[]⟩⟩
theorem ordW : ordH.Wf := ⟨by decide, by decide, by decide, by decide, by decide, by decide, by decide, by decide, by decide⟩
theorem ordR : RightP ordH := ⟨by decide, by decide, by decide, by decide, by decide, by decide, by decide, by decide, opts_nil⟩
theorem ordB {body : ByteArray} (h : body.size ≤ 200) : Built ordH body := ⟨ordR, ordW, by show (20 : Int) + 0 + body.size ≤ 1500; omega⟩
theorem ord_size (body : ByteArray) : (built ordH body).size = 20 + body.size := by rw [built_size]; rfl

theorem set_app (l : List UInt8) (k : Nat) (y : UInt8) (h : k < l.length) : l.set k y = l.take k ++ y :: l.drop (k + 1) := by rw [List.set_eq_take_append_cons_drop, if_pos h]
theorem with0 (s : ByteArray) (y : UInt8) (h : 0 < s.size) : (⟨#[y]⟩ : ByteArray) ++ s.extract 1 s.size = withB s 0 y := by
  apply Oct.ba_ext
  rw [app_list, withB_list, set_app _ 0 _ (by rw [Oct.len_eq]; exact h), Oct.ext_list, List.take_of_length_le (by rw [Oct.len_eq]; exact Nat.le_refl _)]
  rfl
theorem with10 (s : ByteArray) (y : UInt8) (h : 11 ≤ s.size) : s.extract 0 10 ++ (⟨#[y]⟩ : ByteArray) ++ s.extract 11 s.size = withB s 10 y := by
  apply Oct.ba_ext
  rw [app_list, app_list, withB_list, set_app _ 10 _ (by rw [Oct.len_eq]; omega), Oct.ext_list, Oct.ext_list, List.take_of_length_le (l := s.data.toList) (i := s.size) (by rw [Oct.len_eq]; exact Nat.le_refl _), List.drop_zero, List.append_assoc]
  rfl
theorem parse_meas {s : ByteArray} {e : Int} (h : measE s = e) (he : ¬ e = 0) : parseE s = e := by unfold parseE; rw [h, if_neg he]
/-- Another version, another size. -/
theorem ord_version {body : ByteArray} (hb : body.size ≤ 200) : parseE (withB (built ordH body) 0 101) = 3 := by
  have hs := ord_size body
  have hz := withB_size (built ordH body) 0 101
  refine parse_meas ?_ (by decide)
  have e0 : fget (withB (built ordH body) 0 101) 0 = 6 := by
    rw [fget_fb _ (by omega) 0 (by decide)]
    show byt _ 0 / 16 = 6
    rw [withB_same _ 0 101 (by omega)]; rfl
  unfold measE
  rw [if_neg (by omega), if_pos (by rw [e0]; decide)]
theorem ord_header {body : ByteArray} (hb : body.size ≤ 200) : parseE (withB (built ordH body) 0 68) = 4 := by
  have hs := ord_size body
  have hz := withB_size (built ordH body) 0 68
  refine parse_meas ?_ (by decide)
  have e0 : fget (withB (built ordH body) 0 68) 0 = 4 := by
    rw [fget_fb _ (by omega) 0 (by decide)]
    show byt _ 0 / 16 = 4
    rw [withB_same _ 0 68 (by omega)]; rfl
  have e1 : fget (withB (built ordH body) 0 68) 1 = 4 := by
    rw [fget_fb _ (by omega) 1 (by decide)]
    show byt _ 0 % 16 = 4
    rw [withB_same _ 0 68 (by omega)]; rfl
  unfold measE
  rw [if_neg (by omega), if_neg (by rw [e0]; decide), if_pos (.inl (by rw [e1]; decide))]
/-- Another check. -/
theorem ord_sum {body : ByteArray} (hb : body.size ≤ 200) (X : Int) (hX : bits .xor .u8 (byt (built ordH body) 10) 1 = X) (hX0 : 0 ≤ X) (hX1 : X ≤ 255) : parseE (withB (built ordH body) 10 (UInt8.ofNat X.toNat)) = 7 := by
  have B := ordB hb
  have hs := ord_size body
  have hz := withB_size (built ordH body) 10 (UInt8.ofNat X.toNat)
  have hbad := turned B 80 (by decide) (by show (10 : Nat) < 20 + 0; decide) X hX hX0 hX1
  have M := meas_built0 B
  have hb' : ∀ i, i ≠ 10 → byt (withB (built ordH body) 10 (UInt8.ofNat X.toNat)) i = byt (built ordH body) i := fun i h => withB_byt _ 10 _ i h
  have g : ∀ k, k = 0 ∨ k = 1 ∨ k = 3 → fget (withB (built ordH body) 10 (UInt8.ofNat X.toNat)) k = fget (built ordH body) k := by
    intro k hk
    rcases hk with rfl | rfl | rfl
    · rw [fget_fb _ (by omega) 0 (by decide), fget_fb _ (by omega) 0 (by decide)]
      show byt _ 0 / 16 = byt _ 0 / 16
      rw [hb' 0 (by decide)]
    · rw [fget_fb _ (by omega) 1 (by decide), fget_fb _ (by omega) 1 (by decide)]
      show byt _ 0 % 16 = byt _ 0 % 16
      rw [hb' 0 (by decide)]
    · rw [fget_fb _ (by omega) 3 (by decide), fget_fb _ (by omega) 3 (by decide)]
      show byt _ 2 * 256 + byt _ 3 = byt _ 2 * 256 + byt _ 3
      rw [hb' 2 (by decide), hb' 3 (by decide)]
  have M2 : Meas (withB (built ordH body) 10 (UInt8.ofNat X.toNat)) := by
    obtain ⟨m1, m2, m3, m4, m5, m6, m7⟩ := M
    exact ⟨by omega, by rw [g 0 (.inl rfl)]; exact m2, by rw [g 1 (.inr (.inl rfl))]; exact m3, by rw [g 1 (.inr (.inl rfl)), hz]; exact m4, by rw [g 1 (.inr (.inl rfl)), g 3 (.inr (.inr rfl))]; exact m5, by rw [g 3 (.inr (.inr rfl)), hz]; exact m6, by rw [g 3 (.inr (.inr rfl))]; exact m7⟩
  have h1 : fget (withB (built ordH body) 10 (UInt8.ofNat X.toNat)) 1 * 4 = 20 := by
    rw [g 1 (.inr (.inl rfl))]; exact f1_four (begins_of0 B) ordR.o4
  have hxs := pX_size M2
  have hpo : (pO (withB (built ordH body) 10 (UInt8.ofNat X.toNat))).data.toList = [] := by
    apply List.eq_nil_of_length_eq_zero
    rw [Oct.len_eq]
    unfold pO
    rw [Oct.ext_size _ _ _ (Nat.le_refl _)]; omega
  unfold parseE at hbad ⊢
  rw [if_pos (meas_to M2)] at hbad ⊢
  rw [hpo, opts_nil, if_pos rfl] at hbad
  by_cases h : Ck.sum (pX (withB (built ordH body) 10 (UInt8.ofNat X.toNat))).data.toList = 65535
  · have hbad' : ¬ (if Ck.sum (pX (withB (built ordH body) 10 (UInt8.ofNat X.toNat))).data.toList = 65535 then (0 : Int) else 7) = 0 := hbad
    rw [if_pos h] at hbad'
    exact absurd rfl hbad'
  · rw [if_neg h]
/-- Cut off. -/
theorem ord_cut {body : ByteArray} (hb : body.size ≤ 200) (k : Nat) (hk : k ≤ 20 + body.size) : parseE ((built ordH body).extract 0 (20 + body.size - k)) = if 20 + body.size - k < 20 then 2 else if 0 < k then 5 else 0 := by
  have B := ordB hb
  have hs := ord_size body
  have hz : ((built ordH body).extract 0 (20 + body.size - k)).size = 20 + body.size - k := by rw [Oct.ext_size _ _ _ (by omega)]; omega
  by_cases h2 : 20 + body.size - k < 20
  · rw [if_pos h2]
    refine parse_meas ?_ (by decide)
    unfold measE; rw [if_pos (by omega)]
  · rw [if_neg h2]
    by_cases h0 : 0 < k
    · rw [if_pos h0]
      have hbt : ∀ i, i < 20 → byt ((built ordH body).extract 0 (20 + body.size - k)) i = byt (built ordH body) i := by
        intro i hi
        unfold byt
        rw [Oct.ext_list, List.drop_zero, List.getD_eq_getElem?_getD, List.getElem?_take_of_lt (by omega), ← List.getD_eq_getElem?_getD]
      have g := (begins_of0 B).get
      have e0 : fget ((built ordH body).extract 0 (20 + body.size - k)) 0 = 4 := by
        rw [fget_fb _ (by omega) 0 (by decide)]
        have := g 0 (by decide)
        rw [fget_fb _ (by omega) 0 (by decide)] at this
        show byt _ 0 / 16 = 4
        rw [hbt 0 (by decide)]; exact this
      have e1 : fget ((built ordH body).extract 0 (20 + body.size - k)) 1 = 5 := by
        rw [fget_fb _ (by omega) 1 (by decide)]
        have := g 1 (by decide)
        rw [fget_fb _ (by omega) 1 (by decide)] at this
        show byt _ 0 % 16 = 5
        rw [hbt 0 (by decide)]; exact this
      have e3 : fget ((built ordH body).extract 0 (20 + body.size - k)) 3 = 20 + body.size := by
        rw [fget_fb _ (by omega) 3 (by decide)]
        have := g 3 (by decide)
        rw [fget_fb _ (by omega) 3 (by decide)] at this
        show byt _ 2 * 256 + byt _ 3 = _
        rw [hbt 2 (by decide), hbt 3 (by decide)]
        refine Eq.trans this ?_
        show (20 : Int) + 0 + body.size = _; omega
      refine parse_meas ?_ (by decide)
      unfold measE
      rw [if_neg (by omega), if_neg (by rw [e0]; decide), if_neg (by rw [e1, hz]; omega), if_pos (.inr (by rw [e3, hz]; omega))]
    · rw [if_neg h0]
      have e : (built ordH body).extract 0 (20 + body.size - k) = built ordH body := by
        apply Oct.ba_ext
        rw [Oct.ext_list, List.drop_zero, List.take_of_length_le (by rw [Oct.len_eq]; omega)]
      rw [e]; exact (parse_built0 B).1
end Go.Proofs.Ytfppjpcolohmfaa
