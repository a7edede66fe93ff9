/- Datagrams as rows of bytes: what Build answers, what Parse answers, and how the two go together. Nothing of the program is in here. -/
import Derived.Test.YtmeafeomfblncaaPsBase
namespace Go.Proofs.Ytmeafeomfblncaa
open Go.ChangeShapes Go.WideShapes Go.ChangeAt Go.RowKit

theorem laid_size (s n : Int) : (laid s n).size ≤ 4 := by
  unfold laid
  split
  · rename_i h
    obtain ⟨⟨h1, h2⟩, _⟩ := (laidB_iff s n).1 h
    rw [Oct.mk_size, Oct.be_length]; omega
  · exact Nat.zero_le _
theorem laid_zero : laid 2 0 = ⟨#[0, 0]⟩ := by
  unfold laid
  rw [if_pos ((laidB_iff 2 0).2 ⟨⟨by decide, by decide⟩, by decide, by decide⟩)]
  rfl
/-- A port: 0 to 65535. -/
def inP (n : Int) : Bool := decide (0 ≤ n) && decide (n ≤ 65535)
theorem inP_iff (n : Int) : inP n = true ↔ 0 ≤ n ∧ n ≤ 65535 := by simp [inP]
theorem laidB_two (n : Int) : laidB 2 n = inP n := by
  rw [Bool.eq_iff_iff, laidB_iff, inP_iff]
  constructor
  · rintro ⟨_, h0, h1⟩
    have h2 : n.toNat < 65536 := h1
    omega
  · rintro ⟨h0, h1⟩
    exact ⟨⟨by decide, by decide⟩, h0, by show _ < 65536; omega⟩
theorem laid2 {n : Int} (h : inP n = true) : (laid 2 n).data.toList = Oct.be 2 n.toNat := by
  unfold laid
  rw [laidB_two, if_pos h]
  rfl

/-- Two numbers one behind the other, and whether each has room. -/
def textB (a b : Int) : Bool := inP a && inP b
def textS (a b : Int) : ByteArray := if textB a b = true then laid 2 a ++ laid 2 b else ⟨#[]⟩
theorem textS_size (a b : Int) : (textS a b).size ≤ 8 := by
  unfold textS
  split
  · rw [ByteArray.size_append]; have := laid_size 2 a; have := laid_size 2 b; omega
  · exact Nat.zero_le _

/-- The datagram of two ports and a body. -/
def built (a b : Int) (body : ByteArray) : ByteArray := laid 2 a ++ laid 2 b ++ (laid 2 (8 + body.size) ++ laid 2 0) ++ body
def buildE (a b : Int) (body : ByteArray) : Int := if textB a b = false then 1 else if 1500 < 8 + (body.size : Int) then 18 else 0
def buildS (a b : Int) (body : ByteArray) : ByteArray := if buildE a b body = 0 then built a b body else ⟨#[]⟩
theorem buildE_of {a b : Int} {body : ByteArray} (ha : inP a = true) (hb : inP b = true) (hs : body.size ≤ 1492) : buildE a b body = 0 := by
  unfold buildE textB
  rw [ha, hb, if_neg (by decide), if_neg (by omega)]
theorem buildS_of {a b : Int} {body : ByteArray} (he : buildE a b body = 0) : buildS a b body = built a b body := by unfold buildS; rw [if_pos he]
theorem buildS_no {a b : Int} {body : ByteArray} (he : buildE a b body ≠ 0) : buildS a b body = ⟨#[]⟩ := by unfold buildS; rw [if_neg he]
theorem buildS_size (a b : Int) (body : ByteArray) : (buildS a b body).size ≤ 1508 + 16 := by
  unfold buildS
  split
  · rename_i he
    have hs : body.size ≤ 1492 := by
      unfold buildE at he
      split at he
      · cases he
      · split at he
        · cases he
        · omega
    unfold built
    simp only [ByteArray.size_append]
    have := laid_size 2 a; have := laid_size 2 b; have := laid_size 2 (8 + body.size); have := laid_size 2 0
    omega
  · exact Nat.zero_le _

/-- What a text's header tells. -/
def measE (s : ByteArray) : Int := if s.size < 8 then 2 else if got s 4 2 < 8 then 5 else if (s.size : Int) < got s 4 2 then 5 else 0
def measN (s : ByteArray) : Int := if measE s = 0 then got s 4 2 else 0
def parA (s : ByteArray) : Int := if measE s = 0 then got s 0 2 else 0
def parB (s : ByteArray) : Int := if measE s = 0 then got s 2 2 else 0
def parC (s : ByteArray) : ByteArray := if measE s = 0 then s.extract 8 (got s 4 2).toNat else ⟨#[]⟩
theorem measE_ok {s : ByteArray} (he : measE s = 0) : 8 ≤ s.size ∧ 8 ≤ got s 4 2 ∧ got s 4 2 ≤ s.size := by
  unfold measE at he
  split at he
  · cases he
  · split at he
    · cases he
    · split at he
      · cases he
      · omega
theorem parC_size (s : ByteArray) : (parC s).size ≤ s.size := by
  unfold parC
  split
  · rw [ByteArray.size_extract]; omega
  · exact Nat.zero_le _

theorem got_part {s : ByteArray} {A B C : List UInt8} {p k : Nat} (hl : s.data.toList = A ++ (B ++ C)) (ha : A.length = p) (hb : B.length = k) (k1 : 1 ≤ k) (k4 : k ≤ 4) : got s p k = (Oct.num B : Int) := by
  have hz : s.size = p + k + C.length := by rw [← Oct.len_eq, hl, List.length_append, List.length_append]; omega
  have hg : gotB s p k = true := (gotB_iff s p k).2 ⟨⟨by omega, by omega⟩, by omega, by omega⟩
  rw [got, if_pos hg, hl]
  have e1 : ((p : Int)).toNat = A.length := by omega
  have e2 : ((k : Int)).toNat = B.length := by omega
  rw [e1, e2, List.drop_left, List.take_left]
theorem num_two {n : Int} (h : inP n = true) : (Oct.num (Oct.be 2 n.toNat) : Int) = n := by
  obtain ⟨h0, h1⟩ := (inP_iff n).1 h
  rw [Oct.num_be 2 _ (by show _ < 65536; omega)]; omega
/-- Eight bytes: the ports, a length, two bytes 0. -/
def hdL (a b n : Int) : List UInt8 := Oct.be 2 a.toNat ++ (Oct.be 2 b.toNat ++ (Oct.be 2 n.toNat ++ [0, 0]))
theorem hdL_length (a b n : Int) : (hdL a b n).length = 8 := by unfold hdL; simp [Oct.be_length]
theorem inP_size {body : ByteArray} (h : body.size ≤ 1492) : inP (8 + body.size) = true := (inP_iff _).2 (by omega)
theorem built_list {a b : Int} {body : ByteArray} (ha : inP a = true) (hb : inP b = true) (hs : body.size ≤ 1492) : (built a b body).data.toList = hdL a b (8 + body.size) ++ body.data.toList := by
  unfold built hdL
  simp only [app_list]
  rw [laid2 ha, laid2 hb, laid2 (inP_size hs), laid_zero]
  simp only [List.append_assoc]
theorem built_size {a b : Int} {body : ByteArray} (ha : inP a = true) (hb : inP b = true) (hs : body.size ≤ 1492) : (built a b body).size = 8 + body.size := by
  rw [← Oct.len_eq, built_list ha hb hs, List.length_append, hdL_length, Oct.len_eq]
/-- What begins with such a header: its numbers. -/
theorem got_head {s : ByteArray} {a b n : Int} {C : List UInt8} (ha : inP a = true) (hb : inP b = true) (hn : inP n = true) (hl : s.data.toList = hdL a b n ++ C) : got s 0 2 = a ∧ got s 2 2 = b ∧ got s 4 2 = n := by
  unfold hdL at hl
  simp only [List.append_assoc] at hl
  refine ⟨?_, ?_, ?_⟩
  · exact (got_part (A := []) (p := 0) (k := 2) hl rfl (Oct.be_length _ _) (by decide) (by decide)).trans (num_two ha)
  · exact (got_part (A := Oct.be 2 a.toNat) (p := 2) (k := 2) hl (Oct.be_length _ _) (Oct.be_length _ _) (by decide) (by decide)).trans (num_two hb)
  · exact (got_part (A := Oct.be 2 a.toNat ++ Oct.be 2 b.toNat) (B := Oct.be 2 n.toNat) (C := [0, 0] ++ C) (p := 4) (k := 2) (hl.trans (by simp only [List.append_assoc])) (by simp [Oct.be_length]) (Oct.be_length _ _) (by decide) (by decide)).trans (num_two hn)
theorem head_size {s : ByteArray} {a b n : Int} {C : List UInt8} (hl : s.data.toList = hdL a b n ++ C) : s.size = 8 + C.length := by rw [← Oct.len_eq, hl, List.length_append, hdL_length]
/-- A text that begins with such a header, and has at least as many bytes as it says. -/
theorem parse_head {s : ByteArray} {a b : Int} {k : Nat} {C : List UInt8} (ha : inP a = true) (hb : inP b = true) (hn : inP (8 + (k : Int)) = true) (hl : s.data.toList = hdL a b (8 + (k : Int)) ++ C) (hk : k ≤ C.length) :
    measE s = 0 ∧ measN s = 8 + (k : Int) ∧ parA s = a ∧ parB s = b ∧ (parC s).data.toList = C.take k := by
  obtain ⟨g0, g1, g2⟩ := got_head ha hb hn hl
  have hz := head_size hl
  have hE : measE s = 0 := by unfold measE; rw [if_neg (by omega), g2, if_neg (by omega), if_neg (by omega)]
  refine ⟨hE, ?_, ?_, ?_, ?_⟩
  · unfold measN; rw [if_pos hE, g2]
  · unfold parA; rw [if_pos hE, g0]
  · unfold parB; rw [if_pos hE, g1]
  · unfold parC
    rw [if_pos hE, g2, Oct.ext_list, hl]
    have e : (8 + (k : Int)).toNat = (hdL a b (8 + (k : Int))).length + k := by rw [hdL_length]; omega
    rw [e, List.take_length_add_append]
    have e8 : 8 = (hdL a b (8 + (k : Int))).length := (hdL_length _ _ _).symm
    rw [e8, List.drop_left]
/-- A datagram that was built, with anything behind. -/
theorem parse_built {a b : Int} {body : ByteArray} (ha : inP a = true) (hb : inP b = true) (hs : body.size ≤ 1492) (more : ByteArray) :
    measE (built a b body ++ more) = 0 ∧ measN (built a b body ++ more) = 8 + (body.size : Int) ∧ parA (built a b body ++ more) = a ∧ parB (built a b body ++ more) = b ∧ parC (built a b body ++ more) = body := by
  obtain ⟨h1, h2, h3, h4, h5⟩ := parse_head (s := built a b body ++ more) (C := body.data.toList ++ more.data.toList) ha hb (inP_size hs) (by rw [app_list, built_list ha hb hs, List.append_assoc]) (by rw [List.length_append, Oct.len_eq]; omega)
  refine ⟨h1, h2, h3, h4, Oct.ba_ext ?_⟩
  rw [h5, ← Oct.len_eq, List.take_left]
theorem app_nil (s : ByteArray) : s ++ (⟨#[]⟩ : ByteArray) = s := Oct.ba_ext (by rw [app_list]; exact List.append_nil _)
theorem parse_alone {a b : Int} {body : ByteArray} (ha : inP a = true) (hb : inP b = true) (hs : body.size ≤ 1492) :
    measE (built a b body) = 0 ∧ measN (built a b body) = 8 + (body.size : Int) := by
  have h := parse_built ha hb hs ⟨#[]⟩
  rw [app_nil] at h
  exact ⟨h.1, h.2.1⟩
/-- A datagram that is cut. -/
theorem cut_no {a b : Int} {body : ByteArray} (ha : inP a = true) (hb : inP b = true) (hs : body.size ≤ 1492) (k : Nat) (hk : k < 8 + body.size) : measE ((built a b body).extract 0 k) ≠ 0 := by
  have hz := built_size ha hb hs
  have he : ((built a b body).extract 0 k).size = k := by rw [Oct.ext_size _ _ _ (by omega)]; omega
  by_cases h8 : k < 8
  · unfold measE; rw [if_pos (by omega)]; decide
  · have hl : ((built a b body).extract 0 k).data.toList = hdL a b (8 + body.size) ++ body.data.toList.take (k - 8) := by
      rw [Oct.ext_list, List.drop_zero, built_list ha hb hs, List.take_append, hdL_length, List.take_of_length_le (by rw [hdL_length]; omega)]
    obtain ⟨_, _, g2⟩ := got_head ha hb (inP_size hs) hl
    unfold measE
    rw [if_neg (by omega), g2, if_neg (by omega), if_pos (by omega)]
    decide
end Go.Proofs.Ytmeafeomfblncaa
