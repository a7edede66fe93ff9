/- What Get, Put and Set answer, and what the reference answers, by one plain function each. -/
import Derived.Test.YtmeafeomfblncaaRef
namespace Go.Proofs.Ytmeafeomfblncaa
open Go.ChangeShapes Go.WideShapes Go.ChangeAt Go.RowKit

def Fits (s : ByteArray) (pos size : Int) : Prop := (1 ≤ size ∧ size ≤ 4) ∧ 0 ≤ pos ∧ pos ≤ s.size - size
def Room (size n : Int) : Prop := (1 ≤ size ∧ size ≤ 4) ∧ 0 ≤ n ∧ n.toNat < 256 ^ size.toNat
def gotB (s : ByteArray) (pos size : Int) : Bool := decide ((1 ≤ size ∧ size ≤ 4) ∧ 0 ≤ pos ∧ pos ≤ s.size - size)
def got (s : ByteArray) (pos size : Int) : Int := if gotB s pos size = true then Oct.num ((s.data.toList.drop pos.toNat).take size.toNat) else 0
def laidB (size n : Int) : Bool := decide ((1 ≤ size ∧ size ≤ 4) ∧ 0 ≤ n ∧ n.toNat < 256 ^ size.toNat)
def laid (size n : Int) : ByteArray := if laidB size n = true then ⟨(Oct.be size.toNat n.toNat).toArray⟩ else ⟨#[]⟩
def setB (s : ByteArray) (pos size n : Int) : Bool := gotB s pos size && laidB size n
def set (s : ByteArray) (pos size n : Int) : ByteArray := if setB s pos size n = true then ⟨(Oct.put s.data.toList pos.toNat size.toNat n.toNat).toArray⟩ else ⟨#[]⟩

theorem gotB_iff (s : ByteArray) (pos size : Int) : gotB s pos size = true ↔ Fits s pos size := by unfold gotB Fits; exact decide_eq_true_iff
theorem laidB_iff (size n : Int) : laidB size n = true ↔ Room size n := by unfold laidB Room; exact decide_eq_true_iff

theorem get_any (s : ByteArray) (pos size : Int) (w : World) (hs : s.size ≤ maxLen) :
    Calls Try.prog 28 #[.string s, .int .i64 pos, .int .i64 size] w fun e w' => e = .returned (.tuple #[.int .i64 (got s pos size), .bool (gotB s pos size)]) ∧ w' = w := by
  cases hb : gotB s pos size with
  | true =>
    obtain ⟨⟨h1, h2⟩, h3, h4⟩ := (gotB_iff s pos size).1 hb
    rw [got, if_pos hb]
    exact get_yes s pos size w hs h1 h2 h3 h4
  | false =>
    rw [got, if_neg (by rw [hb]; decide)]
    exact get_no s pos size w hs (fun h => by rw [(gotB_iff s pos size).2 h] at hb; cases hb)

theorem rget_any (s : ByteArray) (pos size : Int) (w : World) (hs : s.size ≤ maxLen) :
    Calls Try.prog 30 #[.string s, .int .i64 pos, .int .i64 size] w fun e w' => e = .returned (.tuple #[.int .i64 (got s pos size), .bool (gotB s pos size)]) ∧ w' = w := by
  cases hb : gotB s pos size with
  | true =>
    obtain ⟨⟨h1, h2⟩, h3, h4⟩ := (gotB_iff s pos size).1 hb
    rw [got, if_pos hb]
    exact rget_yes s pos size w hs h1 h2 h3 h4
  | false =>
    rw [got, if_neg (by rw [hb]; decide)]
    exact rget_no s pos size w hs (fun h => by rw [(gotB_iff s pos size).2 h] at hb; cases hb)

theorem put_any (size n : Int) (w : World) :
    Calls Try.prog 34 #[.int .i64 size, .int .i64 n] w fun e w' => e = .returned (.tuple #[.string (laid size n), .bool (laidB size n)]) ∧ Below w.heap.size w w' := by
  cases hb : laidB size n with
  | true =>
    obtain ⟨⟨h1, h2⟩, h3, h4⟩ := (laidB_iff size n).1 hb
    rw [laid, if_pos hb]
    exact put_yes size n w h1 h2 h3 h4
  | false =>
    rw [laid, if_neg (by rw [hb]; decide)]
    refine (put_no size n w (fun h => by rw [(laidB_iff size n).2 h] at hb; cases hb)).mono ?_
    rintro e w' ⟨rfl, rfl⟩
    exact ⟨rfl, Below.refl _ _⟩

theorem rput_any (size n : Int) (w : World) :
    Calls Try.prog 38 #[.int .i64 size, .int .i64 n] w fun e w' => e = .returned (.tuple #[.string (laid size n), .bool (laidB size n)]) ∧ Below w.heap.size w w' := by
  cases hb : laidB size n with
  | true =>
    obtain ⟨⟨h1, h2⟩, h3, h4⟩ := (laidB_iff size n).1 hb
    rw [laid, if_pos hb]
    exact rput_yes size n w h1 h2 h3 h4
  | false =>
    rw [laid, if_neg (by rw [hb]; decide)]
    refine (rput_no size n w (fun h => by rw [(laidB_iff size n).2 h] at hb; cases hb)).mono ?_
    rintro e w' ⟨rfl, rfl⟩
    exact ⟨rfl, Below.refl _ _⟩

theorem set_any (s : ByteArray) (pos size n : Int) (w : World) (hs : s.size ≤ maxLen) :
    Calls Try.prog 19 #[.string s, .int .i64 pos, .int .i64 size, .int .i64 n] w fun e w' => e = .returned (.tuple #[.string (set s pos size n), .bool (setB s pos size n)]) ∧ Below w.heap.size w w' := by
  cases hb : gotB s pos size with
  | true =>
    obtain ⟨⟨h1, h2⟩, h3, h4⟩ := (gotB_iff s pos size).1 hb
    cases hc : laidB size n with
    | true =>
      obtain ⟨_, h5, h6⟩ := (laidB_iff size n).1 hc
      have hd : setB s pos size n = true := by rw [setB, hb, hc]; rfl
      rw [set, if_pos hd, hd]
      exact set_yes s pos size n w hs h1 h2 h3 h4 h5 h6
    | false =>
      have hd : setB s pos size n = false := by rw [setB, hb, hc]; rfl
      rw [set, if_neg (by rw [hd]; decide), hd]
      refine (set_no2 s pos size n w hs h1 h2 h3 h4 (fun h => by rw [(laidB_iff size n).2 h] at hc; cases hc)).mono ?_
      rintro e w' ⟨rfl, rfl⟩
      exact ⟨rfl, Below.refl _ _⟩
  | false =>
    have hd : setB s pos size n = false := by rw [setB, hb]; rfl
    rw [set, if_neg (by rw [hd]; decide), hd]
    refine (set_no1 s pos size n w hs (fun h => by rw [(gotB_iff s pos size).2 h] at hb; cases hb)).mono ?_
    rintro e w' ⟨rfl, rfl⟩
    exact ⟨rfl, Below.refl _ _⟩

set_option maxHeartbeats 1000000 in
theorem rset_no (s : ByteArray) (pos size n : Int) (w : World) (hs : s.size ≤ maxLen) (hd : setB s pos size n = false) :
    Calls Try.prog 24 #[.string s, .int .i64 pos, .int .i64 size, .int .i64 n] w fun e w' => e = .returned (.tuple #[.string ⟨#[]⟩, .bool false]) ∧ Below w.heap.size w w' := by
  cases hb : gotB s pos size with
  | false =>
    have HB : Hid (gotB s pos size = false) := hb
    clear hb hd
    go_enter Try.func24, Try.ntmps24
    go_wp2_with fail
    refine (rget_any _ _ _ _ hs).mono ?_
    rintro e w1 ⟨rfl, rfl⟩
    rw [HB.out]
    go_wp2_with fail
    refine (rput_any _ _ _).mono ?_
    rintro e w2 ⟨rfl, hg⟩
    go_wp2_with fail
    go_ret2
    exact ⟨rfl, hg⟩
  | true =>
    have hc : laidB size n = false := by rw [setB, hb] at hd; exact hd
    have HB : Hid (gotB s pos size = true) := hb
    have HC : Hid (laidB size n = false) := hc
    clear hb hd hc
    go_enter Try.func24, Try.ntmps24
    go_wp2_with fail
    refine (rget_any _ _ _ _ hs).mono ?_
    rintro e w1 ⟨rfl, rfl⟩
    rw [HB.out]
    go_wp2_with fail
    refine (rput_any _ _ _).mono ?_
    rintro e w2 ⟨rfl, hg⟩
    rw [HC.out]
    go_wp2_with fail
    go_ret2
    exact ⟨rfl, hg⟩

set_option maxHeartbeats 1000000 in
theorem rset_yes (s : ByteArray) (pos size n : Int) (w : World) (hs : s.size ≤ maxLen) (h1 : 1 ≤ size) (h2 : size ≤ 4) (h3 : 0 ≤ pos) (h4 : pos ≤ s.size - size)
    (h5 : 0 ≤ n) (h6 : n.toNat < 256 ^ size.toNat) :
    Calls Try.prog 24 #[.string s, .int .i64 pos, .int .i64 size, .int .i64 n] w fun e w' => e = .returned (.tuple #[.string ⟨(Oct.put s.data.toList pos.toNat size.toNat n.toNat).toArray⟩, .bool true]) ∧ Below w.heap.size w w' := by
  have hs' := hs
  unfold maxLen at hs'
  have H6 : Hid (n.toNat < 256 ^ size.toNat) := h6
  clear h6
  have hp1 : pos ≤ s.size := by omega
  have hp2 : pos + size ≤ s.size := by omega
  have hp3 : 0 ≤ pos + size := by omega
  have hz1 : (s.extract 0 pos.toNat).size + (ByteArray.mk (Oct.be size.toNat n.toNat).toArray).size ≤ 9223372036854775807 := by
    rw [Oct.ext_size _ _ _ (by omega), Oct.mk_size, Oct.be_length]; omega
  have hz2 : (s.extract 0 pos.toNat ++ ByteArray.mk (Oct.be size.toNat n.toNat).toArray).size + (s.extract (pos + size).toNat s.size).size ≤ 9223372036854775807 := by
    rw [ByteArray.size_append, Oct.ext_size _ _ _ (by omega), Oct.ext_size _ _ _ (by omega), Oct.mk_size, Oct.be_length]; omega
  have ha1 := fun wx => run_string_add_sum (P := Try.prog) (w := wx) _ _ hz1
  have ha2 := fun wx => run_string_add_sum (P := Try.prog) (w := wx) _ _ hz2
  clear hz1 hz2
  go_enter Try.func24, Try.ntmps24
  go_wp2_with fail
  refine (rget_yes _ _ _ _ hs h1 h2 h3 h4).mono ?_
  rintro e w' ⟨rfl, rfl⟩
  generalize (Oct.num ((s.data.toList.drop pos.toNat).take size.toNat) : Int) = u
  go_wp2_with fail
  refine (rput_yes _ _ _ h1 h2 h5 H6.out).mono ?_
  rintro e w1 ⟨rfl, hg⟩
  go_wp2_with fail
  go_region
  go_wp2_with fail
  go_ret2
  exact ⟨Oct.ret_sb (Oct.put_eq s pos size n h3 (by omega)), hg.drew⟩

theorem rset_any (s : ByteArray) (pos size n : Int) (w : World) (hs : s.size ≤ maxLen) :
    Calls Try.prog 24 #[.string s, .int .i64 pos, .int .i64 size, .int .i64 n] w fun e w' => e = .returned (.tuple #[.string (set s pos size n), .bool (setB s pos size n)]) ∧ Below w.heap.size w w' := by
  cases hd : setB s pos size n with
  | true =>
    have hh := hd
    rw [setB, Bool.and_eq_true] at hh
    obtain ⟨⟨h1, h2⟩, h3, h4⟩ := (gotB_iff s pos size).1 hh.1
    obtain ⟨_, h5, h6⟩ := (laidB_iff size n).1 hh.2
    rw [set, if_pos hd]
    exact rset_yes s pos size n w hs h1 h2 h3 h4 h5 h6
  | false =>
    rw [set, if_neg (by rw [hd]; decide)]
    exact rset_no s pos size n w hs hd
end Go.Proofs.Ytmeafeomfblncaa
