/- Contracts and mathematics of the layers below (PsBase, UdMath, UdBuild, UdSize, UdRefs, UdMake, UdPar, UdRbd). -/
import Derived.Test.YtpjaajeojiaeiaaGreatDoorBs
import Derived.Test.YtpjaajeojiaeiaaGreatDoorCk
import Derived.Laws.IdiomStrings
import Derived.Laws.MakeOwn
import Derived.Laws.OwnMore
import Derived.Test.YtpjaajeojiaeiaaGreatDoorCl
/- Small words that all other texts use: what a call returned, texts put together, what cells a row of numbers has. -/
namespace Go.Proofs.YtpjaajeojiaeiaaGreatDoor.Ps
open Go.ChangeShapes Go.WideShapes Go.ChangeAt Go.RowKit

theorem ret_str {a b : ByteArray} (h : a = b) : Ending.returned (.string a) = .returned (.string b) := by rw [h]
theorem ret_bool {a b : Bool} (h : a = b) : Ending.returned (.bool a) = .returned (.bool b) := by rw [h]
theorem ret_sb {a b : ByteArray} {x y : Bool} (h1 : a = b) (h2 : x = y) : Ending.returned (.tuple #[.string a, .bool x]) = .returned (.tuple #[.string b, .bool y]) := by rw [h1, h2]
theorem ret_si {a b : ByteArray} {x y : Int} (h1 : a = b) (h2 : x = y) : Ending.returned (.tuple #[.string a, .int .i64 x]) = .returned (.tuple #[.string b, .int .i64 y]) := by rw [h1, h2]
theorem ret_ii {a b x y : Int} (h1 : a = b) (h2 : x = y) : Ending.returned (.tuple #[.int .i64 a, .int .i64 x]) = .returned (.tuple #[.int .i64 b, .int .i64 y]) := by rw [h1, h2]
theorem ret_kb {k : IntKind} {a b : Int} {x y : Bool} (h1 : a = b) (h2 : x = y) : Ending.returned (.tuple #[.int k a, .bool x]) = .returned (.tuple #[.int k b, .bool y]) := by rw [h1, h2]
theorem add_run (x y : ByteArray) (hx : x.size ≤ 281474976710656) (hy : y.size ≤ 281474976710656) : ∀ wx, (Op.stringOp .add x y).run Tryz.prog wx = .ok (.string (x ++ y)) wx := fun wx => run_string_add_sum (P := Tryz.prog) (w := wx) x y (by omega)
theorem app_list (a b : ByteArray) : (a ++ b).data.toList = a.data.toList ++ b.data.toList := by rw [ByteArray.data_append, Array.toList_append]
theorem wrap_u32 (n : Int) (h0 : 0 ≤ n) (h1 : n ≤ 4294967295) : IntKind.u32.wrap n = n := by rw [IntKind.wrap_u32]; omega
theorem cell_on {w w' : World} {p : Addr} {v : Value} (h : w.cell? p = some v) (hb : Below w.heap.size w w') : w'.cell? p = some v := (hb.cell (block_lt_of_cell h)).trans h
/-- From the head of block g on stand the numbers zs. -/
def Rds (w : World) (g : Nat) (zs : List Int) : Prop := ∀ i, i < zs.length → w.cell? ⟨g, i, none⟩ = some (.int .i64 (zs.getD i 0))
theorem Rds.on {W W' : World} {g : Nat} {zs : List Int} (h : Rds W g zs) (hb : Below W.heap.size W W') : Rds W' g zs := fun i hi => by
 rw [hb.cell (block_lt_of_cell (h i hi))]; exact h i hi
end Go.Proofs.YtpjaajeojiaeiaaGreatDoor.Ps

/- Datagrams as rows of bytes: what Build answers, what Parse answers, and how the two go together. Nothing of the program is in here. -/
namespace Go.Proofs.YtpjaajeojiaeiaaGreatDoor.Ps
open Go.ChangeShapes Go.WideShapes Go.ChangeAt Go.RowKit

theorem laid_size (s n : Int) : (laid s n).size ≤ 4 := by
 unfold laid
 split
 ·rename_i h
  obtain ⟨⟨h1, h2⟩, _⟩ := (laidB_iff s n).1 h
  rw [Oct.mk_size, Oct.be_length]; omega
 ·exact Nat.zero_le _
theorem laid_zero : laid 2 0 = ⟨#[0, 0]⟩ := by
 unfold laid
 rw [if_pos ((laidB_iff 2 0).2 ⟨⟨by decide, by decide⟩, by decide, by decide⟩)]
 rfl
/-- A port: 0 to 65535. -/
def inP (n : Int) : Bool := decide (0 ≤ n) && decide (n ≤ 65535)
theorem inP_iff (n : Int) : inP n = true ↔ 0 ≤ n ∧ n ≤ 65535 := by simp [inP]
theorem laidB_two (n : Int) : laidB 2 n = inP n := by
 rw [Bool.eq_iff_iff, laidB_iff, inP_iff]
 constructor
 ·rintro ⟨_, h0, h1⟩
  have h2 : n.toNat < 65536 := h1
  omega
 ·rintro ⟨h0, h1⟩
  exact ⟨⟨by decide, by decide⟩, h0, by show _ < 65536; omega⟩
theorem laid2 {n : Int} (h : inP n = true) : (laid 2 n).data.toList = Oct.be 2 n.toNat := by
 unfold laid
 rw [laidB_two, if_pos h]
 rfl

/-- Two numbers one behind the other, and whether each has room. -/
def textB (a b : Int) : Bool := inP a && inP b
/-- The datagram of two ports and a body. -/
def built (a b : Int) (body : ByteArray) : ByteArray := laid 2 a ++ laid 2 b ++ (laid 2 (8 + body.size) ++ laid 2 0) ++ body
def buildE (a b : Int) (body : ByteArray) : Int := if textB a b = false then 1 else if 1500 < 8 + (body.size : Int) then 18 else 0
def buildS (a b : Int) (body : ByteArray) : ByteArray := if buildE a b body = 0 then built a b body else ⟨#[]⟩
theorem buildE_of {a b : Int} {body : ByteArray} (ha : inP a = true) (hb : inP b = true) (hs : body.size ≤ 1492) : buildE a b body = 0 := by
 unfold buildE textB
 rw [ha, hb, if_neg (by decide), if_neg (by omega)]
theorem buildS_of {a b : Int} {body : ByteArray} (he : buildE a b body = 0) : buildS a b body = built a b body := by unfold buildS; rw [if_pos he]
theorem buildS_no {a b : Int} {body : ByteArray} (he : buildE a b body ≠ 0) : buildS a b body = ⟨#[]⟩ := by unfold buildS; rw [if_neg he]
/-- What a text's header tells. -/
def measE (s : ByteArray) : Int := if s.size < 8 then 2 else if got s 4 2 < 8 then 5 else if (s.size : Int) < got s 4 2 then 5 else 0
def measN (s : ByteArray) : Int := if measE s = 0 then got s 4 2 else 0
def parA (s : ByteArray) : Int := if measE s = 0 then got s 0 2 else 0
def parB (s : ByteArray) : Int := if measE s = 0 then got s 2 2 else 0
def parC (s : ByteArray) : ByteArray := if measE s = 0 then s.extract 8 (got s 4 2).toNat else ⟨#[]⟩
theorem measE_ok {s : ByteArray} (he : measE s = 0) : 8 ≤ s.size ∧ 8 ≤ got s 4 2 ∧ got s 4 2 ≤ s.size := by
 unfold measE at he
 split at he
 ·cases he
 ·split at he
  ·cases he
  ·split at he
   ·cases he
   ·omega
theorem parC_size (s : ByteArray) : (parC s).size ≤ s.size := by
 unfold parC
 split
 ·rw [ByteArray.size_extract]; omega
 ·exact Nat.zero_le _

theorem got_part {s : ByteArray} {A B C : List UInt8} {p k : Nat} (hl : s.data.toList = A ++ (B ++ C)) (ha : A.length = p) (hb : B.length = k) (k1 : 1 ≤ k) (k4 : k ≤ 4) : got s p k = (Oct.num B : Int) := by
 have hz : s.size = p + k + C.length := by rw [← Oct.len_eq, hl, List.length_append, List.length_append]; omega
 have hg : gotB s p k = true := (gotB_iff s p k).2 ⟨⟨by omega, by omega⟩, by omega, by omega⟩
 rw [got, if_pos hg, hl]
 have e1 : ((p : Int)).toNat = A.length := by omega
 have e2 : ((k : Int)).toNat = B.length := by omega
 rw [e1, e2, List.drop_left, List.take_left]
theorem num_two {n : Int} (h : inP n = true) : (Oct.num (Oct.be 2 n.toNat) : Int) = n := by
 obtain ⟨h0, h1⟩ := (inP_iff n).1 h
 rw [Oct.num_be 2 _ (by show _ < 65536; omega)]; omega
/-- Eight bytes: the ports, a length, two bytes 0. -/
def hdL (a b n : Int) : List UInt8 := Oct.be 2 a.toNat ++ (Oct.be 2 b.toNat ++ (Oct.be 2 n.toNat ++ [0, 0]))
theorem hdL_length (a b n : Int) : (hdL a b n).length = 8 := by unfold hdL; simp [Oct.be_length]
theorem inP_size {body : ByteArray} (h : body.size ≤ 1492) : inP (8 + body.size) = true := (inP_iff _).2 (by omega)
theorem built_list {a b : Int} {body : ByteArray} (ha : inP a = true) (hb : inP b = true) (hs : body.size ≤ 1492) : (built a b body).data.toList = hdL a b (8 + body.size) ++ body.data.toList := by
 unfold built hdL
 simp only [app_list]
 rw [laid2 ha, laid2 hb, laid2 (inP_size hs), laid_zero]
 simp only [List.append_assoc]
theorem built_size {a b : Int} {body : ByteArray} (ha : inP a = true) (hb : inP b = true) (hs : body.size ≤ 1492) : (built a b body).size = 8 + body.size := by
 rw [← Oct.len_eq, built_list ha hb hs, List.length_append, hdL_length, Oct.len_eq]
/-- What begins with such a header: its numbers. -/
theorem got_head {s : ByteArray} {a b n : Int} {C : List UInt8} (ha : inP a = true) (hb : inP b = true) (hn : inP n = true) (hl : s.data.toList = hdL a b n ++ C) : got s 0 2 = a ∧ got s 2 2 = b ∧ got s 4 2 = n := by
 unfold hdL at hl
 simp only [List.append_assoc] at hl
 refine ⟨?_, ?_, ?_⟩
 ·exact (got_part (A := []) (p := 0) (k := 2) hl rfl (Oct.be_length _ _) (by decide) (by decide)).trans (num_two ha)
 ·exact (got_part (A := Oct.be 2 a.toNat) (p := 2) (k := 2) hl (Oct.be_length _ _) (Oct.be_length _ _) (by decide) (by decide)).trans (num_two hb)
 ·exact (got_part (A := Oct.be 2 a.toNat ++ Oct.be 2 b.toNat) (B := Oct.be 2 n.toNat) (C := [0, 0] ++ C) (p := 4) (k := 2) (hl.trans (by simp only [List.append_assoc])) (by simp [Oct.be_length]) (Oct.be_length _ _) (by decide) (by decide)).trans (num_two hn)
theorem head_size {s : ByteArray} {a b n : Int} {C : List UInt8} (hl : s.data.toList = hdL a b n ++ C) : s.size = 8 + C.length := by rw [← Oct.len_eq, hl, List.length_append, hdL_length]
/-- A text that begins with such a header, and has at least as many bytes as it says. -/
theorem parse_head {s : ByteArray} {a b : Int} {k : Nat} {C : List UInt8} (ha : inP a = true) (hb : inP b = true) (hn : inP (8 + (k : Int)) = true) (hl : s.data.toList = hdL a b (8 + (k : Int)) ++ C) (hk : k ≤ C.length) :
  measE s = 0 ∧ measN s = 8 + (k : Int) ∧ parA s = a ∧ parB s = b ∧ (parC s).data.toList = C.take k := by
 obtain ⟨g0, g1, g2⟩ := got_head ha hb hn hl
 have hz := head_size hl
 have hE : measE s = 0 := by unfold measE; rw [if_neg (by omega), g2, if_neg (by omega), if_neg (by omega)]
 refine ⟨hE, ?_, ?_, ?_, ?_⟩
 ·unfold measN; rw [if_pos hE, g2]
 ·unfold parA; rw [if_pos hE, g0]
 ·unfold parB; rw [if_pos hE, g1]
 ·unfold parC
  rw [if_pos hE, g2, Oct.ext_list, hl]
  have e : (8 + (k : Int)).toNat = (hdL a b (8 + (k : Int))).length + k := by rw [hdL_length]; omega
  rw [e, List.take_length_add_append]
  have e8 : 8 = (hdL a b (8 + (k : Int))).length := (hdL_length _ _ _).symm
  rw [e8, List.drop_left]
/-- A datagram that was built, with anything behind. -/
theorem parse_built {a b : Int} {body : ByteArray} (ha : inP a = true) (hb : inP b = true) (hs : body.size ≤ 1492) (more : ByteArray) :
  measE (built a b body ++ more) = 0 ∧ measN (built a b body ++ more) = 8 + (body.size : Int) ∧ parA (built a b body ++ more) = a ∧ parB (built a b body ++ more) = b ∧ parC (built a b body ++ more) = body := by
 obtain ⟨h1, h2, h3, h4, h5⟩ := parse_head (s := built a b body ++ more) (C := body.data.toList ++ more.data.toList) ha hb (inP_size hs) (by rw [app_list, built_list ha hb hs, List.append_assoc]) (by rw [List.length_append, Oct.len_eq]; omega)
 refine ⟨h1, h2, h3, h4, Oct.ba_ext ?_⟩
 rw [h5, ← Oct.len_eq, List.take_left]
theorem app_nil (s : ByteArray) : s ++ (⟨#[]⟩ : ByteArray) = s := Oct.ba_ext (by rw [app_list]; exact List.append_nil _)
end Go.Proofs.YtpjaajeojiaeiaaGreatDoor.Ps

/- What text and Build of package udp compute: one contract a function. -/
namespace Go.Proofs.YtpjaajeojiaeiaaGreatDoor.Ps
open Go.ChangeShapes Go.WideShapes Go.ChangeAt Go.RowKit

end Go.Proofs.YtpjaajeojiaeiaaGreatDoor.Ps

/- What measured and Size of package udp compute: one contract a function. -/
namespace Go.Proofs.YtpjaajeojiaeiaaGreatDoor.Ps
open Go.ChangeShapes Go.WideShapes Go.ChangeAt Go.RowKit

theorem ret_iisi {a a' b b' x x' : Int} {c c' : ByteArray} (h1 : a = a') (h2 : b = b') (h3 : c = c') (h4 : x = x') : Ending.returned (.tuple #[.int .i64 a, .int .i64 b, .string c, .int .i64 x]) = .returned (.tuple #[.int .i64 a', .int .i64 b', .string c', .int .i64 x']) := by rw [h1, h2, h3, h4]
theorem meas_no {s : ByteArray} (h : measE s ≠ 0) : measN s = 0 ∧ parA s = 0 ∧ parB s = 0 ∧ parC s = ⟨#[]⟩ := by
 unfold measN parA parB parC; rw [if_neg h, if_neg h, if_neg h, if_neg h]; exact ⟨rfl, rfl, rfl, rfl⟩
theorem meas_yes {s : ByteArray} (h : measE s = 0) : measN s = got s 4 2 ∧ parA s = got s 0 2 ∧ parB s = got s 2 2 ∧ parC s = s.extract 8 (got s 4 2).toNat := by
 unfold measN parA parB parC; rw [if_pos h, if_pos h, if_pos h, if_pos h]; exact ⟨rfl, rfl, rfl, rfl⟩

set_option maxHeartbeats 1000000 in
theorem measured_any (s : ByteArray) (w : World) (hs : s.size ≤ 281474976710656) :
  Calls Tryz.prog 141 #[.string s] w fun e w' => e = .returned (.tuple #[.int .i64 (measN s), .int .i64 (measE s)]) ∧ w' = w := by
 have hm : s.size ≤ maxLen := by unfold maxLen; omega
 have HG := hide (get_any s 4 2 w hm)
 by_cases h8 : s.size < 8
 ·have HE : Hid (measE s = 2) := by show _ = _; unfold measE; rw [if_pos h8]
  have HN : Hid (measN s = 0) := (meas_no (by rw [HE.out]; decide)).1
  have h8' : (s.size : Int) < 8 := by omega
  go_enter Tryz.func141, Tryz.ntmps141
  go_wp2_with fail
  go_ret2
  exact ⟨ret_ii HN.out.symm HE.out.symm, rfl⟩
 ·have d8 : decide ((s.size : Int) < 8) = false := by simp; omega
  by_cases h1 : got s 4 2 < 8
  ·have HE : Hid (measE s = 5) := by show _ = _; unfold measE; rw [if_neg h8, if_pos h1]
   have HN : Hid (measN s = 0) := (meas_no (by rw [HE.out]; decide)).1
   generalize got s 4 2 = n at *
   have d1 : decide (n < 8) = true := by simpa using h1
   go_enter Tryz.func141, Tryz.ntmps141
   go_wp2_with fail
   refine (unhide HG).mono ?_
   rintro e w1 ⟨rfl, rfl⟩
   go_wp2_with fail
   go_ret2
   exact ⟨ret_ii HN.out.symm HE.out.symm, rfl⟩
  ·by_cases h2 : (s.size : Int) < got s 4 2
   ·have HE : Hid (measE s = 5) := by show _ = _; unfold measE; rw [if_neg h8, if_neg h1, if_pos h2]
    have HN : Hid (measN s = 0) := (meas_no (by rw [HE.out]; decide)).1
    generalize got s 4 2 = n at *
    have d1 : decide (n < 8) = false := by simpa using h1
    have d2 : decide ((s.size : Int) < n) = true := by simpa using h2
    go_enter Tryz.func141, Tryz.ntmps141
    go_wp2_with fail
    refine (unhide HG).mono ?_
    rintro e w1 ⟨rfl, rfl⟩
    go_wp2_with fail
    go_ret2
    exact ⟨ret_ii HN.out.symm HE.out.symm, rfl⟩
   ·have HE : Hid (measE s = 0) := by show _ = _; unfold measE; rw [if_neg h8, if_neg h1, if_neg h2]
    have HN : Hid (measN s = got s 4 2) := (meas_yes HE.out).1
    generalize got s 4 2 = n at *
    have d1 : decide (n < 8) = false := by simpa using h1
    have d2 : decide ((s.size : Int) < n) = false := by simpa using h2
    go_enter Tryz.func141, Tryz.ntmps141
    go_wp2_with fail
    refine (unhide HG).mono ?_
    rintro e w1 ⟨rfl, rfl⟩
    go_wp2_with fail
    go_ret2
    exact ⟨ret_ii HN.out.symm HE.out.symm, rfl⟩

set_option maxHeartbeats 1000000 in
theorem size_any (s : ByteArray) (w : World) (hs : s.size ≤ 281474976710656) :
  Calls Tryz.prog 149 #[.string s] w fun e w' => e = .returned (.tuple #[.int .i64 (measN s), .bool (measE s == 0)]) ∧ w' = w := by
 have HM := hide (measured_any s w hs)
 generalize measN s = n at *
 generalize measE s = x at *
 go_enter Tryz.func149, Tryz.ntmps149
 go_wp2_with fail
 refine (unhide HM).mono ?_
 rintro e w1 ⟨rfl, rfl⟩
 go_wp2_with fail
 go_ret2
 exact ⟨rfl, rfl⟩

end Go.Proofs.YtpjaajeojiaeiaaGreatDoor.Ps

/- What the reference Parse and Size of chapter 6 compute: the same as the program's. -/
namespace Go.Proofs.YtpjaajeojiaeiaaGreatDoor.Ps
open Go.ChangeShapes Go.WideShapes Go.ChangeAt Go.RowKit

set_option maxHeartbeats 400000 in
theorem num_any (size n : Int) (w : World) :
  Calls Tryz.prog 45 #[.int .i64 size, .int .i64 n] w fun e w' => e = .returned (.string (laid size n)) ∧ Below w.heap.size w w' := by
 go_enter Tryz.func45, Tryz.ntmps45
 go_wp2_with fail
 refine (rput_any _ _ _).mono ?_
 rintro e w' ⟨rfl, hb⟩
 go_wp2_with fail
 go_ret
 exact ⟨rfl, hb⟩

theorem port_cases {n : Int} (h : inP n = false) : n < 0 ∨ 65535 < n := by
 by_cases h0 : n < 0
 ·exact .inl h0
 ·by_cases h1 : 65535 < n
  ·exact .inr h1
  ·rw [(inP_iff n).2 (by omega)] at h; cases h

set_option maxHeartbeats 1000000 in
theorem rparse_any (s : ByteArray) (w : World) (hs : s.size ≤ 281474976710656) :
  Calls Tryz.prog 89 #[.string s] w fun e w' => e = .returned (.tuple #[.int .i64 (parA s), .int .i64 (parB s), .string (parC s), .int .i64 (measE s)]) ∧ Below w.heap.size w w' := by
 have hm : s.size ≤ maxLen := by unfold maxLen; omega
 by_cases h8 : s.size < 8
 ·have he : measE s = 2 := by unfold measE; rw [if_pos h8]
  have HE := hide (meas_no (by rw [he]; decide))
  have HZ := hide he
  have h8' : decide ((s.size : Int) < 8) = true := by simp; omega
  clear he
  go_enter Tryz.func89, Tryz.ntmps89
  go_wp2_with fail
  refine bodyPost_ret (v := .tuple #[.int .i64 0, .int .i64 0, .string ⟨#[]⟩, .int .i64 2]) (by simp [results, Tryz.results89, go_sem]) rfl ⟨?_, Below.refl _ _⟩
  exact ret_iisi (unhide HE).2.1.symm (unhide HE).2.2.1.symm (unhide HE).2.2.2.symm (unhide HZ).symm
 ·have d8 : decide ((s.size : Int) < 8) = false := by simp; omega
  have H0 := hide (rget_any s 0 2 w hm)
  have H2 := hide (rget_any s 2 2 w hm)
  have H4 := hide (rget_any s 4 2 w hm)
  generalize gotB s 0 2 = q0 at *
  generalize gotB s 2 2 = q2 at *
  generalize gotB s 4 2 = q4 at *
  by_cases he : measE s = 0
  ·obtain ⟨_, n0, n1⟩ := measE_ok he
   have HE := hide (meas_yes he)
   have HZ := hide he
   obtain ⟨k, hk⟩ : ∃ k : Nat, got s 4 2 = k := ⟨(got s 4 2).toNat, by omega⟩
   rw [hk] at H4 HE n0 n1
   rw [Int.toNat_natCast] at HE
   have d1 : decide ((k : Int) < 8) = false := by simp; omega
   have d2 : decide ((s.size : Int) < (k : Int)) = false := by simp; omega
   generalize got s 0 2 = x at *
   generalize got s 2 2 = y at *
   clear hk he
   go_enter Tryz.func89, Tryz.ntmps89
   go_wp2_with fail
   refine (unhide H0).mono ?_
   rintro e w1 ⟨rfl, rfl⟩
   go_wp2_with fail
   refine (unhide H2).mono ?_
   rintro e w1 ⟨rfl, rfl⟩
   go_wp2_with fail
   refine (unhide H4).mono ?_
   rintro e w1 ⟨rfl, rfl⟩
   go_wp2_with fail
   go_quiet (fail)
   go_wp2_with fail
   refine bodyPost_ret (v := .tuple #[.int .i64 x, .int .i64 y, .string (s.extract 8 k), .int .i64 0]) (by simp [results, Tryz.results89, go_sem]) rfl ⟨?_, ?_⟩
   ·exact ret_iisi (unhide HE).2.1.symm (unhide HE).2.2.1.symm (unhide HE).2.2.2.symm (unhide HZ).symm
   ·exact below_drewN (Below.refl _ _) _
  ·have he5 : measE s = 5 := by
    unfold measE at he ⊢
    rw [if_neg h8] at he ⊢
    split
    ·rfl
    ·rename_i h1
     rw [if_neg h1] at he
     split
     ·rfl
     ·rename_i h2
      rw [if_neg h2] at he
      exact absurd rfl he
   have hc : got s 4 2 < 8 ∨ ¬ got s 4 2 < 8 ∧ (s.size : Int) < got s 4 2 := by
    by_cases h1 : got s 4 2 < 8
    ·exact .inl h1
    ·refine .inr ⟨h1, ?_⟩
     by_cases h2 : (s.size : Int) < got s 4 2
     ·exact h2
     ·exact absurd (by unfold measE; rw [if_neg h8, if_neg h1, if_neg h2]) he
   have HE := hide (meas_no he)
   have HZ := hide he5
   generalize got s 0 2 = x at *
   generalize got s 2 2 = y at *
   generalize got s 4 2 = n at *
   clear he he5
   rcases hc with h1 | ⟨h1, h2⟩
   ·have d1 : decide (n < 8) = true := by simpa using h1
    go_enter Tryz.func89, Tryz.ntmps89
    go_wp2_with fail
    refine (unhide H0).mono ?_
    rintro e w1 ⟨rfl, rfl⟩
    go_wp2_with fail
    refine (unhide H2).mono ?_
    rintro e w1 ⟨rfl, rfl⟩
    go_wp2_with fail
    refine (unhide H4).mono ?_
    rintro e w1 ⟨rfl, rfl⟩
    go_wp2_with fail
    refine bodyPost_ret (v := .tuple #[.int .i64 0, .int .i64 0, .string ⟨#[]⟩, .int .i64 5]) (by simp [results, Tryz.results89, go_sem]) rfl ⟨?_, Below.refl _ _⟩
    exact ret_iisi (unhide HE).2.1.symm (unhide HE).2.2.1.symm (unhide HE).2.2.2.symm (unhide HZ).symm
   ·have d1 : decide (n < 8) = false := by simpa using h1
    have d2 : decide ((s.size : Int) < n) = true := by simpa using h2
    go_enter Tryz.func89, Tryz.ntmps89
    go_wp2_with fail
    refine (unhide H0).mono ?_
    rintro e w1 ⟨rfl, rfl⟩
    go_wp2_with fail
    refine (unhide H2).mono ?_
    rintro e w1 ⟨rfl, rfl⟩
    go_wp2_with fail
    refine (unhide H4).mono ?_
    rintro e w1 ⟨rfl, rfl⟩
    go_wp2_with fail
    refine bodyPost_ret (v := .tuple #[.int .i64 0, .int .i64 0, .string ⟨#[]⟩, .int .i64 5]) (by simp [results, Tryz.results89, go_sem]) rfl ⟨?_, Below.refl _ _⟩
    exact ret_iisi (unhide HE).2.1.symm (unhide HE).2.2.1.symm (unhide HE).2.2.2.symm (unhide HZ).symm

set_option maxHeartbeats 1000000 in
theorem rsize_any (s : ByteArray) (w : World) (hs : s.size ≤ 281474976710656) :
  Calls Tryz.prog 129 #[.string s] w fun e w' => e = .returned (.tuple #[.int .i64 (measN s), .bool (measE s == 0)]) ∧ Below w.heap.size w w' := by
 have HP := hide (rparse_any s w hs)
 have hC := parC_size s
 have HN : Hid (measE s = 0 → (8 + ((parC s).size : Int)) = measN s) := fun he => by
  obtain ⟨h8, n0, n1⟩ := measE_ok he
  obtain ⟨e1, _, _, e4⟩ := meas_yes he
  rw [e1, e4, Oct.ext_size _ _ _ (by omega)]; omega
 have HN0 : Hid (¬ measE s = 0 → (0 : Int) = measN s) := fun he => (meas_no he).1.symm
 generalize parA s = a at *
 generalize parB s = b at *
 generalize parC s = c at *
 generalize measN s = n at *
 generalize measE s = x at *
 by_cases he : x = 0
 ·have d : (x != 0) = false := by simpa using he
  have HR := hide (unhide HN he)
  have HX : Hid (true = (x == 0)) := by show _ = _; rw [he]; rfl
  clear HN HN0 he
  go_enter Tryz.func129, Tryz.ntmps129
  go_wp2_with fail
  refine (unhide HP).mono ?_
  rintro e w1 ⟨rfl, hb1⟩
  have HB := hide hb1
  clear hb1
  go_wp2_with fail
  go_ret2
  exact ⟨ret_kb (unhide HR) HX.out, unhide HB⟩
 ·have d : (x != 0) = true := by simpa using he
  have HR := hide (unhide HN0 he)
  have HX : Hid (false = (x == 0)) := by show _ = _; simp [he]
  clear HN HN0 he
  go_enter Tryz.func129, Tryz.ntmps129
  go_wp2_with fail
  refine (unhide HP).mono ?_
  rintro e w1 ⟨rfl, hb1⟩
  have HB := hide hb1
  clear hb1
  go_wp2_with fail
  go_ret2
  exact ⟨ret_kb (unhide HR) HX.out, unhide HB⟩
end Go.Proofs.YtpjaajeojiaeiaaGreatDoor.Ps

/- make([]byte, n) and the text of it; the text of two bytes. -/
namespace Go.Proofs.YtpjaajeojiaeiaaGreatDoor.Ps
open Go.ChangeShapes Go.WideShapes Go.ChangeAt Go.RowKit

def zeroS (n : Nat) : ByteArray := strOfNums (List.replicate n 0)
end Go.Proofs.YtpjaajeojiaeiaaGreatDoor.Ps

/- What measured, Parse and Size of package udp compute: one contract a function. -/
namespace Go.Proofs.YtpjaajeojiaeiaaGreatDoor.Ps
open Go.ChangeShapes Go.WideShapes Go.ChangeAt Go.RowKit

set_option maxHeartbeats 1000000 in
theorem parse_any (s : ByteArray) (w : World) (hs : s.size ≤ 281474976710656) :
  Calls Tryz.prog 110 #[.string s] w fun e w' => e = .returned (.tuple #[.int .i64 (parA s), .int .i64 (parB s), .string (parC s), .int .i64 (measE s)]) ∧ Below w.heap.size w w' := by
 have hm : s.size ≤ maxLen := by unfold maxLen; omega
 have HM := hide (measured_any s w hs)
 have H0 := hide (get_any s 0 2 w hm)
 have H2 := hide (get_any s 2 2 w hm)
 by_cases he : measE s = 0
 ·obtain ⟨h8, n0, n1⟩ := measE_ok he
  have HE := hide (meas_yes he)
  have HZ := hide he
  have hN : measN s = got s 4 2 := (meas_yes he).1
  rw [hN, he] at HM
  have HC := hide (fun u => clone_any (s.extract 8 (got s 4 2).toNat) u (by rw [ByteArray.size_extract]; omega))
  obtain ⟨k, hk⟩ : ∃ k : Nat, got s 4 2 = k := ⟨(got s 4 2).toNat, by omega⟩
  rw [hk] at HM HC HE n0 n1
  rw [Int.toNat_natCast] at HC HE
  generalize hp0 : got s 0 2 = x at *
  generalize hp2 : got s 2 2 = y at *
  clear hN hk he hp0 hp2
  go_enter Tryz.func110, Tryz.ntmps110
  go_wp2_with fail
  refine (unhide HM).mono ?_
  rintro e w1 ⟨rfl, rfl⟩
  go_wp2_with fail
  refine (unhide H0).mono ?_
  rintro e w1 ⟨rfl, rfl⟩
  go_wp2_with fail
  refine (unhide H2).mono ?_
  rintro e w1 ⟨rfl, rfl⟩
  go_wp2_with fail
  refine (unhide HC _).mono ?_
  rintro e w2 ⟨rfl, hb2⟩
  have HB := hide hb2
  clear hb2
  go_wp2_with fail
  refine bodyPost_ret (v := .tuple #[.int .i64 x, .int .i64 y, .string (s.extract 8 k), .int .i64 0]) (by simp [results, Tryz.results110, go_sem]) rfl ⟨?_, unhide HB⟩
  exact ret_iisi (unhide HE).2.1.symm (unhide HE).2.2.1.symm (unhide HE).2.2.2.symm (unhide HZ).symm
 ·have HE := hide (meas_no he)
  have hd : (measE s != 0) = true := by simpa using he
  rw [(meas_no he).1] at HM
  generalize measE s = x at *
  clear he
  go_enter Tryz.func110, Tryz.ntmps110
  go_wp2_with fail
  refine (unhide HM).mono ?_
  rintro e w1 ⟨rfl, rfl⟩
  go_wp2_with fail
  refine bodyPost_ret (v := .tuple #[.int .i64 0, .int .i64 0, .string ⟨#[]⟩, .int .i64 x]) (by simp [results, Tryz.results110, go_sem]) rfl ⟨?_, Below.refl _ _⟩
  exact ret_iisi (unhide HE).2.1.symm (unhide HE).2.2.1.symm (unhide HE).2.2.2.symm rfl
end Go.Proofs.YtpjaajeojiaeiaaGreatDoor.Ps

/- What the reference Build, Parse and Size of chapter 6 compute: the same as the program's. -/
namespace Go.Proofs.YtpjaajeojiaeiaaGreatDoor.Ps
open Go.ChangeShapes Go.WideShapes Go.ChangeAt Go.RowKit

set_option maxHeartbeats 1000000 in
theorem rbuild_any (a b : Int) (body : ByteArray) (w : World) (hbody : body.size ≤ 140737488355328) :
  Calls Tryz.prog 47 #[.int .i64 a, .int .i64 b, .string body] w fun e w' => e = .returned (.tuple #[.string (buildS a b body), .int .i64 (buildE a b body)]) ∧ Below w.heap.size w w' := by
 have no : textB a b = false → Hid (buildE a b body = 1) ∧ Hid (buildS a b body = ⟨#[]⟩) := fun ht => by
  have he : buildE a b body = 1 := by unfold buildE; rw [if_pos ht]
  exact ⟨he, buildS_no (by rw [he]; decide)⟩
 cases ha : inP a with
 | false =>
  obtain ⟨HE, HS⟩ := no (by unfold textB; rw [ha]; rfl)
  rcases port_cases ha with h0 | h1
  ·have d0 : decide (a < 0) = true := by simpa using h0
   clear no ha
   go_enter Tryz.func47, Tryz.ntmps47
   go_wp2_with fail
   go_ret2
   exact ⟨ret_si HS.out.symm HE.out.symm, Below.refl _ _⟩
  ·have d0 : decide (a < 0) = false := by simp; omega
   have d1 : decide (65535 < a) = true := by simpa using h1
   clear no ha
   go_enter Tryz.func47, Tryz.ntmps47
   go_wp2_with fail
   go_ret2
   exact ⟨ret_si HS.out.symm HE.out.symm, Below.refl _ _⟩
 | true =>
  obtain ⟨a0, a1⟩ := (inP_iff a).1 ha
  have d0 : decide (a < 0) = false := by simp; omega
  have d1 : decide (65535 < a) = false := by simp; omega
  cases hb : inP b with
  | false =>
   obtain ⟨HE, HS⟩ := no (by unfold textB; rw [ha, hb]; rfl)
   rcases port_cases hb with h0 | h1
   ·have e0 : decide (b < 0) = true := by simpa using h0
    clear no ha hb
    go_enter Tryz.func47, Tryz.ntmps47
    go_wp2_with fail
    go_ret2
    exact ⟨ret_si HS.out.symm HE.out.symm, Below.refl _ _⟩
   ·have e0 : decide (b < 0) = false := by simp; omega
    have e1 : decide (65535 < b) = true := by simpa using h1
    clear no ha hb
    go_enter Tryz.func47, Tryz.ntmps47
    go_wp2_with fail
    go_ret2
    exact ⟨ret_si HS.out.symm HE.out.symm, Below.refl _ _⟩
  | true =>
   obtain ⟨b0, b1⟩ := (inP_iff b).1 hb
   have e0 : decide (b < 0) = false := by simp; omega
   have e1 : decide (65535 < b) = false := by simp; omega
   have ht : textB a b = true := by unfold textB; rw [ha, hb]; rfl
   by_cases hl : 1500 < 8 + (body.size : Int)
   ·have HE : Hid (buildE a b body = 18) := by show _ = _; unfold buildE; rw [if_neg (by rw [ht]; decide), if_pos hl]
    have HS : Hid (buildS a b body = ⟨#[]⟩) := buildS_no (by rw [HE.out]; decide)
    have hd : decide (1500 < 8 + (body.size : Int)) = true := by simpa using hl
    clear no ha hb
    go_enter Tryz.func47, Tryz.ntmps47
    go_wp2_with fail
    go_ret2
    exact ⟨ret_si HS.out.symm HE.out.symm, Below.refl _ _⟩
   ·have HE : Hid (buildE a b body = 0) := by show _ = _; unfold buildE; rw [if_neg (by rw [ht]; decide), if_neg hl]
    have hd : decide (1500 < 8 + (body.size : Int)) = false := by simpa using hl
    have HS : Hid (buildS a b body = laid 2 a ++ laid 2 b ++ laid 2 (8 + (body.size : Int)) ++ ⟨#[0, 0]⟩ ++ body) := by
     show _ = _
     rw [buildS_of HE.out]; unfold built; rw [laid_zero]
     apply Oct.ba_ext
     simp only [app_list, List.append_assoc]
    have H1 := hide (fun u => num_any 2 a u)
    have H2 := hide (fun u => num_any 2 b u)
    have H3 := hide (fun u => num_any 2 (8 + (body.size : Int)) u)
    have z1 := laid_size 2 a
    have z2 := laid_size 2 b
    have z3 := laid_size 2 (8 + (body.size : Int))
    generalize laid 2 a = A at *
    generalize laid 2 b = B at *
    generalize laid 2 (8 + (body.size : Int)) = C at *
    have s1 := add_run A B (by omega) (by omega)
    have s2 := add_run (A ++ B) C (by rw [ByteArray.size_append]; omega) (by omega)
    have s3 := add_run (A ++ B ++ C) ⟨#[0, 0]⟩ (by rw [ByteArray.size_append, ByteArray.size_append]; omega) (by decide)
    have s4 := add_run (A ++ B ++ C ++ ⟨#[0, 0]⟩) body (by rw [ByteArray.size_append, ByteArray.size_append, ByteArray.size_append]; have : (ByteArray.mk #[0, 0]).size = 2 := rfl; omega) (by omega)
    generalize A ++ B = M1 at *
    generalize M1 ++ C = M2 at *
    generalize M2 ++ ⟨#[0, 0]⟩ = M3 at *
    clear no ha hb z1 z2 z3
    go_enter Tryz.func47, Tryz.ntmps47
    go_wp2_with fail
    refine (unhide H1 _).mono ?_
    rintro e w1 ⟨rfl, hb1⟩
    have HB1 := hide hb1
    clear hb1
    go_wp2_with fail
    refine (unhide H2 _).mono ?_
    rintro e w2 ⟨rfl, hb2⟩
    have HB2 := hide (Below.then (unhide HB1) hb2)
    clear hb2
    go_wp2_with fail
    refine (unhide H3 _).mono ?_
    rintro e w3 ⟨rfl, hb3⟩
    have HB3 := hide (Below.then (unhide HB2) hb3)
    clear hb3
    go_wp2_with fail
    go_ret2
    exact ⟨ret_si HS.out.symm HE.out.symm, unhide HB3⟩
end Go.Proofs.YtpjaajeojiaeiaaGreatDoor.Ps
