/- Contracts and mathematics of the layers below (IcBase, IcHd, IcMath). -/
import Derived.Test.YtpjaajeojiaeiaaGreatDoorBs
import Derived.Test.YtpjaajeojiaeiaaGreatDoorCk
/- Small words that all other texts use; what the three package variables hold where a call begins, and that it stays. -/
namespace Go.Proofs.YtpjaajeojiaeiaaGreatDoor.Ic
open Go.ChangeShapes Go.WideShapes Go.ChangeAt Go.RowKit

theorem ret_str {a b : ByteArray} (h : a = b) : Ending.returned (.string a) = .returned (.string b) := by rw [h]
theorem ret_bool {a b : Bool} (h : a = b) : Ending.returned (.bool a) = .returned (.bool b) := by rw [h]
theorem ret_si {a b : ByteArray} {x y : Int} (h1 : a = b) (h2 : x = y) : Ending.returned (.tuple #[.string a, .int .i64 x]) = .returned (.tuple #[.string b, .int .i64 y]) := by rw [h1, h2]
theorem ret_ib {a b : Int} {x y : Bool} (h1 : a = b) (h2 : x = y) : Ending.returned (.tuple #[.int .i64 a, .bool x]) = .returned (.tuple #[.int .i64 b, .bool y]) := by rw [h1, h2]
theorem add_run (x y : ByteArray) (hx : x.size ≤ 140737488355328) (hy : y.size ≤ 140737488355328) : ∀ wx, (Op.stringOp .add x y).run Tryz.prog wx = .ok (.string (x ++ y)) wx := fun wx => run_string_add_sum (P := Tryz.prog) (w := wx) x y (by omega)
theorem app_list (a b : ByteArray) : (a ++ b).data.toList = a.data.toList ++ b.data.toList := by rw [ByteArray.data_append, Array.toList_append]
theorem wrap_u32 (n : Int) (h0 : 0 ≤ n) (h1 : n ≤ 4294967295) : IntKind.u32.wrap n = n := by rw [IntKind.wrap_u32]; omega

/-- The three variables' cells. -/
def Env (w : World) : Prop :=
 (w.cell? ⟨0, 0, none⟩ = some (.int .i64 3) ∧ w.cell? ⟨0, 1, none⟩ = some (.int .i64 0)) ∧
 (w.cell? ⟨1, 0, none⟩ = some (.int .i64 11) ∧ w.cell? ⟨1, 1, none⟩ = some (.int .i64 0)) ∧
 (w.cell? ⟨2, 0, none⟩ = some (.int .i64 12) ∧ w.cell? ⟨2, 1, none⟩ = some (.int .i64 0))
theorem cell_on {w w' : World} {p : Addr} {v : Value} (h : w.cell? p = some v) (hb : Below w.heap.size w w') : w'.cell? p = some v := (hb.cell (block_lt_of_cell h)).trans h
theorem Env.on {w w' : World} (h : Env w) (hb : Below w.heap.size w w') : Env w' := by
 obtain ⟨⟨b0, b1⟩, ⟨c0, c1⟩, ⟨d0, d1⟩⟩ := h
 exact ⟨⟨cell_on b0 hb, cell_on b1 hb⟩, ⟨cell_on c0 hb, cell_on c1 hb⟩, ⟨cell_on d0 hb, cell_on d1 hb⟩⟩
theorem Env.alloc {w : World} (h : Env w) (o : Obj) : Env (w.alloc o) := h.on ((Below.refl _ _).alloc (Nat.le_refl _) o)
end Go.Proofs.YtpjaajeojiaeiaaGreatDoor.Ic

/- A header as a value; its variable: its cells, a header stored there, and kept while others are called. -/
namespace Go.Proofs.YtpjaajeojiaeiaaGreatDoor.Ic
open Go.ChangeShapes Go.WideShapes Go.ChangeAt Go.RowKit

structure Hd where
 kind : Int
 code : Int
 rest : Int
 body : ByteArray
/-- The numbers fit their kinds; the options are no longer than any text. -/
structure Hd.Wf (h : Hd) : Prop where
 kind : -9223372036854775808 ≤ h.kind ∧ h.kind ≤ 9223372036854775807
 code : -9223372036854775808 ≤ h.code ∧ h.code ≤ 9223372036854775807
 rest : 0 ≤ h.rest ∧ h.rest ≤ 4294967295
 body : h.body.size ≤ 140737488355328
abbrev Hd.val (h : Hd) : Value := .agg #[.int .i64 h.kind, .int .i64 h.code, .int .u32 h.rest, .string h.body]
/-- A header's cells. -/
def hcell (h : Hd) : Nat → Value
 | 0 => .int .i64 h.kind | 1 => .int .i64 h.code | 2 => .int .u32 h.rest | _ => .string h.body
def HdAt (W : World) (b : Nat) (h : Hd) : Prop := ∀ k, k < 4 → W.cell? ⟨b, k, none⟩ = some (hcell h k)
theorem HdAt.on {W W' : World} {b B : Nat} {h : Hd} (hh : HdAt W b h) (hb : Below B W W') (hB : b < B) : HdAt W' b h := fun k hk => (hb.cell (p := ⟨b, k, none⟩) hB).trans (hh k hk)
theorem HdAt.set {W : World} {b : Nat} {h : Hd} (hh : HdAt W b h) {p : Addr} (hp : p.block ≠ b) (v : Value) : HdAt (W.setCell p v) b h := fun k hk => by
 rw [World.cell?_setCell_other _ _ _ _ (fun e => hp (by rw [e]))]; exact hh k hk
def setHd (W : World) (b : Nat) (h : Hd) : World := ((((W.setCell ⟨b, 0, none⟩ (.int .i64 h.kind)).setCell ⟨b, 1, none⟩ (.int .i64 h.code)).setCell ⟨b, 2, none⟩ (.int .u32 h.rest)).setCell ⟨b, 3, none⟩ (.string h.body))
theorem setHd_below {B : Nat} {U W : World} (h : Below B U W) (b : Nat) (x : Hd) (hb : B ≤ b) : Below B U (setHd W b x) :=
 ((((h).setCell (p := ⟨b, 0, none⟩) hb _).setCell (p := ⟨b, 1, none⟩) hb _).setCell (p := ⟨b, 2, none⟩) hb _).setCell (p := ⟨b, 3, none⟩) hb _
theorem hd_step {W : World} {b : Nat} {f g : Nat → Value} (j : Nat) (v : Value) (hv : v = f j) (h : ∀ k, k < 4 → W.cell? ⟨b, k, none⟩ = some (if k < j then f k else g k)) : ∀ k, k < 4 → (W.setCell ⟨b, j, none⟩ v).cell? ⟨b, k, none⟩ = some (if k < j + 1 then f k else g k) := by
 intro i hi
 by_cases e : i = j
 ·subst e
  rw [if_pos (Nat.lt_succ_self i), ← hv]
  exact World.cell?_setCell_same _ _ _ (h i hi)
 ·rw [World.cell?_setCell_other _ _ _ _ (fun h => by cases h; omega), h i hi]
  by_cases h1 : i < j
  ·rw [if_pos h1, if_pos (by omega)]
  ·rw [if_neg h1, if_neg (by omega)]
theorem setHd_at {W : World} {b : Nat} {z : Hd} (h : Hd) (hz : HdAt W b z) : HdAt (setHd W b h) b h := by
 have h0 : ∀ k, k < 4 → W.cell? ⟨b, k, none⟩ = some (if k < 0 then hcell h k else hcell z k) := fun k hk => by rw [if_neg (by omega)]; exact hz k hk
 have := hd_step 3 _ rfl (hd_step 2 _ rfl (hd_step 1 _ rfl (hd_step (f := hcell h) 0 _ rfl h0)))
 intro k hk
 have e := this k hk
 rw [if_pos (by omega)] at e
 exact e
def zeroHd : Hd := ⟨0, 0, 0, ⟨#[]⟩⟩
theorem each {k : Nat} (h : k < 4) : k = 0 ∨ k = 1 ∨ k = 2 ∨ k = 3 := by omega
/-- A header's variable that was just made. -/
structure NewHd (W : World) (b : Nat) (h : Hd) : Prop where
 at_ : HdAt W b h
 free : ∀ j, W.frozen? ⟨b, j, none⟩ = false
theorem newHd (w : World) (h : Hd) (t : TypeId) : NewHd (w.alloc (.cells #[.int .i64 h.kind, .int .i64 h.code, .int .u32 h.rest, .string h.body] t)) w.heap.size h := by
 refine ⟨fun k hk => ?_, fun j => by simp [go_sem]⟩
 rcases each hk with rfl | rfl | rfl | rfl <;> simp [go_sem, hcell]
theorem NewHd.on {W W' : World} {b B : Nat} {h : Hd} (hh : NewHd W b h) (hb : Below B W W') (hB : b < B) : NewHd W' b h := ⟨hh.at_.on hb hB, fun j => (hb.frozen (p := ⟨b, j, none⟩) hB).trans (hh.free j)⟩
theorem NewHd.set {W : World} {b : Nat} {h : Hd} (hh : NewHd W b h) {p : Addr} (hp : p.block ≠ b) (v : Value) : NewHd (W.setCell p v) b h := ⟨hh.at_.set hp v, fun j => by rw [World.frozen?_setCell]; exact hh.free j⟩
/-- A header's variable that is kept while others are called. -/
structure Kept (w : World) (h : Hd) (W : World) : Prop where
 at_ : HdAt W w.heap.size h
 below : Below w.heap.size w W
 size : w.heap.size + 1 ≤ W.heap.size
theorem Kept.on {w W W' : World} {h : Hd} (k : Kept w h W) (hb : Below W.heap.size W W') : Kept w h W' :=
 ⟨k.at_.on hb (by have := k.size; omega), k.below.trans (hb.mono (by have := k.size; omega)), Nat.le_trans k.size hb.size⟩
theorem kept_new (w : World) (h : Hd) (t : TypeId) : Kept w h (w.alloc (.cells #[.int .i64 h.kind, .int .i64 h.code, .int .u32 h.rest, .string h.body] t)) :=
 ⟨(newHd w h t).at_, (Below.refl _ _).alloc (Nat.le_refl _) _, by simp⟩
theorem alloc_on (W : World) (o : Obj) : Below W.heap.size W (W.alloc o) := (Below.refl _ _).alloc (Nat.le_refl _) _
theorem NewHd.kind {W : World} {b : Nat} {h : Hd} (hh : NewHd W b h) (x : Int) : NewHd (W.setCell ⟨b, 0, none⟩ (.int .i64 x)) b { h with kind := x } := by
 refine ⟨fun k hk => ?_, fun j => by rw [World.frozen?_setCell]; exact hh.free j⟩
 by_cases e : k = 0
 ·subst e; exact World.cell?_setCell_same _ _ _ (hh.at_ 0 hk)
 ·rw [World.cell?_setCell_other _ _ _ _ (fun h => by cases h; omega), hh.at_ k hk]
  rcases each hk with rfl | rfl | rfl | rfl <;> first | rfl | exact absurd rfl e
theorem NewHd.code {W : World} {b : Nat} {h : Hd} (hh : NewHd W b h) (x : Int) : NewHd (W.setCell ⟨b, 1, none⟩ (.int .i64 x)) b { h with code := x } := by
 refine ⟨fun k hk => ?_, fun j => by rw [World.frozen?_setCell]; exact hh.free j⟩
 by_cases e : k = 1
 ·subst e; exact World.cell?_setCell_same _ _ _ (hh.at_ 1 hk)
 ·rw [World.cell?_setCell_other _ _ _ _ (fun h => by cases h; omega), hh.at_ k hk]
  rcases each hk with rfl | rfl | rfl | rfl <;> first | rfl | exact absurd rfl e
theorem NewHd.rest {W : World} {b : Nat} {h : Hd} (hh : NewHd W b h) (x : Int) : NewHd (W.setCell ⟨b, 2, none⟩ (.int .u32 x)) b { h with rest := x } := by
 refine ⟨fun k hk => ?_, fun j => by rw [World.frozen?_setCell]; exact hh.free j⟩
 by_cases e : k = 2
 ·subst e; exact World.cell?_setCell_same _ _ _ (hh.at_ 2 hk)
 ·rw [World.cell?_setCell_other _ _ _ _ (fun h => by cases h; omega), hh.at_ k hk]
  rcases each hk with rfl | rfl | rfl | rfl <;> first | rfl | exact absurd rfl e
theorem NewHd.body {W : World} {b : Nat} {h : Hd} (hh : NewHd W b h) (x : ByteArray) : NewHd (W.setCell ⟨b, 3, none⟩ (.string x)) b { h with body := x } := by
 refine ⟨fun k hk => ?_, fun j => by rw [World.frozen?_setCell]; exact hh.free j⟩
 by_cases e : k = 3
 ·subst e; exact World.cell?_setCell_same _ _ _ (hh.at_ 3 hk)
 ·rw [World.cell?_setCell_other _ _ _ _ (fun h => by cases h; omega), hh.at_ k hk]
  rcases each hk with rfl | rfl | rfl | rfl <;> first | rfl | exact absurd rfl e
end Go.Proofs.YtpjaajeojiaeiaaGreatDoor.Ic

/- Messages as rows of bytes: what Build answers, what Parse answers, and how the two go together. Nothing of the program is in here. -/
namespace Go.Proofs.YtpjaajeojiaeiaaGreatDoor.Ic
open Go.ChangeShapes Go.WideShapes Go.ChangeAt Go.RowKit

theorem laid_size (s n : Int) : (laid s n).size ≤ 4 := by
 unfold laid
 split
 ·rename_i h
  obtain ⟨⟨h1, h2⟩, _⟩ := (laidB_iff s n).1 h
  rw [Oct.mk_size, Oct.be_length]; omega
 ·exact Nat.zero_le _
theorem laid_zero : laid 2 0 = ⟨#[0, 0]⟩ := by
 unfold laid
 rw [if_pos ((laidB_iff 2 0).2 ⟨⟨by decide, by decide⟩, by decide, by decide⟩)]
 rfl
/-- A number of one byte: 0 to 255. -/
def inB (n : Int) : Bool := decide (0 ≤ n) && decide (n ≤ 255)
theorem inB_iff (n : Int) : inB n = true ↔ 0 ≤ n ∧ n ≤ 255 := by simp [inB]
theorem laidB_one (n : Int) : laidB 1 n = inB n := by
 rw [Bool.eq_iff_iff, laidB_iff, inB_iff]
 constructor
 ·rintro ⟨_, h0, h1⟩
  have h2 : n.toNat < 256 := h1
  omega
 ·rintro ⟨h0, h1⟩
  exact ⟨⟨by decide, by decide⟩, h0, by show _ < 256; omega⟩
theorem laidB_two {n : Int} (h0 : 0 ≤ n) (h1 : n ≤ 65535) : laidB 2 n = true := (laidB_iff 2 n).2 ⟨⟨by decide, by decide⟩, h0, by show _ < 65536; omega⟩
theorem laidB_four {n : Int} (h0 : 0 ≤ n) (h1 : n ≤ 4294967295) : laidB 4 n = true := (laidB_iff 4 n).2 ⟨⟨by decide, by decide⟩, h0, by show _ < 4294967296; omega⟩
theorem laid_list {s n : Int} (h : laidB s n = true) : (laid s n).data.toList = Oct.be s.toNat n.toNat := by unfold laid; rw [if_pos h]

/-- A message with 0 where its check stands, its check, the message. -/
def pre (h : Hd) : ByteArray := laid 1 h.kind ++ laid 1 h.code ++ laid 2 0 ++ laid 4 h.rest ++ h.body
def chk (h : Hd) : Int := 65535 - Ck.sum (pre h).data.toList
def built (h : Hd) : ByteArray := set (pre h) 2 2 (chk h)
theorem chk_lo (h : Hd) : 0 ≤ chk h := by unfold chk; have := Ck.sum_hi (pre h).data.toList; omega
theorem chk_hi (h : Hd) : chk h ≤ 65535 := by unfold chk; have := Ck.sum_lo (pre h).data.toList; omega
def buildE (h : Hd) : Int := if (inB h.kind && inB h.code) = false then 1 else if 1500 < 8 + (h.body.size : Int) then 18 else 0
def buildS (h : Hd) : ByteArray := if buildE h = 0 then built h else ⟨#[]⟩
theorem buildS_of {h : Hd} (he : buildE h = 0) : buildS h = built h := if_pos he
theorem buildS_no {h : Hd} (he : buildE h ≠ 0) : buildS h = ⟨#[]⟩ := if_neg he

/-- What a message is made of. -/
structure Good (h : Hd) : Prop where
 k0 : 0 ≤ h.kind
 k1 : h.kind ≤ 255
 c0 : 0 ≤ h.code
 c1 : h.code ≤ 255
 r0 : 0 ≤ h.rest
 r1 : h.rest ≤ 4294967295
theorem Good.kB {h : Hd} (g : Good h) : laidB 1 h.kind = true := by rw [laidB_one, inB_iff]; exact ⟨g.k0, g.k1⟩
theorem Good.cB {h : Hd} (g : Good h) : laidB 1 h.code = true := by rw [laidB_one, inB_iff]; exact ⟨g.c0, g.c1⟩
theorem Good.rB {h : Hd} (g : Good h) : laidB 4 h.rest = true := laidB_four g.r0 g.r1
theorem good_of {h : Hd} (he : buildE h = 0) (hw : h.Wf) : Good h ∧ 8 + (h.body.size : Int) ≤ 1500 := by
 unfold buildE at he
 split at he
 ·cases he
 ·rename_i h1
  split at he
  ·cases he
  ·rename_i h2
   simp only [Bool.not_eq_false, Bool.and_eq_true, inB_iff] at h1
   exact ⟨⟨h1.1.1, h1.1.2, h1.2.1, h1.2.2, hw.rest.1, hw.rest.2⟩, by omega⟩
theorem buildE_of {h : Hd} (g : Good h) (hs : 8 + (h.body.size : Int) ≤ 1500) : buildE h = 0 := by
 unfold buildE
 rw [if_neg (by rw [(inB_iff _).2 ⟨g.k0, g.k1⟩, (inB_iff _).2 ⟨g.c0, g.c1⟩]; decide), if_neg (by omega)]

/-- The bytes ahead of the check, and behind it. -/
def headL (h : Hd) : List UInt8 := Oct.be 1 h.kind.toNat ++ Oct.be 1 h.code.toNat
def tailL (h : Hd) : List UInt8 := Oct.be 4 h.rest.toNat ++ h.body.data.toList
theorem headL_len (h : Hd) : (headL h).length = 2 := by unfold headL; rw [List.length_append, Oct.be_length, Oct.be_length]
theorem tailL_len (h : Hd) : (tailL h).length = 4 + h.body.size := by unfold tailL; rw [List.length_append, Oct.be_length, Oct.len_eq]
theorem pre_list {h : Hd} (g : Good h) : (pre h).data.toList = headL h ++ ([0, 0] ++ tailL h) := by
 unfold pre headL tailL
 rw [app_list, app_list, app_list, app_list, laid_list g.kB, laid_list g.cB, laid_list g.rB, laid_zero]
 simp only [List.append_assoc]
 rfl
theorem pre_size {h : Hd} (g : Good h) : (pre h).size = 8 + h.body.size := by
 rw [← Oct.len_eq, pre_list g, List.length_append, List.length_append, headL_len, tailL_len]; simp; omega
theorem setB_pre {h : Hd} (g : Good h) : setB (pre h) 2 2 (chk h) = true := by
 have := pre_size g
 unfold setB
 rw [(gotB_iff _ _ _).2 ⟨⟨by decide, by decide⟩, by decide, by omega⟩, laidB_two (chk_lo h) (chk_hi h)]; rfl
theorem built_list {h : Hd} (g : Good h) : (built h).data.toList = headL h ++ (Oct.be 2 (chk h).toNat ++ tailL h) := by
 unfold built set
 rw [if_pos (setB_pre g)]
 show Oct.put (pre h).data.toList (2 : Int).toNat (2 : Int).toNat (chk h).toNat = _
 unfold Oct.put
 rw [pre_list g]
 have e1 : (headL h ++ ([0, 0] ++ tailL h)).take (2 : Int).toNat = headL h := by
  rw [show (2 : Int).toNat = (headL h).length from (headL_len h).symm, List.take_left]
 have e2 : (headL h ++ ([0, 0] ++ tailL h)).drop ((2 : Int).toNat + (2 : Int).toNat) = tailL h := by
  rw [← List.append_assoc, show (2 : Int).toNat + (2 : Int).toNat = (headL h ++ [0, 0]).length by rw [List.length_append, headL_len]; rfl, List.drop_left]
 rw [e1, e2, List.append_assoc]
 rfl
theorem built_size {h : Hd} (g : Good h) : (built h).size = 8 + h.body.size := by
 rw [← Oct.len_eq, built_list g, List.length_append, List.length_append, headL_len, tailL_len, Oct.be_length]; omega
/-- The same message, as the reference puts it together. -/
theorem built_ref {h : Hd} (g : Good h) : laid 1 h.kind ++ laid 1 h.code ++ laid 2 (chk h) ++ (laid 4 h.rest ++ h.body) = built h := by
 apply Oct.ba_ext
 rw [built_list g, app_list, app_list, app_list, app_list, laid_list g.kB, laid_list g.cB, laid_list g.rB, laid_list (laidB_two (chk_lo h) (chk_hi h))]
 unfold headL tailL
 simp only [List.append_assoc]
 rfl
theorem pre_ref (h : Hd) : laid 1 h.kind ++ laid 1 h.code ++ ⟨#[0, 0]⟩ ++ (laid 4 h.rest ++ h.body) = pre h := by
 apply Oct.ba_ext
 unfold pre
 rw [laid_zero]
 simp only [app_list, List.append_assoc]

theorem wsum_be2 (n : Int) (h0 : 0 ≤ n) (h1 : n ≤ 65535) : Ck.wsum (Oct.be 2 n.toNat) = n := by
 have e : Oct.be 2 n.toNat = (strOfNums [n / 256, n % 256]).data.toList := by rw [Oct.str2 n h0]
 rw [e]; exact two_sum n h0 h1
theorem built_sum {h : Hd} (g : Good h) : Ck.sum (built h).data.toList = 65535 := by
 have hl := headL_len h
 have a0 := Ck.wsum_lo (headL h)
 have b0 := Ck.wsum_lo (tailL h)
 have ew : Ck.wsum (pre h).data.toList = Ck.wsum (headL h) + Ck.wsum (tailL h) := by
  rw [pre_list g, Ck.wsum_app _ _ (by omega), Ck.wsum_app _ _ (by decide)]
  simp [Ck.wsum]
 have ec : chk h = 65535 - Ck.fold (Ck.wsum (headL h) + Ck.wsum (tailL h)) := by unfold chk Ck.sum; rw [ew]
 have hm := Ck.fold_mod (Ck.wsum (headL h) + Ck.wsum (tailL h))
 have hz := Ck.fold_zero (Ck.wsum (headL h) + Ck.wsum (tailL h))
 have hi := Ck.fold_hi (Ck.wsum (headL h) + Ck.wsum (tailL h))
 have c0 := chk_lo h
 have c1 := chk_hi h
 unfold Ck.sum
 rw [built_list g, Ck.wsum_app _ _ (by omega), Ck.wsum_app _ _ (by rw [Oct.be_length]), wsum_be2 _ c0 c1]
 apply Ck.fold_full
 ·by_cases e : Ck.wsum (headL h) + Ck.wsum (tailL h) = 0
  ·have := hz.2 e; omega
  ·omega
 ·omega

/-- What Parse answers. -/
def parseE (s : ByteArray) : Int := if s.size < 8 then 2 else if Ck.sum s.data.toList = 65535 then 0 else 7
def pH (s : ByteArray) : Hd := ⟨got s 0 1, got s 1 1, got s 4 4, s.extract 8 s.size⟩
def parseH (s : ByteArray) : Hd := if parseE s = 0 then pH s else zeroHd
theorem parseH_of {s : ByteArray} (h : parseE s = 0) : parseH s = pH s := if_pos h
theorem parseH_no {s : ByteArray} (h : parseE s ≠ 0) : parseH s = zeroHd := if_neg h
theorem got_lo (s : ByteArray) (p k : Int) : 0 ≤ got s p k := by
 unfold got
 split
 ·exact Int.natCast_nonneg _
 ·exact Int.le_refl 0
theorem got_lt (s : ByteArray) (p : Int) (k : Nat) : got s p k < (256 ^ k : Nat) := by
 unfold got
 split
 ·rename_i h
  obtain ⟨_, h3, h4⟩ := (gotB_iff s p k).1 h
  have hl := Oct.len_eq s
  have := Oct.num_lt k ((s.data.toList.drop p.toNat).take (k : Int).toNat) (by rw [List.length_take, List.length_drop, hl]; omega)
  exact_mod_cast this
 ·have := Nat.pow_pos (n := k) (show 0 < 256 by decide)
  omega
theorem got_hi4 (s : ByteArray) (p : Int) : got s p 4 ≤ 4294967295 := by have := got_lt s p 4; simp at this; omega
theorem got_of {s : ByteArray} {p k : Nat} (hk : 1 ≤ k ∧ k ≤ 4) (hp : p + k ≤ s.size) : got s p k = Oct.num ((s.data.toList.drop p).take k) := by
 unfold got
 rw [if_pos ((gotB_iff _ _ _).2 ⟨⟨by omega, by omega⟩, by omega, by omega⟩)]
 simp
theorem drop_at (a b : List UInt8) (n : Nat) (h : a.length = n) : (a ++ b).drop n = b := by rw [← h, List.drop_left]
theorem take_at (a b : List UInt8) (n : Nat) (h : a.length = n) : (a ++ b).take n = a := by rw [← h, List.take_left]
theorem parse_built {h : Hd} (g : Good h) : parseE (built h) = 0 ∧ parseH (built h) = h := by
 have hs := built_size g
 have he : parseE (built h) = 0 := by unfold parseE; rw [if_neg (by omega), if_pos (built_sum g)]
 refine ⟨he, ?_⟩
 rw [parseH_of he]
 have l1 := built_list g
 unfold headL tailL at l1
 have e0 : got (built h) 0 1 = h.kind := by
  have := got_of (s := built h) (p := 0) (k := 1) ⟨by decide, by decide⟩ (by omega)
  have e : ((built h).data.toList.drop 0).take 1 = Oct.be 1 h.kind.toNat := by
   rw [l1, List.drop_zero, List.append_assoc]; exact take_at _ _ _ (Oct.be_length _ _)
  rw [e, Oct.num_be _ _ (by have := g.k0; have := g.k1; show _ < 256; omega)] at this
  have h2 := g.k0
  exact this.trans (by omega)
 have e1 : got (built h) 1 1 = h.code := by
  have := got_of (s := built h) (p := 1) (k := 1) ⟨by decide, by decide⟩ (by omega)
  have e : ((built h).data.toList.drop 1).take 1 = Oct.be 1 h.code.toNat := by
   rw [l1, List.append_assoc, drop_at _ _ _ (Oct.be_length _ _)]; exact take_at _ _ _ (Oct.be_length _ _)
  rw [e, Oct.num_be _ _ (by have := g.c0; have := g.c1; show _ < 256; omega)] at this
  have h2 := g.c0
  exact this.trans (by omega)
 have e2 : got (built h) 4 4 = h.rest := by
  have := got_of (s := built h) (p := 4) (k := 4) ⟨by decide, by decide⟩ (by omega)
  have e : ((built h).data.toList.drop 4).take 4 = Oct.be 4 h.rest.toNat := by
   rw [l1, ← List.append_assoc, drop_at _ _ _ (by rw [List.length_append, List.length_append, Oct.be_length, Oct.be_length, Oct.be_length])]
   exact take_at _ _ _ (Oct.be_length _ _)
  rw [e, Oct.num_be _ _ (by have := g.r0; have := g.r1; show _ < 4294967296; omega)] at this
  have h2 := g.r0
  exact this.trans (by omega)
 have e3 : (built h).extract 8 (built h).size = h.body := by
  apply Oct.ba_ext
  rw [Oct.ext_list, List.take_of_length_le (Nat.le_of_eq (Oct.len_eq _)), l1, ← List.append_assoc, ← List.append_assoc]
  exact drop_at _ _ _ (by simp only [List.length_append, Oct.be_length])
 unfold pH
 rw [e0, e1, e2, e3]

def errB (k : Int) : Bool := (k == 3) || (k == 11) || (k == 12)
end Go.Proofs.YtpjaajeojiaeiaaGreatDoor.Ic
