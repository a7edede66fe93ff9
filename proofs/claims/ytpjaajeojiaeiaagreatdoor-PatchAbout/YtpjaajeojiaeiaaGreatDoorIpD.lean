/- Contracts and mathematics of the layers below (IpBuild, IpMath, IpEx, IpKept, IpApp, IpLay). -/
import Derived.Test.YtpjaajeojiaeiaaGreatDoorIpB
import Derived.Test.YtpjaajeojiaeiaaGreatDoorIpA
import Derived.Test.YtpjaajeojiaeiaaGreatDoorCk
import Derived.Test.YtpjaajeojiaeiaaGreatDoorRg
import Derived.Test.YtpjaajeojiaeiaaGreatDoorIpC
/- What Build computes: the packet of a header and a body. -/
namespace Go.Proofs.YtpjaajeojiaeiaaGreatDoor.Ip
open Go.ChangeShapes Go.WideShapes Go.ChangeAt Go.RowKit

/-- What a right header has. -/
structure RightP (h : Hd) : Prop where
 tos : 0 ≤ h.tos ∧ h.tos ≤ 255
 ttl : 0 ≤ h.ttl ∧ h.ttl ≤ 255
 proto : 0 ≤ h.proto ∧ h.proto ≤ 255
 id : 0 ≤ h.id ∧ h.id ≤ 65535
 flags : 0 ≤ h.flags ∧ h.flags ≤ 7
 frag : 0 ≤ h.frag ∧ h.frag ≤ 8191
 o40 : h.opts.size ≤ 40
 o4 : h.opts.size % 4 = 0
 ok : optsOk h.opts.data.toList = true
theorem rightP_of {h : Hd} (hr : rightB h = true) : RightP h := by
 unfold rightB optB at hr
 simp only [Bool.and_eq_true, inB_iff, decide_eq_true_eq] at hr
 obtain ⟨⟨⟨⟨⟨⟨h1, h2⟩, h3⟩, h4⟩, h5⟩, h6⟩, ⟨h7, h8⟩, h9⟩ := hr
 exact ⟨h1, h2, h3, h4, h5, h6, h7, h8, h9⟩
theorem rightP_to {h : Hd} (hr : RightP h) : rightB h = true := by
 obtain ⟨h1, h2, h3, h4, h5, h6, h7, h8, h9⟩ := hr
 unfold rightB optB
 simp only [Bool.and_eq_true, inB_iff, decide_eq_true_eq]
 exact ⟨⟨⟨⟨⟨⟨h1, h2⟩, h3⟩, h4⟩, h5⟩, h6⟩, ⟨h7, h8⟩, h9⟩
theorem fits_of {h : Hd} (hr : RightP h) (hw : h.Wf) {t c : Int} (t0 : 0 ≤ t) (t1 : t ≤ 65535) (c0 : 0 ≤ c) (c1 : c ≤ 65535) : Fits12 (hfix h t c) := by
 have hs := hw.src
 have hd := hw.dst
 obtain ⟨h1, h2, h3, h4, h5, h6, h7, h8, h9⟩ := hr
 intro k hk
 have hks : k = 0 ∨ k = 1 ∨ k = 2 ∨ k = 3 ∨ k = 4 ∨ k = 5 ∨ k = 6 ∨ k = 7 ∨ k = 8 ∨ k = 9 ∨ k = 10 ∨ k = 11 := by omega
 rcases hks with rfl | rfl | rfl | rfl | rfl | rfl | rfl | rfl | rfl | rfl | rfl | rfl <;> simp [hfix, fx, fbits] <;> omega

/-- How many bytes all is; the check; the packet. -/
def btotal (h : Hd) (body : ByteArray) : Int := 20 + h.opts.size + body.size
def bsummed (h : Hd) (body : ByteArray) : ByteArray := ftext (hfix h (btotal h body) 0) ++ h.opts
def bcheck (h : Hd) (body : ByteArray) : Int := 65535 - Ck.sum (bsummed h body).data.toList
def bhead (h : Hd) (body : ByteArray) : ByteArray := ftext (hfix h (btotal h body) (bcheck h body)) ++ h.opts
def built (h : Hd) (body : ByteArray) : ByteArray := bhead h body ++ body
def buildE (h : Hd) (body : ByteArray) : Int := if rightB h = false then 1 else if 1500 < btotal h body then 18 else 0
def buildS (h : Hd) (body : ByteArray) : ByteArray := if buildE h body = 0 then built h body else ⟨#[]⟩
theorem bcheck_lo (h : Hd) (body : ByteArray) : 0 ≤ bcheck h body := by unfold bcheck; have := Ck.sum_hi (bsummed h body).data.toList; omega
theorem bcheck_hi (h : Hd) (body : ByteArray) : bcheck h body ≤ 65535 := by unfold bcheck; have := Ck.sum_lo (bsummed h body).data.toList; omega

theorem ret_si {a b : ByteArray} {x y : Int} (h : a = b) (h2 : x = y) : Ending.returned (.tuple #[.string a, .int .i64 x]) = .returned (.tuple #[.string b, .int .i64 y]) := by rw [h, h2]

end Go.Proofs.YtpjaajeojiaeiaaGreatDoor.Ip

/- What is built is parsed as it was: the plain facts. Nothing of the program's walk is in here. -/
namespace Go.Proofs.YtpjaajeojiaeiaaGreatDoor.Ip
open Go.RowKit

theorem ftext_list (F : Nat → Int) : (ftext F).data.toList = Oct.be 4 (fw0 F).toNat ++ (Oct.be 4 (fw1 F).toNat ++ (Oct.be 4 (fw2 F).toNat ++ (Oct.be 4 (F 10).toNat ++ Oct.be 4 (F 11).toNat))) := by
 simp only [ftext, fout, b4, ByteArray.data_append, Array.toList_append, List.append_assoc]
theorem take_len {A B : List UInt8} {n : Nat} (h : A.length = n) : (A ++ B).take n = A := by rw [← h]; exact List.take_left
theorem drop_len {A B : List UInt8} {n : Nat} (h : A.length = n) : (A ++ B).drop n = B := by rw [← h]; exact List.drop_left
theorem num_be4 (n : Int) (h0 : 0 ≤ n) (h1 : n < 4294967296) : (Oct.num (Oct.be 4 n.toNat) : Int) = n := by rw [Oct.num_be 4 n.toNat (by omega)]; omega
theorem five (l A0 A1 A2 A3 A4 R : List UInt8) (h : l = A0 ++ (A1 ++ (A2 ++ (A3 ++ (A4 ++ R))))) (a0 : A0.length = 4) (a1 : A1.length = 4) (a2 : A2.length = 4) (a3 : A3.length = 4) (a4 : A4.length = 4) :
  (l.drop 0).take 4 = A0 ∧ (l.drop 4).take 4 = A1 ∧ (l.drop 8).take 4 = A2 ∧ (l.drop 12).take 4 = A3 ∧ (l.drop 16).take 4 = A4 := by
 subst h
 have e4 : ∀ X : List UInt8, (A0 ++ X).drop 4 = X := fun X => drop_len a0
 have e8 : ∀ X : List UInt8, (A0 ++ (A1 ++ X)).drop 8 = X := fun X => by rw [show 8 = 4 + 4 from rfl, ← List.drop_drop, e4, drop_len a1]
 have e12 : ∀ X : List UInt8, (A0 ++ (A1 ++ (A2 ++ X))).drop 12 = X := fun X => by rw [show 12 = 8 + 4 from rfl, ← List.drop_drop, e8, drop_len a2]
 have e16 : ∀ X : List UInt8, (A0 ++ (A1 ++ (A2 ++ (A3 ++ X)))).drop 16 = X := fun X => by rw [show 16 = 12 + 4 from rfl, ← List.drop_drop, e12, drop_len a3]
 refine ⟨?_, ?_, ?_, ?_, ?_⟩
 ·rw [List.drop_zero, take_len a0]
 ·rw [e4, take_len a1]
 ·rw [e8, take_len a2]
 ·rw [e12, take_len a3]
 ·rw [e16, take_len a4]

/-- What text wrote, read finds. -/
theorem read_text (s : ByteArray) (F : Nat → Int) (R : List UInt8) (hs : s.data.toList = (ftext F).data.toList ++ R) (hF : Fits12 F) (k : Nat) (hk : k < 12) : fget s k = F k := by
 have ⟨l0, u0⟩ := fit0 hF
 have ⟨l1, u1⟩ := fit1 hF
 have ⟨l2, u2⟩ := fit2 hF
 have ⟨l3, u3⟩ := fit3 hF
 have ⟨l4, u4⟩ := fit4 hF
 have ⟨l5, u5⟩ := fit5 hF
 have ⟨l6, u6⟩ := fit6 hF
 have ⟨l7, u7⟩ := fit7 hF
 have ⟨l8, u8⟩ := fit8 hF
 have ⟨l9, u9⟩ := fit9 hF
 have ⟨l10, u10⟩ := fit10 hF
 have ⟨l11, u11⟩ := fit11 hF
 clear hF
 rw [ftext_list] at hs
 simp only [List.append_assoc] at hs
 obtain ⟨p0, p1, p2, p3, p4⟩ := five _ _ _ _ _ _ R hs (Oct.be_length _ _) (Oct.be_length _ _) (Oct.be_length _ _) (Oct.be_length _ _) (Oct.be_length _ _)
 clear hs
 have w0 : (Oct.num ((s.data.toList.drop 0).take 4) : Int) = ((F 0 * 16 + F 1) * 256 + F 2) * 65536 + F 3 := by rw [p0]; exact num_be4 _ (by unfold fw0; omega) (by unfold fw0; omega)
 have w1 : (Oct.num ((s.data.toList.drop 4).take 4) : Int) = (F 4 * 8 + F 5) * 8192 + F 6 := by rw [p1]; exact num_be4 _ (by unfold fw1; omega) (by unfold fw1; omega)
 have w2 : (Oct.num ((s.data.toList.drop 8).take 4) : Int) = (F 7 * 256 + F 8) * 65536 + F 9 := by rw [p2]; exact num_be4 _ (by unfold fw2; omega) (by unfold fw2; omega)
 have w3 : (Oct.num ((s.data.toList.drop 12).take 4) : Int) = F 10 := by rw [p3]; exact num_be4 _ (by omega) (by omega)
 have w4 : (Oct.num ((s.data.toList.drop 16).take 4) : Int) = F 11 := by rw [p4]; exact num_be4 _ (by omega) (by omega)
 clear p0 p1 p2 p3 p4
 rcases twelve hk with rfl | rfl | rfl | rfl | rfl | rfl | rfl | rfl | rfl | rfl | rfl | rfl
 ·show (Oct.num ((s.data.toList.drop 0).take 4) : Int) / 268435456 % 16 = F 0
  rw [w0]; omega
 ·show (Oct.num ((s.data.toList.drop 0).take 4) : Int) / 16777216 % 16 = F 1
  rw [w0]; omega
 ·show (Oct.num ((s.data.toList.drop 0).take 4) : Int) / 65536 % 256 = F 2
  rw [w0]; omega
 ·show (Oct.num ((s.data.toList.drop 0).take 4) : Int) / 1 % 65536 = F 3
  rw [w0]; omega
 ·show (Oct.num ((s.data.toList.drop 4).take 4) : Int) / 65536 % 65536 = F 4
  rw [w1]; omega
 ·show (Oct.num ((s.data.toList.drop 4).take 4) : Int) / 8192 % 8 = F 5
  rw [w1]; omega
 ·show (Oct.num ((s.data.toList.drop 4).take 4) : Int) / 1 % 8192 = F 6
  rw [w1]; omega
 ·show (Oct.num ((s.data.toList.drop 8).take 4) : Int) / 16777216 % 256 = F 7
  rw [w2]; omega
 ·show (Oct.num ((s.data.toList.drop 8).take 4) : Int) / 65536 % 256 = F 8
  rw [w2]; omega
 ·show (Oct.num ((s.data.toList.drop 8).take 4) : Int) / 1 % 65536 = F 9
  rw [w2]; omega
 ·show (Oct.num ((s.data.toList.drop 12).take 4) : Int) / 1 % 4294967296 = F 10
  rw [w3]; omega
 ·show (Oct.num ((s.data.toList.drop 16).take 4) : Int) / 1 % 4294967296 = F 11
  rw [w4]; omega

theorem wsum_be4 (n : Int) (h0 : 0 ≤ n) (h1 : n < 4294967296) : Ck.wsum (Oct.be 4 n.toNat) = n / 65536 + n % 65536 := by
 simp only [Oct.be, List.nil_append, List.cons_append, Ck.wsum, UInt8.toNat_ofNat']
 omega
theorem wsum_text (F : Nat → Int) (hF : Fits12 F) : Ck.wsum (ftext F).data.toList = (F 0 * 16 + F 1) * 256 + F 2 + F 3 + F 4 + F 5 * 8192 + F 6 + (F 7 * 256 + F 8) + F 9 + (F 10 / 65536 + F 10 % 65536) + (F 11 / 65536 + F 11 % 65536) := by
 have ⟨l0, u0⟩ := fit0 hF
 have ⟨l1, u1⟩ := fit1 hF
 have ⟨l2, u2⟩ := fit2 hF
 have ⟨l3, u3⟩ := fit3 hF
 have ⟨l4, u4⟩ := fit4 hF
 have ⟨l5, u5⟩ := fit5 hF
 have ⟨l6, u6⟩ := fit6 hF
 have ⟨l7, u7⟩ := fit7 hF
 have ⟨l8, u8⟩ := fit8 hF
 have ⟨l9, u9⟩ := fit9 hF
 have ⟨l10, u10⟩ := fit10 hF
 have ⟨l11, u11⟩ := fit11 hF
 rw [ftext_list, Ck.wsum_app _ _ (by rw [Oct.be_length]), Ck.wsum_app _ _ (by rw [Oct.be_length]), Ck.wsum_app _ _ (by rw [Oct.be_length]), Ck.wsum_app _ _ (by rw [Oct.be_length]),
  wsum_be4 (fw0 F) (by unfold fw0; omega) (by unfold fw0; omega), wsum_be4 (fw1 F) (by unfold fw1; omega) (by unfold fw1; omega), wsum_be4 (fw2 F) (by unfold fw2; omega) (by unfold fw2; omega), wsum_be4 (F 10) (by omega) (by omega), wsum_be4 (F 11) (by omega) (by omega)]
 unfold fw0 fw1 fw2
 omega

/-- What holds of what is built. -/
structure Built (h : Hd) (body : ByteArray) : Prop where
 r : RightP h
 w : h.Wf
 l : btotal h body ≤ 1500
theorem Built.t0 {h : Hd} {body : ByteArray} (_ : Built h body) : 0 ≤ btotal h body := by unfold btotal; omega
theorem Built.fits {h : Hd} {body : ByteArray} (b : Built h body) {c : Int} (c0 : 0 ≤ c) (c1 : c ≤ 65535) : Fits12 (hfix h (btotal h body) c) := fits_of b.r b.w b.t0 (by have := b.l; omega) c0 c1
theorem bhead_size {h : Hd} (body : ByteArray) : (bhead h body).size = 20 + h.opts.size := by unfold bhead; rw [ByteArray.size_append, ftext_size]
theorem built_size {h : Hd} (body : ByteArray) : (built h body).size = 20 + h.opts.size + body.size := by unfold built; rw [ByteArray.size_append, bhead_size]
theorem app_list (a b : ByteArray) : (a ++ b).data.toList = a.data.toList ++ b.data.toList := by rw [ByteArray.data_append, Array.toList_append]
theorem bhead_sum {h : Hd} {body : ByteArray} (b : Built h body) : Ck.sum (bhead h body).data.toList = 65535 := by
 have f0 := b.fits (c := 0) (Int.le_refl _) (by decide)
 have fc := b.fits (bcheck_lo h body) (bcheck_hi h body)
 have e0 := wsum_text _ f0
 have ec := wsum_text _ fc
 have hlen : ∀ F, (ftext F).data.toList.length % 2 = 0 := fun F => by rw [Oct.len_eq, ftext_size]
 have s0 : Ck.wsum (bsummed h body).data.toList = Ck.wsum (ftext (hfix h (btotal h body) 0)).data.toList + Ck.wsum h.opts.data.toList := by unfold bsummed; rw [app_list, Ck.wsum_app _ _ (hlen _)]
 have sc : Ck.wsum (bhead h body).data.toList = Ck.wsum (ftext (hfix h (btotal h body) (bcheck h body))).data.toList + Ck.wsum h.opts.data.toList := by unfold bhead; rw [app_list, Ck.wsum_app _ _ (hlen _)]
 have hpos := Ck.wsum_lo h.opts.data.toList
 have ⟨x2, _⟩ := fit2 f0
 have ⟨x3, _⟩ := fit3 f0
 have ⟨x4, _⟩ := fit4 f0
 have ⟨x5, _⟩ := fit5 f0
 have ⟨x6, _⟩ := fit6 f0
 have ⟨x7, _⟩ := fit7 f0
 have ⟨x8, _⟩ := fit8 f0
 have ⟨x10, _⟩ := fit10 f0
 have ⟨x11, _⟩ := fit11 f0
 have ⟨x1, _⟩ := fit1 f0
 simp only [hfix, fx] at e0 ec x1 x2 x3 x4 x5 x6 x7 x8 x10 x11
 simp only [hfix] at s0 sc
 have hc : bcheck h body = 65535 - Ck.fold (Ck.wsum (bsummed h body).data.toList) := rfl
 have hs1 : 0 < Ck.wsum (bsummed h body).data.toList := by rw [s0, e0]; omega
 have hw : Ck.wsum (bhead h body).data.toList = Ck.wsum (bsummed h body).data.toList + bcheck h body := by rw [s0, sc, e0, ec]; omega
 unfold Ck.sum
 have hm := Ck.fold_mod (Ck.wsum (bsummed h body).data.toList)
 have hh := Ck.fold_hi (Ck.wsum (bsummed h body).data.toList)
 refine Ck.fold_full _ (by omega) (by rw [hw, hc]; omega)

theorem ext_left (a b : ByteArray) (n : Nat) (h : n = a.size) : (a ++ b).extract 0 n = a := by
 apply Oct.ba_ext
 rw [Oct.ext_list, app_list, List.drop_zero, take_len (by rw [Oct.len_eq, h])]
theorem ext_right (a b : ByteArray) (n : Nat) (h : n = a.size) : (a ++ b).extract n (a ++ b).size = b := by
 apply Oct.ba_ext
 rw [Oct.ext_list, List.take_of_length_le (by rw [Oct.len_eq]; exact Nat.le_refl _), app_list, drop_len (by rw [Oct.len_eq, h])]
theorem ext_mid3 (a b c : ByteArray) (n m : Nat) (h : n = a.size) (h2 : m = a.size + b.size) : (a ++ b ++ c).extract n m = b := by
 apply Oct.ba_ext
 rw [Oct.ext_list, app_list, take_len (by rw [Oct.len_eq, ByteArray.size_append, h2]), app_list, drop_len (by rw [Oct.len_eq, h])]

/-- The numbers that a text begins with, the header's bytes behind them. -/
structure Begins (s : ByteArray) (h : Hd) (T c : Int) : Prop where
 get : ∀ k, k < 12 → fget s k = hfix h T c k
theorem begins_of {h : Hd} {body : ByteArray} (b : Built h body) (more : ByteArray) : Begins (built h body ++ more) h (btotal h body) (bcheck h body) := by
 refine ⟨read_text _ _ (h.opts.data.toList ++ (body.data.toList ++ more.data.toList)) ?_ (b.fits (bcheck_lo h body) (bcheck_hi h body))⟩
 unfold built bhead
 simp only [app_list, List.append_assoc]
theorem f1_four {s : ByteArray} {h : Hd} {T c : Int} (b : Begins s h T c) (o4 : h.opts.size % 4 = 0) : fget s 1 * 4 = 20 + h.opts.size := by
 rw [b.get 1 (by decide)]; show (20 + (h.opts.size : Int)) / 4 * 4 = _; omega
theorem meas_built {h : Hd} {body : ByteArray} (b : Built h body) (more : ByteArray) : Meas (built h body ++ more) := by
 have g := begins_of b more
 have e1 := f1_four g b.r.o4
 have e3 : fget (built h body ++ more) 3 = btotal h body := g.get 3 (by decide)
 have e0 : fget (built h body ++ more) 0 = 4 := g.get 0 (by decide)
 have hs : ((built h body ++ more).size : Int) = btotal h body + more.size := by rw [ByteArray.size_append, built_size]; unfold btotal; omega
 have hl := b.l
 have ht : btotal h body = 20 + h.opts.size + body.size := rfl
 refine ⟨?_, e0, by omega, by omega, by omega, by omega, by omega⟩
 rw [ByteArray.size_append, built_size]; omega
theorem pX_built {h : Hd} {body : ByteArray} (b : Built h body) (more : ByteArray) : pX (built h body ++ more) = bhead h body := by
 unfold pX
 rw [f1_four (begins_of b more) b.r.o4]
 unfold built
 rw [ByteArray.append_assoc]
 exact ext_left _ _ _ (by rw [bhead_size]; omega)
theorem pO_of {s : ByteArray} {h : Hd} {body : ByteArray} (e : pX s = bhead h body) : pO s = h.opts := by
 unfold pO
 rw [e]
 unfold bhead
 exact ext_right _ _ _ (by rw [ftext_size])
theorem pB_built {h : Hd} {body : ByteArray} (b : Built h body) (more : ByteArray) : pB (built h body ++ more) = body := by
 unfold pB
 have e3 : fget (built h body ++ more) 3 = btotal h body := (begins_of b more).get 3 (by decide)
 rw [f1_four (begins_of b more) b.r.o4, e3]
 unfold built
 exact ext_mid3 _ _ _ _ _ (by rw [bhead_size]; omega) (by rw [bhead_size]; unfold btotal; omega)
/-- What is built is parsed as it was. -/
theorem parse_built {h : Hd} {body : ByteArray} (b : Built h body) (more : ByteArray) : parseE (built h body ++ more) = 0 ∧ parseH (built h body ++ more) = h ∧ parseS (built h body ++ more) = body := by
 have hx := pX_built b more
 have ho := pO_of hx
 have he : parseE (built h body ++ more) = 0 := by
  unfold parseE
  rw [if_pos (meas_to (meas_built b more)), hx, if_pos (bhead_sum b), ho, if_pos b.r.ok]
 refine ⟨he, ?_, ?_⟩
 ·unfold parseH
  rw [if_pos he, ho]
  have g := (begins_of b more).get
  unfold fhead
  rw [g 2 (by decide), g 4 (by decide), g 5 (by decide), g 6 (by decide), g 7 (by decide), g 8 (by decide), g 10 (by decide), g 11 (by decide)]
  rfl
 ·unfold parseS
  rw [if_pos he]; exact pB_built b more
end Go.Proofs.YtpjaajeojiaeiaaGreatDoor.Ip

/- The chapter's examples hold: what each statement asks first. -/
namespace Go.Proofs.YtpjaajeojiaeiaaGreatDoor.Ip
open Go.ChangeShapes Go.WideShapes Go.ChangeAt Go.RowKit

theorem buildE_of {h : Hd} {body : ByteArray} (b : Built h body) : buildE h body = 0 := by unfold buildE; rw [if_neg (by rw [rightP_to b.r]; decide), if_neg (by have := b.l; omega)]
theorem buildS_of {h : Hd} {body : ByteArray} (b : Built h body) : buildS h body = built h body := by unfold buildS; rw [buildE_of b, if_pos rfl]
end Go.Proofs.YtpjaajeojiaeiaaGreatDoor.Ip

/- A header's variable that is kept while others are called. -/
namespace Go.Proofs.YtpjaajeojiaeiaaGreatDoor.Ip
open Go.RowKit

structure Kept (w : World) (h : Hd) (W : World) : Prop where
 at_ : HdAt W w.heap.size h
 below : Below w.heap.size w W
 size : w.heap.size + 1 ≤ W.heap.size
theorem Kept.on {w W W' : World} {h : Hd} (k : Kept w h W) (hb : Below W.heap.size W W') : Kept w h W' :=
 ⟨k.at_.on hb (by have := k.size; omega), k.below.trans (hb.mono (by have := k.size; omega)), Nat.le_trans k.size hb.size⟩
theorem kept_new (w : World) (h : Hd) (t : TypeId) : Kept w h (w.alloc (.cells #[.int .i64 h.tos, .int .i64 h.id, .int .i64 h.flags, .int .i64 h.frag, .int .i64 h.ttl, .int .i64 h.proto, .int .u32 h.src, .int .u32 h.dst, .string h.opts] t)) :=
 ⟨(newHd w h t).at_, (Below.refl _ _).alloc (Nat.le_refl _) _, by simp⟩
theorem alloc_on (W : World) (o : Obj) : Below W.heap.size W (W.alloc o) := (Below.refl _ _).alloc (Nat.le_refl _) _
end Go.Proofs.YtpjaajeojiaeiaaGreatDoor.Ip

/- Texts put together: nothing behind, and the like. -/
namespace Go.Proofs.YtpjaajeojiaeiaaGreatDoor.Ip
open Go.RowKit

end Go.Proofs.YtpjaajeojiaeiaaGreatDoor.Ip

/- The packet as the reference lays it, number by number, is the packet as text lays it, word by word. Nothing of the program's walk is in here. -/
namespace Go.Proofs.YtpjaajeojiaeiaaGreatDoor.Ip
open Go.RowKit

theorem num_app (A : List UInt8) : ∀ (n : Nat) (B : List UInt8), B.length = n → Oct.num (A ++ B) = Oct.num A * 256 ^ n + Oct.num B
 | 0, B, h => by rw [List.eq_nil_of_length_eq_zero h]; simp [Oct.num]
 | n + 1, B, h => by
  obtain ⟨B', b, rfl⟩ := Oct.snoc_of B (by omega)
  have hl : B'.length = n := by simp at h; exact h
  rw [← List.append_assoc, Oct.num_snoc, Oct.num_snoc, num_app A n B' hl, Nat.pow_succ, Nat.add_mul, Nat.mul_assoc, Nat.add_assoc]
theorem be_of {k n : Nat} {L : List UInt8} (hl : L.length = k) (hn : Oct.num L = n) : Oct.be k n = L := by rw [← hn]; exact Oct.be_num k L hl
theorem be_112 (a b c : Nat) (ha : a < 256) (hb : b < 256) (hc : c < 65536) : Oct.be 4 ((a * 256 + b) * 65536 + c) = Oct.be 1 a ++ (Oct.be 1 b ++ Oct.be 2 c) := by
 refine be_of (by simp [Oct.be_length]) ?_
 rw [num_app _ 3 _ (by simp [Oct.be_length]), num_app _ 2 _ (by simp [Oct.be_length]), Oct.num_be 1 a (by omega), Oct.num_be 1 b (by omega), Oct.num_be 2 c (by omega)]
 omega
theorem be_22 (a c : Nat) (ha : a < 65536) (hc : c < 65536) : Oct.be 4 (a * 65536 + c) = Oct.be 2 a ++ Oct.be 2 c := by
 refine be_of (by simp [Oct.be_length]) ?_
 rw [num_app _ 2 _ (by simp [Oct.be_length]), Oct.num_be 2 a (by omega), Oct.num_be 2 c (by omega)]
theorem laid_list {size n : Int} (h1 : 1 ≤ size) (h2 : size ≤ 4) (h3 : 0 ≤ n) (h4 : n.toNat < 256 ^ size.toNat) : (laid size n).data.toList = Oct.be size.toNat n.toNat := by
 rw [laid, if_pos ((laidB_iff size n).2 ⟨⟨h1, h2⟩, h3, h4⟩)]

/-- What stands ahead of the check, and behind it. -/
def layA (h : Hd) (T : Int) : ByteArray := laid 1 (64 + (20 + (h.opts.size : Int)) / 4) ++ laid 1 h.tos ++ laid 2 T ++ laid 2 h.id ++ laid 2 (h.flags * 8192 + h.frag) ++ laid 1 h.ttl ++ laid 1 h.proto
def layB (h : Hd) : ByteArray := laid 4 h.src ++ laid 4 h.dst ++ h.opts
theorem lay_text {h : Hd} (hr : RightP h) (hw : h.Wf) {T c : Int} (t0 : 0 ≤ T) (t1 : T ≤ 65535) (c0 : 0 ≤ c) (c1 : c ≤ 65535) : ftext (hfix h T c) ++ h.opts = layA h T ++ laid 2 c ++ layB h := by
 obtain ⟨s0, s1⟩ := hw.src
 obtain ⟨d0, d1⟩ := hw.dst
 obtain ⟨⟨r1, r2⟩, ⟨r3, r4⟩, ⟨r5, r6⟩, ⟨r7, r8⟩, ⟨r9, r10⟩, ⟨r11, r12⟩, o40, o4, _⟩ := hr
 have e0 : (fw0 (hfix h T c)).toNat = ((64 + (20 + (h.opts.size : Int)) / 4).toNat * 256 + h.tos.toNat) * 65536 + T.toNat := by
  show (((4 * 16 + (20 + (h.opts.size : Int)) / 4) * 256 + h.tos) * 65536 + T).toNat = _; omega
 have e1 : (fw1 (hfix h T c)).toNat = h.id.toNat * 65536 + (h.flags * 8192 + h.frag).toNat := by
  show ((h.id * 8 + h.flags) * 8192 + h.frag).toNat = _; omega
 have e2 : (fw2 (hfix h T c)).toNat = (h.ttl.toNat * 256 + h.proto.toNat) * 65536 + c.toNat := by
  show ((h.ttl * 256 + h.proto) * 65536 + c).toNat = _; omega
 have e3 : hfix h T c 10 = h.src := rfl
 have e4 : hfix h T c 11 = h.dst := rfl
 apply Oct.ba_ext
 rw [app_list, ftext_list, e0, e1, e2, e3, e4, be_112 _ _ _ (by omega) (by omega) (by omega), be_22 _ _ (by omega) (by omega), be_112 _ _ _ (by omega) (by omega) (by omega)]
 unfold layA layB
 simp only [app_list]
 rw [laid_list (size := 1) (by omega) (by omega) (by omega) (show _ < 256 by omega), laid_list (size := 1) (n := h.tos) (by omega) (by omega) (by omega) (show _ < 256 by omega), laid_list (size := 2) (n := T) (by omega) (by omega) (by omega) (show _ < 65536 by omega),
  laid_list (size := 2) (n := h.id) (by omega) (by omega) (by omega) (show _ < 65536 by omega), laid_list (size := 2) (n := h.flags * 8192 + h.frag) (by omega) (by omega) (by omega) (show _ < 65536 by omega), laid_list (size := 1) (n := h.ttl) (by omega) (by omega) (by omega) (show _ < 256 by omega),
  laid_list (size := 1) (n := h.proto) (by omega) (by omega) (by omega) (show _ < 256 by omega), laid_list (size := 2) (n := c) (by omega) (by omega) (by omega) (show _ < 65536 by omega), laid_list (size := 4) (n := h.src) (by omega) (by omega) (by omega) (show _ < 4294967296 by omega), laid_list (size := 4) (n := h.dst) (by omega) (by omega) (by omega) (show _ < 4294967296 by omega)]
 simp only [List.append_assoc]
 rfl
theorem laid_zero : laid 2 0 = ⟨#[0, 0]⟩ := by
 apply Oct.ba_ext
 rw [laid_list (by omega) (by omega) (by omega) (by decide)]
 decide
theorem layA_size (h : Hd) (T : Int) : (layA h T).size ≤ 100 := by
 have hl : ∀ s n, (laid s n).size ≤ 4 := fun s n => by
  unfold laid
  split
  ·rename_i hb
   obtain ⟨⟨h1, h2⟩, _⟩ := (laidB_iff s n).1 hb
   rw [Oct.mk_size, Oct.be_length]; omega
  ·exact Nat.zero_le _
 unfold layA
 simp only [ByteArray.size_append]
 have a1 := hl 1 (64 + (20 + (h.opts.size : Int)) / 4); have a2 := hl 1 h.tos; have a3 := hl 2 T; have a4 := hl 2 h.id; have a5 := hl 2 (h.flags * 8192 + h.frag); have a6 := hl 1 h.ttl; have a7 := hl 1 h.proto
 omega
theorem laid_size (s n : Int) : (laid s n).size ≤ 4 := by
 unfold laid
 split
 ·rename_i hb
  obtain ⟨⟨h1, h2⟩, _⟩ := (laidB_iff s n).1 hb
  rw [Oct.mk_size, Oct.be_length]; omega
 ·exact Nat.zero_le _
end Go.Proofs.YtpjaajeojiaeiaaGreatDoor.Ip
