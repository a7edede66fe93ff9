/- What is built is parsed as it was: the plain facts. Nothing of the program's walk is in here. -/
import Derived.Test.YtfppjpcolohmfaaIpBuild
import Derived.Test.YtfppjpcolohmfaaIpParse
namespace Go.Proofs.Ytfppjpcolohmfaa
open Go.RowKit

theorem ftext_list (F : Nat → Int) : (ftext F).data.toList = Oct.be 4 (fw0 F).toNat ++ (Oct.be 4 (fw1 F).toNat ++ (Oct.be 4 (fw2 F).toNat ++ (Oct.be 4 (F 10).toNat ++ Oct.be 4 (F 11).toNat))) := by
  simp only [ftext, fout, b4, ByteArray.data_append, Array.toList_append, List.append_assoc]
theorem take_len {A B : List UInt8} {n : Nat} (h : A.length = n) : (A ++ B).take n = A := by rw [← h]; exact List.take_left
theorem drop_len {A B : List UInt8} {n : Nat} (h : A.length = n) : (A ++ B).drop n = B := by rw [← h]; exact List.drop_left
theorem num_be4 (n : Int) (h0 : 0 ≤ n) (h1 : n < 4294967296) : (Oct.num (Oct.be 4 n.toNat) : Int) = n := by rw [Oct.num_be 4 n.toNat (by omega)]; omega
theorem five (l A0 A1 A2 A3 A4 R : List UInt8) (h : l = A0 ++ (A1 ++ (A2 ++ (A3 ++ (A4 ++ R))))) (a0 : A0.length = 4) (a1 : A1.length = 4) (a2 : A2.length = 4) (a3 : A3.length = 4) (a4 : A4.length = 4) :
    (l.drop 0).take 4 = A0 ∧ (l.drop 4).take 4 = A1 ∧ (l.drop 8).take 4 = A2 ∧ (l.drop 12).take 4 = A3 ∧ (l.drop 16).take 4 = A4 := by
  subst h
  have e4 : ∀ X : List UInt8, (A0 ++ X).drop 4 = X := fun X => drop_len a0
  have e8 : ∀ X : List UInt8, (A0 ++ (A1 ++ X)).drop 8 = X := fun X => by rw [show 8 = 4 + 4 from rfl, ← List.drop_drop, e4, drop_len a1]
  have e12 : ∀ X : List UInt8, (A0 ++ (A1 ++ (A2 ++ X))).drop 12 = X := fun X => by rw [show 12 = 8 + 4 from rfl, ← List.drop_drop, e8, drop_len a2]
  have e16 : ∀ X : List UInt8, (A0 ++ (A1 ++ (A2 ++ (A3 ++ X)))).drop 16 = X := fun X => by rw [show 16 = 12 + 4 from rfl, ← List.drop_drop, e12, drop_len a3]
  refine ⟨?_, ?_, ?_, ?_, ?_⟩
  · rw [List.drop_zero, take_len a0]
  · rw [e4, take_len a1]
  · rw [e8, take_len a2]
  · rw [e12, take_len a3]
  · rw [e16, take_len a4]

/-- What text wrote, read finds. -/
theorem read_text (s : ByteArray) (F : Nat → Int) (R : List UInt8) (hs : s.data.toList = (ftext F).data.toList ++ R) (hF : Fits12 F) (k : Nat) (hk : k < 12) : fget s k = F k := by
  have ⟨l0, u0⟩ := fit0 hF
  have ⟨l1, u1⟩ := fit1 hF
  have ⟨l2, u2⟩ := fit2 hF
  have ⟨l3, u3⟩ := fit3 hF
  have ⟨l4, u4⟩ := fit4 hF
  have ⟨l5, u5⟩ := fit5 hF
  have ⟨l6, u6⟩ := fit6 hF
  have ⟨l7, u7⟩ := fit7 hF
  have ⟨l8, u8⟩ := fit8 hF
  have ⟨l9, u9⟩ := fit9 hF
  have ⟨l10, u10⟩ := fit10 hF
  have ⟨l11, u11⟩ := fit11 hF
  clear hF
  rw [ftext_list] at hs
  simp only [List.append_assoc] at hs
  obtain ⟨p0, p1, p2, p3, p4⟩ := five _ _ _ _ _ _ R hs (Oct.be_length _ _) (Oct.be_length _ _) (Oct.be_length _ _) (Oct.be_length _ _) (Oct.be_length _ _)
  clear hs
  have w0 : (Oct.num ((s.data.toList.drop 0).take 4) : Int) = ((F 0 * 16 + F 1) * 256 + F 2) * 65536 + F 3 := by rw [p0]; exact num_be4 _ (by unfold fw0; omega) (by unfold fw0; omega)
  have w1 : (Oct.num ((s.data.toList.drop 4).take 4) : Int) = (F 4 * 8 + F 5) * 8192 + F 6 := by rw [p1]; exact num_be4 _ (by unfold fw1; omega) (by unfold fw1; omega)
  have w2 : (Oct.num ((s.data.toList.drop 8).take 4) : Int) = (F 7 * 256 + F 8) * 65536 + F 9 := by rw [p2]; exact num_be4 _ (by unfold fw2; omega) (by unfold fw2; omega)
  have w3 : (Oct.num ((s.data.toList.drop 12).take 4) : Int) = F 10 := by rw [p3]; exact num_be4 _ (by omega) (by omega)
  have w4 : (Oct.num ((s.data.toList.drop 16).take 4) : Int) = F 11 := by rw [p4]; exact num_be4 _ (by omega) (by omega)
  clear p0 p1 p2 p3 p4
  rcases twelve hk with rfl | rfl | rfl | rfl | rfl | rfl | rfl | rfl | rfl | rfl | rfl | rfl
  · show (Oct.num ((s.data.toList.drop 0).take 4) : Int) / 268435456 % 16 = F 0
    rw [w0]; omega
  · show (Oct.num ((s.data.toList.drop 0).take 4) : Int) / 16777216 % 16 = F 1
    rw [w0]; omega
  · show (Oct.num ((s.data.toList.drop 0).take 4) : Int) / 65536 % 256 = F 2
    rw [w0]; omega
  · show (Oct.num ((s.data.toList.drop 0).take 4) : Int) / 1 % 65536 = F 3
    rw [w0]; omega
  · show (Oct.num ((s.data.toList.drop 4).take 4) : Int) / 65536 % 65536 = F 4
    rw [w1]; omega
  · show (Oct.num ((s.data.toList.drop 4).take 4) : Int) / 8192 % 8 = F 5
    rw [w1]; omega
  · show (Oct.num ((s.data.toList.drop 4).take 4) : Int) / 1 % 8192 = F 6
    rw [w1]; omega
  · show (Oct.num ((s.data.toList.drop 8).take 4) : Int) / 16777216 % 256 = F 7
    rw [w2]; omega
  · show (Oct.num ((s.data.toList.drop 8).take 4) : Int) / 65536 % 256 = F 8
    rw [w2]; omega
  · show (Oct.num ((s.data.toList.drop 8).take 4) : Int) / 1 % 65536 = F 9
    rw [w2]; omega
  · show (Oct.num ((s.data.toList.drop 12).take 4) : Int) / 1 % 4294967296 = F 10
    rw [w3]; omega
  · show (Oct.num ((s.data.toList.drop 16).take 4) : Int) / 1 % 4294967296 = F 11
    rw [w4]; omega

theorem wsum_be4 (n : Int) (h0 : 0 ≤ n) (h1 : n < 4294967296) : Ck.wsum (Oct.be 4 n.toNat) = n / 65536 + n % 65536 := by
  simp only [Oct.be, List.nil_append, List.cons_append, Ck.wsum, UInt8.toNat_ofNat']
  omega
theorem wsum_text (F : Nat → Int) (hF : Fits12 F) : Ck.wsum (ftext F).data.toList = (F 0 * 16 + F 1) * 256 + F 2 + F 3 + F 4 + F 5 * 8192 + F 6 + (F 7 * 256 + F 8) + F 9 + (F 10 / 65536 + F 10 % 65536) + (F 11 / 65536 + F 11 % 65536) := by
  have ⟨l0, u0⟩ := fit0 hF
  have ⟨l1, u1⟩ := fit1 hF
  have ⟨l2, u2⟩ := fit2 hF
  have ⟨l3, u3⟩ := fit3 hF
  have ⟨l4, u4⟩ := fit4 hF
  have ⟨l5, u5⟩ := fit5 hF
  have ⟨l6, u6⟩ := fit6 hF
  have ⟨l7, u7⟩ := fit7 hF
  have ⟨l8, u8⟩ := fit8 hF
  have ⟨l9, u9⟩ := fit9 hF
  have ⟨l10, u10⟩ := fit10 hF
  have ⟨l11, u11⟩ := fit11 hF
  rw [ftext_list, Ck.wsum_app _ _ (by rw [Oct.be_length]), Ck.wsum_app _ _ (by rw [Oct.be_length]), Ck.wsum_app _ _ (by rw [Oct.be_length]), Ck.wsum_app _ _ (by rw [Oct.be_length]),
    wsum_be4 (fw0 F) (by unfold fw0; omega) (by unfold fw0; omega), wsum_be4 (fw1 F) (by unfold fw1; omega) (by unfold fw1; omega), wsum_be4 (fw2 F) (by unfold fw2; omega) (by unfold fw2; omega), wsum_be4 (F 10) (by omega) (by omega), wsum_be4 (F 11) (by omega) (by omega)]
  unfold fw0 fw1 fw2
  omega

/-- What holds of what is built. -/
structure Built (h : Hd) (body : ByteArray) : Prop where
  r : RightP h
  w : h.Wf
  l : btotal h body ≤ 1500
theorem Built.t0 {h : Hd} {body : ByteArray} (_ : Built h body) : 0 ≤ btotal h body := by unfold btotal; omega
theorem Built.fits {h : Hd} {body : ByteArray} (b : Built h body) {c : Int} (c0 : 0 ≤ c) (c1 : c ≤ 65535) : Fits12 (hfix h (btotal h body) c) := fits_of b.r b.w b.t0 (by have := b.l; omega) c0 c1
theorem bhead_size {h : Hd} (body : ByteArray) : (bhead h body).size = 20 + h.opts.size := by unfold bhead; rw [ByteArray.size_append, ftext_size]
theorem built_size {h : Hd} (body : ByteArray) : (built h body).size = 20 + h.opts.size + body.size := by unfold built; rw [ByteArray.size_append, bhead_size]
theorem app_list (a b : ByteArray) : (a ++ b).data.toList = a.data.toList ++ b.data.toList := by rw [ByteArray.data_append, Array.toList_append]
theorem bhead_sum {h : Hd} {body : ByteArray} (b : Built h body) : Ck.sum (bhead h body).data.toList = 65535 := by
  have f0 := b.fits (c := 0) (Int.le_refl _) (by decide)
  have fc := b.fits (bcheck_lo h body) (bcheck_hi h body)
  have e0 := wsum_text _ f0
  have ec := wsum_text _ fc
  have hlen : ∀ F, (ftext F).data.toList.length % 2 = 0 := fun F => by rw [Oct.len_eq, ftext_size]
  have s0 : Ck.wsum (bsummed h body).data.toList = Ck.wsum (ftext (hfix h (btotal h body) 0)).data.toList + Ck.wsum h.opts.data.toList := by unfold bsummed; rw [app_list, Ck.wsum_app _ _ (hlen _)]
  have sc : Ck.wsum (bhead h body).data.toList = Ck.wsum (ftext (hfix h (btotal h body) (bcheck h body))).data.toList + Ck.wsum h.opts.data.toList := by unfold bhead; rw [app_list, Ck.wsum_app _ _ (hlen _)]
  have hpos := Ck.wsum_lo h.opts.data.toList
  have ⟨x2, _⟩ := fit2 f0
  have ⟨x3, _⟩ := fit3 f0
  have ⟨x4, _⟩ := fit4 f0
  have ⟨x5, _⟩ := fit5 f0
  have ⟨x6, _⟩ := fit6 f0
  have ⟨x7, _⟩ := fit7 f0
  have ⟨x8, _⟩ := fit8 f0
  have ⟨x10, _⟩ := fit10 f0
  have ⟨x11, _⟩ := fit11 f0
  have ⟨x1, _⟩ := fit1 f0
  simp only [hfix, fx] at e0 ec x1 x2 x3 x4 x5 x6 x7 x8 x10 x11
  simp only [hfix] at s0 sc
  have hc : bcheck h body = 65535 - Ck.fold (Ck.wsum (bsummed h body).data.toList) := rfl
  have hs1 : 0 < Ck.wsum (bsummed h body).data.toList := by rw [s0, e0]; omega
  have hw : Ck.wsum (bhead h body).data.toList = Ck.wsum (bsummed h body).data.toList + bcheck h body := by rw [s0, sc, e0, ec]; omega
  unfold Ck.sum
  have hm := Ck.fold_mod (Ck.wsum (bsummed h body).data.toList)
  have hh := Ck.fold_hi (Ck.wsum (bsummed h body).data.toList)
  refine Ck.fold_full _ (by omega) (by rw [hw, hc]; omega)

theorem ext_left (a b : ByteArray) (n : Nat) (h : n = a.size) : (a ++ b).extract 0 n = a := by
  apply Oct.ba_ext
  rw [Oct.ext_list, app_list, List.drop_zero, take_len (by rw [Oct.len_eq, h])]
theorem ext_right (a b : ByteArray) (n : Nat) (h : n = a.size) : (a ++ b).extract n (a ++ b).size = b := by
  apply Oct.ba_ext
  rw [Oct.ext_list, List.take_of_length_le (by rw [Oct.len_eq]; exact Nat.le_refl _), app_list, drop_len (by rw [Oct.len_eq, h])]
theorem ext_mid3 (a b c : ByteArray) (n m : Nat) (h : n = a.size) (h2 : m = a.size + b.size) : (a ++ b ++ c).extract n m = b := by
  apply Oct.ba_ext
  rw [Oct.ext_list, app_list, take_len (by rw [Oct.len_eq, ByteArray.size_append, h2]), app_list, drop_len (by rw [Oct.len_eq, h])]

/-- The numbers that a text begins with, the header's bytes behind them. -/
structure Begins (s : ByteArray) (h : Hd) (T c : Int) : Prop where
  get : ∀ k, k < 12 → fget s k = hfix h T c k
theorem begins_of {h : Hd} {body : ByteArray} (b : Built h body) (more : ByteArray) : Begins (built h body ++ more) h (btotal h body) (bcheck h body) := by
  refine ⟨read_text _ _ (h.opts.data.toList ++ (body.data.toList ++ more.data.toList)) ?_ (b.fits (bcheck_lo h body) (bcheck_hi h body))⟩
  unfold built bhead
  simp only [app_list, List.append_assoc]
theorem f1_four {s : ByteArray} {h : Hd} {T c : Int} (b : Begins s h T c) (o4 : h.opts.size % 4 = 0) : fget s 1 * 4 = 20 + h.opts.size := by
  rw [b.get 1 (by decide)]; show (20 + (h.opts.size : Int)) / 4 * 4 = _; omega
theorem meas_built {h : Hd} {body : ByteArray} (b : Built h body) (more : ByteArray) : Meas (built h body ++ more) := by
  have g := begins_of b more
  have e1 := f1_four g b.r.o4
  have e3 : fget (built h body ++ more) 3 = btotal h body := g.get 3 (by decide)
  have e0 : fget (built h body ++ more) 0 = 4 := g.get 0 (by decide)
  have hs : ((built h body ++ more).size : Int) = btotal h body + more.size := by rw [ByteArray.size_append, built_size]; unfold btotal; omega
  have hl := b.l
  have ht : btotal h body = 20 + h.opts.size + body.size := rfl
  refine ⟨?_, e0, by omega, by omega, by omega, by omega, by omega⟩
  rw [ByteArray.size_append, built_size]; omega
theorem pX_built {h : Hd} {body : ByteArray} (b : Built h body) (more : ByteArray) : pX (built h body ++ more) = bhead h body := by
  unfold pX
  rw [f1_four (begins_of b more) b.r.o4]
  unfold built
  rw [ByteArray.append_assoc]
  exact ext_left _ _ _ (by rw [bhead_size]; omega)
theorem pO_of {s : ByteArray} {h : Hd} {body : ByteArray} (e : pX s = bhead h body) : pO s = h.opts := by
  unfold pO
  rw [e]
  unfold bhead
  exact ext_right _ _ _ (by rw [ftext_size])
theorem pB_built {h : Hd} {body : ByteArray} (b : Built h body) (more : ByteArray) : pB (built h body ++ more) = body := by
  unfold pB
  have e3 : fget (built h body ++ more) 3 = btotal h body := (begins_of b more).get 3 (by decide)
  rw [f1_four (begins_of b more) b.r.o4, e3]
  unfold built
  exact ext_mid3 _ _ _ _ _ (by rw [bhead_size]; omega) (by rw [bhead_size]; unfold btotal; omega)
/-- What is built is parsed as it was. -/
theorem parse_built {h : Hd} {body : ByteArray} (b : Built h body) (more : ByteArray) : parseE (built h body ++ more) = 0 ∧ parseH (built h body ++ more) = h ∧ parseS (built h body ++ more) = body := by
  have hx := pX_built b more
  have ho := pO_of hx
  have he : parseE (built h body ++ more) = 0 := by
    unfold parseE
    rw [if_pos (meas_to (meas_built b more)), hx, if_pos (bhead_sum b), ho, if_pos b.r.ok]
  refine ⟨he, ?_, ?_⟩
  · unfold parseH
    rw [if_pos he, ho]
    have g := (begins_of b more).get
    unfold fhead
    rw [g 2 (by decide), g 4 (by decide), g 5 (by decide), g 6 (by decide), g 7 (by decide), g 8 (by decide), g 10 (by decide), g 11 (by decide)]
    rfl
  · unfold parseS
    rw [if_pos he]; exact pB_built b more
theorem built_of {h : Hd} {body : ByteArray} (hw : h.Wf) (he : buildE h body = 0) : Built h body ∧ buildS h body = built h body := by
  have hs : buildS h body = built h body := by unfold buildS; rw [if_pos he]
  unfold buildE at he
  split at he
  · cases he
  · split at he
    · cases he
    · rename_i h1 h2
      exact ⟨⟨rightP_of (by cases hr : rightB h with | true => rfl | false => exact absurd hr h1), hw, by omega⟩, hs⟩
theorem build_no {h : Hd} {body : ByteArray} (he : ¬ buildE h body = 0) : buildS h body = ⟨#[]⟩ ∧ (rightB h = false ∨ 1500 < btotal h body) := by
  refine ⟨by unfold buildS; rw [if_neg he], ?_⟩
  unfold buildE at he
  split at he
  · rename_i h1; exact .inl h1
  · split at he
    · rename_i h2; exact .inr h2
    · exact absurd rfl he
end Go.Proofs.Ytfppjpcolohmfaa
