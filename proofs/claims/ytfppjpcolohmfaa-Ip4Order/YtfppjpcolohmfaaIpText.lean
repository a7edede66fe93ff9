/- What (*fixed).text computes: the five words of a fixed part, one behind the other. -/
import Derived.Test.YtfppjpcolohmfaaIpFix
import Derived.RegionIn
import Derived.Laws.BitsLemmas
namespace Go.Proofs.Ytfppjpcolohmfaa
open Go.ChangeShapes Go.WideShapes Go.ChangeAt Go.RowKit Go.Shelf
attribute [local go_sem] Oper.semAt_some

/-- What lies behind k fields. -/
structure TextI (w : World) (b : Nat) (F : Nat → Int) (k : Nat) (W : World) : Prop where
  oc : W.cell? ⟨w.heap.size, 0, none⟩ = some (.string (fout F k))
  of : W.frozen? ⟨w.heap.size, 0, none⟩ = false
  wc : W.cell? ⟨w.heap.size + 1, 0, none⟩ = some (.int .i64 (facc F k))
  wf : W.frozen? ⟨w.heap.size + 1, 0, none⟩ = false
  ac : W.cell? ⟨w.heap.size + 1 + 1, 0, none⟩ = some (.int .i64 (fat k))
  af : W.frozen? ⟨w.heap.size + 1 + 1, 0, none⟩ = false
  fix : FixAt W b F
  below : Below w.heap.size w W

theorem TextI.on {w : World} {b : Nat} {F : Nat → Int} {k B : Nat} {W W' : World} (h : TextI w b F k W) (hb : Below B W W') (hB : w.heap.size + 3 ≤ B) (hbw : b < w.heap.size) : TextI w b F k W' :=
  ⟨(hb.cell (p := ⟨w.heap.size, 0, none⟩) (by simp <;> omega)).trans h.oc, (hb.frozen (p := ⟨w.heap.size, 0, none⟩) (by simp <;> omega)).trans h.of,
   (hb.cell (p := ⟨w.heap.size + 1, 0, none⟩) (by simp <;> omega)).trans h.wc, (hb.frozen (p := ⟨w.heap.size + 1, 0, none⟩) (by simp <;> omega)).trans h.wf,
   (hb.cell (p := ⟨w.heap.size + 1 + 1, 0, none⟩) (by simp <;> omega)).trans h.ac, (hb.frozen (p := ⟨w.heap.size + 1 + 1, 0, none⟩) (by simp <;> omega)).trans h.af,
   h.fix.on hb (by omega), h.below.trans (hb.mono (by omega))⟩

theorem empty_app (x : ByteArray) : (⟨#[]⟩ : ByteArray) ++ x = x := by apply Oct.ba_ext; simp
/-- The word behind one more field. -/
def fnew (F : Nat → Int) (k : Nat) : Int := facc F k * 2 ^ (fbits k).toNat + F k
theorem or_new (i : Nat) (X Y : Int) (hX : 0 ≤ X) (hi : X * 2 ^ i < 1099511627776) (hY : 0 ≤ Y) (hY2 : Y < 2 ^ i) (hY3 : Y < 1099511627776) : bits .or .i64 (IntKind.i64.wrap (X * 2 ^ i)) Y = X * 2 ^ i + Y := by
  have h0 : 0 ≤ X * 2 ^ i := Int.mul_nonneg hX (Int.le_of_lt (Int.pow_pos (by decide)))
  rw [Oct.wraps_i64 _ h0 (by omega)]
  exact bits_join .i64 40 (by decide) Oct.wraps_i64 i _ Y h0 (Int.mul_emod_left _ _) (by omega) hY hY2 (by omega)
/-- What one more field does. -/
structure TextS (F : Nat → Int) (k : Nat) : Prop where
  b0 : 0 ≤ fbits k
  b1 : fbits k ≤ 32
  a0 : 0 ≤ fat k
  a1 : fat k + fbits k = fat (k + 1)
  a2 : fat (k + 1) ≤ 160
  hor : bits .or .i64 (IntKind.i64.wrap (facc F k * 2 ^ (fbits k).toNat)) (F k) = fnew F k
  next : (fat (k + 1) % 32 = 0 ∧ 0 ≤ fnew F k ∧ fnew F k < 4294967296 ∧ facc F (k + 1) = 0 ∧ fout F (k + 1) = fout F k ++ b4 (fnew F k)) ∨ (fat (k + 1) % 32 ≠ 0 ∧ facc F (k + 1) = fnew F k ∧ fout F (k + 1) = fout F k)
theorem text_step (F : Nat → Int) (hF : Fits12 F) (k : Nat) (hk : k < 12) : TextS F k := by
  have hks : k = 0 ∨ k = 1 ∨ k = 2 ∨ k = 3 ∨ k = 4 ∨ k = 5 ∨ k = 6 ∨ k = 7 ∨ k = 8 ∨ k = 9 ∨ k = 10 ∨ k = 11 := by omega
  have ⟨l0, u0⟩ := fit0 hF
  have ⟨l1, u1⟩ := fit1 hF
  have ⟨l2, u2⟩ := fit2 hF
  have ⟨l3, u3⟩ := fit3 hF
  have ⟨l4, u4⟩ := fit4 hF
  have ⟨l5, u5⟩ := fit5 hF
  have ⟨l6, u6⟩ := fit6 hF
  have ⟨l7, u7⟩ := fit7 hF
  have ⟨l8, u8⟩ := fit8 hF
  have ⟨l9, u9⟩ := fit9 hF
  have ⟨l10, u10⟩ := fit10 hF
  have ⟨l11, u11⟩ := fit11 hF
  clear hF hk
  rcases hks with rfl | rfl | rfl | rfl | rfl | rfl | rfl | rfl | rfl | rfl | rfl | rfl
  · refine ⟨by decide, by decide, by decide, by decide, by decide, or_new 4 (0) (F 0) (by omega) (by simp <;> omega) (by omega) (by simp <;> omega) (by omega), ?_⟩
    exact .inr ⟨by decide, by simp [facc, fbits, fnew], rfl⟩
  · refine ⟨by decide, by decide, by decide, by decide, by decide, or_new 4 (F 0) (F 1) (by omega) (by simp <;> omega) (by omega) (by simp <;> omega) (by omega), ?_⟩
    exact .inr ⟨by decide, by simp [facc, fbits, fnew], rfl⟩
  · refine ⟨by decide, by decide, by decide, by decide, by decide, or_new 8 (F 0 * 16 + F 1) (F 2) (by omega) (by simp <;> omega) (by omega) (by simp <;> omega) (by omega), ?_⟩
    exact .inr ⟨by decide, by simp [facc, fbits, fnew], rfl⟩
  · refine ⟨by decide, by decide, by decide, by decide, by decide, or_new 16 ((F 0 * 16 + F 1) * 256 + F 2) (F 3) (by omega) (by simp <;> omega) (by omega) (by simp <;> omega) (by omega), ?_⟩
    exact .inl ⟨by decide, by simp [facc, fbits, fnew] <;> omega, by simp [facc, fbits, fnew] <;> omega, rfl, by simp [facc, fbits, fnew, fout, fw0, empty_app]⟩
  · refine ⟨by decide, by decide, by decide, by decide, by decide, or_new 16 (0) (F 4) (by omega) (by simp <;> omega) (by omega) (by simp <;> omega) (by omega), ?_⟩
    exact .inr ⟨by decide, by simp [facc, fbits, fnew], rfl⟩
  · refine ⟨by decide, by decide, by decide, by decide, by decide, or_new 3 (F 4) (F 5) (by omega) (by simp <;> omega) (by omega) (by simp <;> omega) (by omega), ?_⟩
    exact .inr ⟨by decide, by simp [facc, fbits, fnew], rfl⟩
  · refine ⟨by decide, by decide, by decide, by decide, by decide, or_new 13 (F 4 * 8 + F 5) (F 6) (by omega) (by simp <;> omega) (by omega) (by simp <;> omega) (by omega), ?_⟩
    exact .inl ⟨by decide, by simp [facc, fbits, fnew] <;> omega, by simp [facc, fbits, fnew] <;> omega, rfl, by simp [facc, fbits, fnew, fout, fw1]⟩
  · refine ⟨by decide, by decide, by decide, by decide, by decide, or_new 8 (0) (F 7) (by omega) (by simp <;> omega) (by omega) (by simp <;> omega) (by omega), ?_⟩
    exact .inr ⟨by decide, by simp [facc, fbits, fnew], rfl⟩
  · refine ⟨by decide, by decide, by decide, by decide, by decide, or_new 8 (F 7) (F 8) (by omega) (by simp <;> omega) (by omega) (by simp <;> omega) (by omega), ?_⟩
    exact .inr ⟨by decide, by simp [facc, fbits, fnew], rfl⟩
  · refine ⟨by decide, by decide, by decide, by decide, by decide, or_new 16 (F 7 * 256 + F 8) (F 9) (by omega) (by simp <;> omega) (by omega) (by simp <;> omega) (by omega), ?_⟩
    exact .inl ⟨by decide, by simp [facc, fbits, fnew] <;> omega, by simp [facc, fbits, fnew] <;> omega, rfl, by simp [facc, fbits, fnew, fout, fw2]⟩
  · refine ⟨by decide, by decide, by decide, by decide, by decide, or_new 32 (0) (F 10) (by omega) (by simp <;> omega) (by omega) (by simp <;> omega) (by omega), ?_⟩
    exact .inl ⟨by decide, by simp [facc, fbits, fnew] <;> omega, by simp [facc, fbits, fnew] <;> omega, rfl, by simp [facc, fbits, fnew, fout]⟩
  · refine ⟨by decide, by decide, by decide, by decide, by decide, or_new 32 (0) (F 11) (by omega) (by simp <;> omega) (by omega) (by simp <;> omega) (by omega), ?_⟩
    exact .inl ⟨by decide, by simp [facc, fbits, fnew] <;> omega, by simp [facc, fbits, fnew] <;> omega, rfl, by simp [facc, fbits, fnew, fout]⟩

theorem cell_set_other {W : World} {p q : Addr} (u : Value) (h : p.block ≠ q.block) : (W.setCell q u).cell? p = W.cell? p := World.cell?_of_block (w := W) (Below.heap_setCell _ _ _ _ h)
theorem cell_set_same {W : World} {p : Addr} (u v : Value) (h : W.cell? p = some v) : (W.setCell p u).cell? p = some u := World.cell?_setCell_same' _ _ _ (by rw [h]; rfl)

/-- The word and the place behind one more field, nothing written. -/
def textV (w : World) (x y : Int) (W : World) : World := ((W.setCell ⟨w.heap.size + 1, 0, none⟩ (.int .i64 x)).setCell ⟨w.heap.size + 1 + 1, 0, none⟩ (.int .i64 y)).drew
theorem textV_above (w : World) (x y : Int) (W : World) : Above (w.heap.size + 3) W (textV w x y W) :=
  (((Above.refl _ _).setCell (p := ⟨w.heap.size + 1, 0, none⟩) (by simp) _).setCell (p := ⟨w.heap.size + 1 + 1, 0, none⟩) (by simp) _).drew
theorem textV_size (w : World) (x y : Int) (W : World) : (textV w x y W).heap.size = W.heap.size := by simp [textV, World.setCell]
structure TextM (w : World) (b : Nat) (F : Nat → Int) (o : ByteArray) (x y : Int) (W : World) : Prop where
  oc : W.cell? ⟨w.heap.size, 0, none⟩ = some (.string o)
  of : W.frozen? ⟨w.heap.size, 0, none⟩ = false
  wc : W.cell? ⟨w.heap.size + 1, 0, none⟩ = some (.int .i64 x)
  wf : W.frozen? ⟨w.heap.size + 1, 0, none⟩ = false
  ac : W.cell? ⟨w.heap.size + 1 + 1, 0, none⟩ = some (.int .i64 y)
  af : W.frozen? ⟨w.heap.size + 1 + 1, 0, none⟩ = false
  fix : FixAt W b F
  below : Below w.heap.size w W
theorem textV_mid {w : World} {b : Nat} {F : Nat → Int} {k : Nat} {W : World} (h : TextI w b F k W) (hb : b < w.heap.size) (x y : Int) : TextM w b F (fout F k) x y (textV w x y W) := by
  refine ⟨?_, ?_, ?_, ?_, ?_, ?_, ?_, ?_⟩
  · show World.cell? (World.setCell _ _ _) _ = _
    rw [cell_set_other _ (by simp; omega), cell_set_other _ (by simp)]; exact h.oc
  · show World.frozen? (World.setCell _ _ _) _ = _
    rw [World.frozen?_setCell, World.frozen?_setCell]; exact h.of
  · show World.cell? (World.setCell _ _ _) _ = _
    rw [cell_set_other _ (by simp)]; exact cell_set_same _ _ h.wc
  · show World.frozen? (World.setCell _ _ _) _ = _
    rw [World.frozen?_setCell, World.frozen?_setCell]; exact h.wf
  · exact cell_set_same (W := W.setCell _ _) _ _ (by rw [cell_set_other _ (by simp)]; exact h.ac)
  · show World.frozen? (World.setCell _ _ _) _ = _
    rw [World.frozen?_setCell, World.frozen?_setCell]; exact h.af
  · exact (FixAt.set (FixAt.set h.fix (p := ⟨w.heap.size + 1, 0, none⟩) (by simp; omega) _) (p := ⟨w.heap.size + 1 + 1, 0, none⟩) (by simp; omega) _)
  · exact ((h.below.setCell (p := ⟨w.heap.size + 1, 0, none⟩) (by simp) _).setCell (p := ⟨w.heap.size + 1 + 1, 0, none⟩) (by simp; omega) _).drew
theorem TextM.on {w : World} {b : Nat} {F : Nat → Int} {o : ByteArray} {x y : Int} {B : Nat} {W W' : World} (h : TextM w b F o x y W) (hb : Below B W W') (hB : w.heap.size + 3 ≤ B) (hbw : b < w.heap.size) : TextM w b F o x y W' :=
  ⟨(hb.cell (p := ⟨w.heap.size, 0, none⟩) (by simp; omega)).trans h.oc, (hb.frozen (p := ⟨w.heap.size, 0, none⟩) (by simp; omega)).trans h.of,
   (hb.cell (p := ⟨w.heap.size + 1, 0, none⟩) (by simp; omega)).trans h.wc, (hb.frozen (p := ⟨w.heap.size + 1, 0, none⟩) (by simp; omega)).trans h.wf,
   (hb.cell (p := ⟨w.heap.size + 1 + 1, 0, none⟩) (by simp; omega)).trans h.ac, (hb.frozen (p := ⟨w.heap.size + 1 + 1, 0, none⟩) (by simp; omega)).trans h.af,
   h.fix.on hb (by omega), h.below.trans (hb.mono (by omega))⟩
theorem TextI.lt {w : World} {b : Nat} {F : Nat → Int} {k : Nat} {W : World} (h : TextI w b F k W) : w.heap.size + 3 ≤ W.heap.size := by have := block_lt_of_cell h.ac; simp at this; omega
theorem text_more {w : World} {b : Nat} {F : Nat → Int} {k : Nat} {W : World} (h : TextI w b F k W) (hb : b < w.heap.size) (h1 : facc F (k + 1) = fnew F k) (h2 : fout F (k + 1) = fout F k) :
    Above (w.heap.size + 3) W (textV w (fnew F k) (fat (k + 1)) W) ∧ TextI w b F (k + 1) (textV w (fnew F k) (fat (k + 1)) W) := by
  have m := textV_mid h hb (fnew F k) (fat (k + 1))
  exact ⟨textV_above _ _ _ _, by rw [h2]; exact m.oc, m.of, by rw [h1]; exact m.wc, m.wf, m.ac, m.af, m.fix, m.below⟩
theorem text_done {w : World} {b : Nat} {F : Nat → Int} {k : Nat} {W W2 : World} {x : Int} (h : TextI w b F k W) (hb : b < w.heap.size) (hb2 : Below (textV w x (fat (k + 1)) W).heap.size (textV w x (fat (k + 1)) W) W2) (h1 : facc F (k + 1) = 0) (h2 : fout F (k + 1) = fout F k ++ b4 x) :
    Above (w.heap.size + 3) W ((W2.setCell ⟨w.heap.size, 0, none⟩ (.string (fout F k ++ b4 x))).setCell ⟨w.heap.size + 1, 0, none⟩ (.int .i64 0)) ∧ TextI w b F (k + 1) ((W2.setCell ⟨w.heap.size, 0, none⟩ (.string (fout F k ++ b4 x))).setCell ⟨w.heap.size + 1, 0, none⟩ (.int .i64 0)) := by
  have hlt := h.lt
  have m := (textV_mid h hb x (fat (k + 1))).on hb2 (by rw [textV_size]; omega) hb
  refine ⟨(((textV_above w x (fat (k + 1)) W).trans (Above.of_below hb2)).setCell (p := ⟨w.heap.size, 0, none⟩) (by simp) _).setCell (p := ⟨w.heap.size + 1, 0, none⟩) (by simp) _, ?_⟩
  refine ⟨?_, ?_, ?_, ?_, ?_, ?_, ?_, ?_⟩
  · rw [cell_set_other _ (by simp), h2]; exact cell_set_same _ _ m.oc
  · rw [World.frozen?_setCell, World.frozen?_setCell]; exact m.of
  · rw [h1]; exact cell_set_same _ _ (by rw [cell_set_other _ (by simp)]; exact m.wc)
  · rw [World.frozen?_setCell, World.frozen?_setCell]; exact m.wf
  · rw [cell_set_other _ (by simp), cell_set_other _ (by simp; omega)]; exact m.ac
  · rw [World.frozen?_setCell, World.frozen?_setCell]; exact m.af
  · exact (FixAt.set (FixAt.set m.fix (p := ⟨w.heap.size, 0, none⟩) (by simp; omega) _) (p := ⟨w.heap.size + 1, 0, none⟩) (by simp; omega) _)
  · exact (m.below.setCell (p := ⟨w.heap.size, 0, none⟩) (by simp) _).setCell (p := ⟨w.heap.size + 1, 0, none⟩) (by simp) _
theorem fout_size (F : Nat → Int) (k : Nat) (hk : k < 12) : (fout F k).size ≤ 16 := by
  have hks : k = 0 ∨ k = 1 ∨ k = 2 ∨ k = 3 ∨ k = 4 ∨ k = 5 ∨ k = 6 ∨ k = 7 ∨ k = 8 ∨ k = 9 ∨ k = 10 ∨ k = 11 := by omega
  rcases hks with rfl | rfl | rfl | rfl | rfl | rfl | rfl | rfl | rfl | rfl | rfl | rfl <;> simp only [fout, ByteArray.size_append, b4_size] <;> decide

set_option maxRecDepth 100000 in
set_option maxHeartbeats 4000000 in
theorem text_any (b : Nat) (F : Nat → Int) (w : World) (h : FixAt w b F) (hF : Fits12 F) (hb : b < w.heap.size) :
    Calls Try.prog 26 #[.pointer (some ⟨b, 0, none⟩)] w fun e w' => e = .returned (.string (ftext F)) ∧ Below w.heap.size w w' := by
  refine (callsIn_wide (n := 0)).1 ?_
  refine callsIn_of_wp_marks Try.func26 rfl trivial ?_ rfl
  simp only [Try.ntmps26, List.size_toArray, List.length_cons, List.length_nil, Nat.reduceAdd, Nat.reduceSub, Array.replicate_succ, Array.replicate_zero, List.push_toArray, List.append_toArray, List.nil_append, List.cons_append]
  gi_wp2
  refine ⟨trivial, rfl, (callsIn_wide.2 (fields_any _ _)).mono ?_⟩
  rintro e w' ⟨rfl, rfl⟩
  gi_wp2
  obtain ⟨V0, hV0⟩ : ∃ V0, (((w.alloc (.cells #[.string ⟨#[]⟩] 9)).alloc (.cells #[.int .i64 0] 3)).alloc (.cells #[.int .i64 0] 3)).alloc (.cells #[.pointer (some ⟨b, 0, none⟩)] 78) = V0 := ⟨_, rfl⟩
  have hsz : V0.heap.size = w.heap.size + 4 := by rw [← hV0]; simp
  have hB0 : Below w.heap.size w V0 := by rw [← hV0]; exact ((((Below.refl _ w).alloc (Nat.le_refl _) _).alloc (by simp) _).alloc (by simp <;> omega) _).alloc (by simp <;> omega) _
  have hI0 : TextI w b F 0 V0 := ⟨by rw [← hV0]; simp [go_sem, fout], by rw [← hV0]; simp [go_sem], by rw [← hV0]; simp [go_sem, facc], by rw [← hV0]; simp [go_sem], by rw [← hV0]; simp [go_sem, fat], by rw [← hV0]; simp [go_sem], h.on hB0 hb, hB0⟩
  have hsc : V0.cell? ⟨w.heap.size + 1 + 1 + 1, 0, none⟩ = some (.pointer (some ⟨b, 0, none⟩)) := by rw [← hV0]; simp [go_sem]
  rw [hV0]
  clear hV0 hB0
  refine wpIn_gives (gf := 43) (lb := #[.pointer (some ⟨w.heap.size + 1 + 1 + 1, 0, none⟩)]) (enc := fun k => #[.int .i64 (fbits k), .pointer (some ⟨b, k, none⟩)]) (N := 12) (B0 := w.heap.size + 3) rfl (enters_of Try.func43 (by kernel_rfl) rfl)
    (fun W1 hb1 hs1 => fields1_gives (w.heap.size + 1 + 1 + 1) b (w.heap.size + 3) W1 (by omega) ((hb1.cell (p := ⟨w.heap.size + 1 + 1 + 1, 0, none⟩) (by simp <;> omega)).trans hsc)) (by omega) (fun _ => rfl)
    (TextI w b F) (fun _ _ _ => False) (fun k W W' h hb' => h.on hb' (by omega) hb) (fun c k W W' h hb => h) hI0
    (fun k => { tmps := #[.pointer (some ⟨b, 0, none⟩), undef, .string ⟨#[]⟩, .pointer (some ⟨w.heap.size, 0, none⟩), .pointer (some ⟨w.heap.size + 1, 0, none⟩), .pointer (some ⟨w.heap.size + 1 + 1, 0, none⟩), .int .i64 (fbits k), .pointer (some ⟨b, k, none⟩), undef, undef, .pointer (some ⟨b, 0, none⟩), .func (.func 43) #[] #[.pointer (some ⟨w.heap.size + 1 + 1 + 1, 0, none⟩)], .int .i64 (fbits k), .pointer (some ⟨b, k, none⟩), undef, undef, undef, undef, undef, undef, undef, undef, undef, undef, undef, undef, undef, undef, undef, undef, undef, undef, undef, undef, undef, undef], defers := [] })
    ?assign ?body ?done ?stop
  case assign =>
    intro l' k W K hK
    gi_wp2
    exact hK
  case done =>
    rintro W ⟨hoc, hof, hwc, hwf, hac, haf, hfix, hbl⟩ hK
    gi_wp2
    refine ⟨by simp, .inl ⟨_, _, rfl, run_takeDeferred hK, ?_⟩⟩
    exact ⟨_, results_tmp rfl _ _ _, rfl, below_put hbl (by omega) _⟩
  case stop =>
    rintro c k W hk h hK
    exact h.elim
  rintro l' k W hk hI
  have HI := hide hI
  obtain ⟨hoc, hof, hwc, hwf, hac, haf, hfix, hbl⟩ := hI
  clear hsz hI0 hsc h
  have hmx : Try.prog.follows .mixedOrders = true := by kernel_rfl
  obtain ⟨b0, b1, a0, a1, a2, hor, hnext⟩ := text_step F hF k hk
  have hff := hfix k hk
  have HN := hide hnext
  clear hfix hbl hF hnext
  have ha1 := fun (wx : World) => run_string_add_sum (P := Try.prog) (w := wx) (fout F k) (b4 (fnew F k)) (by rw [b4_size]; have := fout_size F k hk; omega)
  clear hk
  gi_wp2
  gi_region
  all_goals
    rcases HN.out with ⟨hm, n0, n1, h1, h2⟩ | ⟨hm, h1, h2⟩
    · have H1 := hide h1
      have H2 := hide h2
      clear h1 h2 HN
      gi_wp2
      refine ⟨trivial, rfl, (CallsIn.inRound l' (callsIn_wide.2 (put4_any _ _ n0 n1))).mono ?_⟩
      rintro e w2 ⟨rfl, hb2⟩
      have HW := hide (text_done (unhide HI) hb hb2 (unhide H1) (unhide H2))
      have hle : w.heap.size + 3 ≤ (textV w (fnew F k) (fat (k + 1)) W).heap.size := by rw [textV_size]; exact (unhide HI).lt
      have m := (textV_mid (unhide HI) hb (fnew F k) (fat (k + 1))).on hb2 hle hb
      clear hle
      have c1 := m.oc
      have c2 := m.of
      have c3 := m.wc
      have c4 := m.wf
      clear m hb2 hoc hof hwc hwf hac haf hff hor hm n0 n1 a0 a1 a2 b0 b1
      gi_wp2
      exact unhide HW
    · have H1 := hide h1
      have H2 := hide h2
      clear h1 h2 HN ha1
      gi_wp2
      exact text_more (unhide HI) hb (unhide H1) (unhide H2)
end Go.Proofs.Ytfppjpcolohmfaa
