/- What read computes: the twelve numbers that the first twenty bytes of a text are. -/
import Derived.Test.YtfppjpcolohmfaaIpSet
import Derived.RegionIn
import Derived.Test.YtfppjpcolohmfaaIpAnyIn
import Derived.Laws.BitsLemmas
namespace Go.Proofs.Ytfppjpcolohmfaa
open Go.ChangeShapes Go.WideShapes Go.ChangeAt Go.RowKit Go.Shelf
attribute [local go_sem] Oper.semAt_some

/-- How many bits stand below field k in its word. -/
def fbel (k : Nat) : Int := 32 - fat k % 32 - fbits k
/-- The word that field k stands in, and its number. -/
def fword (s : ByteArray) (k : Nat) : Int := Oct.num ((s.data.toList.drop (fat k / 32 * 4).toNat).take 4)
def fget (s : ByteArray) (k : Nat) : Int := fword s k / 2 ^ (fbel k).toNat % 2 ^ (fbits k).toNat
/-- The numbers behind k fields. -/
def fpart (s : ByteArray) (k j : Nat) : Int := if j < k then fget s j else 0

/-- What lies behind k fields. -/
structure ReadI (w : World) (s : ByteArray) (k : Nat) (W : World) : Prop where
  sc : W.cell? ⟨w.heap.size, 0, none⟩ = some (.string s)
  rf : ∀ j, W.frozen? ⟨w.heap.size + 1, j, none⟩ = false
  rc : ∀ j, j < 12 → W.cell? ⟨w.heap.size + 1, j, none⟩ = some (.int .i64 0)
  fc : FixAt W (w.heap.size + 1 + 1) (fpart s k)
  ff : ∀ j, W.frozen? ⟨w.heap.size + 1 + 1, j, none⟩ = false
  ac : W.cell? ⟨w.heap.size + 1 + 1 + 1, 0, none⟩ = some (.int .i64 (fat k))
  af : W.frozen? ⟨w.heap.size + 1 + 1 + 1, 0, none⟩ = false
  below : Below w.heap.size w W

theorem ReadI.on {w : World} {s : ByteArray} {k B : Nat} {W W' : World} (h : ReadI w s k W) (hb : Below B W W') (hB : w.heap.size + 4 ≤ B) : ReadI w s k W' :=
  ⟨(hb.cell (p := ⟨w.heap.size, 0, none⟩) (by simp; omega)).trans h.sc,
   fun j => (hb.frozen (p := ⟨w.heap.size + 1, j, none⟩) (by simp; omega)).trans (h.rf j), fun j hj => (hb.cell (p := ⟨w.heap.size + 1, j, none⟩) (by simp; omega)).trans (h.rc j hj),
   h.fc.on hb (by omega), fun j => (hb.frozen (p := ⟨w.heap.size + 1 + 1, j, none⟩) (by simp; omega)).trans (h.ff j),
   (hb.cell (p := ⟨w.heap.size + 1 + 1 + 1, 0, none⟩) (by simp; omega)).trans h.ac, (hb.frozen (p := ⟨w.heap.size + 1 + 1 + 1, 0, none⟩) (by simp; omega)).trans h.af,
   h.below.trans (hb.mono (by omega))⟩

theorem twelve {k : Nat} (h : k < 12) : k = 0 ∨ k = 1 ∨ k = 2 ∨ k = 3 ∨ k = 4 ∨ k = 5 ∨ k = 6 ∨ k = 7 ∨ k = 8 ∨ k = 9 ∨ k = 10 ∨ k = 11 := by omega
theorem fword_lo (s : ByteArray) (k : Nat) : 0 ≤ fword s k := Int.natCast_nonneg _
theorem fword_hi (s : ByteArray) (k : Nat) : fword s k < 4294967296 := by
  unfold fword
  have h1 : ((s.data.toList.drop (fat k / 32 * 4).toNat).take 4).length ≤ 4 := by rw [List.length_take]; omega
  have h2 := Oct.num_lt _ ((s.data.toList.drop (fat k / 32 * 4).toNat).take 4) rfl
  have h3 : 256 ^ ((s.data.toList.drop (fat k / 32 * 4).toNat).take 4).length ≤ 256 ^ 4 := Nat.pow_le_pow_right (by decide) h1
  omega
/-- What one more field does. -/
structure ReadS (s : ByteArray) (k : Nat) : Prop where
  b0 : 0 ≤ fbits k
  b1 : fbits k ≤ 32
  a0 : 0 ≤ fat k
  a1 : fat k + fbits k = fat (k + 1)
  a2 : fat (k + 1) ≤ 160
  p0 : 0 ≤ fat k / 32 * 4
  p1 : fat k / 32 * 4 ≤ 16
  e0 : 0 ≤ 32 - fat k % 32 - fbits k
  e1 : 32 - fat k % 32 - fbits k ≤ 32
  hand : bits .and .i64 (fword s k / 2 ^ (32 - fat k % 32 - fbits k).toNat) (IntKind.i64.wrap (2 ^ (fbits k).toNat) - 1) = fget s k
  m1 : IntKind.i64.wrap (IntKind.i64.wrap (2 ^ (fbits k).toNat) - 1) = IntKind.i64.wrap (2 ^ (fbits k).toNat) - 1
theorem read_step (s : ByteArray) (k : Nat) (hk : k < 12) : ReadS s k := by
  have hb : 0 ≤ fbits k ∧ fbits k ≤ 32 ∧ 0 ≤ fat k ∧ fat k + fbits k = fat (k + 1) ∧ fat (k + 1) ≤ 160 ∧ 0 ≤ fat k / 32 * 4 ∧ fat k / 32 * 4 ≤ 16 ∧ 0 ≤ 32 - fat k % 32 - fbits k ∧ 32 - fat k % 32 - fbits k ≤ 32 := by
    rcases twelve hk with rfl | rfl | rfl | rfl | rfl | rfl | rfl | rfl | rfl | rfl | rfl | rfl <;> decide
  obtain ⟨b0, b1, a0, a1, a2, p0, p1, e0, e1⟩ := hb
  have hp : (2 : Int) ^ (fbits k).toNat ≤ 4294967296 ∧ 1 ≤ (2 : Int) ^ (fbits k).toNat := by
    rcases twelve hk with rfl | rfl | rfl | rfl | rfl | rfl | rfl | rfl | rfl | rfl | rfl | rfl <;> decide
  have hw : IntKind.i64.wrap (2 ^ (fbits k).toNat) = 2 ^ (fbits k).toNat := Oct.wraps_i64 _ (by omega) (by omega)
  refine ⟨b0, b1, a0, a1, a2, p0, p1, e0, e1, ?_, ?_⟩
  · rw [hw]
    have h0 : 0 ≤ fword s k / 2 ^ (32 - fat k % 32 - fbits k).toNat := Int.ediv_nonneg (fword_lo s k) (Int.le_of_lt (Int.pow_pos (by decide)))
    have h1 : fword s k / 2 ^ (32 - fat k % 32 - fbits k).toNat ≤ fword s k := Int.ediv_le_self _ (fword_lo s k)
    have h2 := fword_hi s k
    exact bits_mask .i64 40 (by decide) Oct.wraps_i64 (fbits k).toNat (by omega) _ h0 (by omega)
  · rw [hw]; exact Oct.wraps_i64 _ (by omega) (by omega)
theorem fpart_zero (s : ByteArray) : fpart s 0 = fun _ => 0 := by funext j; simp [fpart]
theorem fpart_same (s : ByteArray) (k : Nat) : fpart s (k + 1) k = fget s k := by unfold fpart; rw [if_pos (by omega)]
theorem fpart_other (s : ByteArray) (k j : Nat) (h : j ≠ k) : fpart s (k + 1) j = fpart s k j := by unfold fpart; by_cases hj : j < k <;> simp [hj] <;> omega
theorem fpart_all (s : ByteArray) (j : Nat) (h : j < 12) : fpart s 12 j = fget s j := by unfold fpart; rw [if_pos h]
theorem ReadI.lt {w : World} {s : ByteArray} {k : Nat} {W : World} (h : ReadI w s k W) : w.heap.size + 4 ≤ W.heap.size := by have := block_lt_of_cell h.ac; simp at this; omega
theorem get_word (s : ByteArray) (k : Nat) (w : World) (hk : k < 12) (h20 : 20 ≤ s.size) (hs : s.size ≤ 281474976710656) :
    Calls Try.prog 44 #[.string s, .int .i64 (fat k / 32 * 4), .int .i64 4] w fun e w' => e = .returned (.tuple #[.int .i64 (fword s k), .bool true]) ∧ w' = w := by
  have st := read_step s k hk
  exact get_yes s (fat k / 32 * 4) 4 w (by unfold maxLen; omega) (by omega) (by omega) st.p0 (by have := st.p1; omega)
theorem cell_other {W : World} {p q : Addr} {v : Value} (h : p ≠ q) : (W.setCell p v).cell? q = W.cell? q := World.cell?_setCell_other W p q v h
theorem cell_same {W : World} {p : Addr} {u v : Value} (h : W.cell? p = some u) : (W.setCell p v).cell? p = some v := World.cell?_setCell_same W p v h
theorem setCell_twice (W : World) (p : Addr) (v : Value) : (W.setCell p v).setCell p v = W.setCell p v := by
  unfold World.setCell
  congr 1
  apply Array.ext
  · simp
  · intro i h1 h2
    simp only [Array.getElem_modify]
    split
    · cases W.heap[i]'(by simpa using h2) <;> first | rfl | (simp; done) | (simp only; split <;> simp)
    · rfl
theorem ne_addr {b b' o o' : Nat} (h : b ≠ b' ∨ o ≠ o') : (⟨b, o, none⟩ : Addr) ≠ ⟨b', o', none⟩ := fun e => by cases e; omega
theorem read_more {w : World} {s : ByteArray} {k : Nat} {W : World} (h : ReadI w s k W) (hk : k < 12) :
    Above (w.heap.size + 4) W (((W.drew.setCell ⟨w.heap.size + 1 + 1, k, none⟩ (.int .i64 (fget s k))).setCell ⟨w.heap.size + 1 + 1 + 1, 0, none⟩ (.int .i64 (fat (k + 1))))) ∧
    ReadI w s (k + 1) (((W.drew.setCell ⟨w.heap.size + 1 + 1, k, none⟩ (.int .i64 (fget s k))).setCell ⟨w.heap.size + 1 + 1 + 1, 0, none⟩ (.int .i64 (fat (k + 1))))) := by
  refine ⟨((((Above.refl _ _).drew).setCell (p := ⟨w.heap.size + 1 + 1, k, none⟩) (by simp) _).setCell (p := ⟨w.heap.size + 1 + 1 + 1, 0, none⟩) (by simp) _), ?_⟩
  have hd : ∀ (V : World) (a : Addr), V.drew.cell? a = V.cell? a := fun _ _ => rfl
  have hd2 : ∀ (V : World) (a : Addr), V.drew.frozen? a = V.frozen? a := fun _ _ => rfl
  refine ⟨?_, ?_, ?_, ?_, ?_, ?_, ?_, ?_⟩
  · rw [cell_other (ne_addr (by omega)), cell_other (ne_addr (by omega)), hd]; exact h.sc
  · intro j; rw [World.frozen?_setCell, World.frozen?_setCell, hd2]; exact h.rf j
  · intro j hj; rw [cell_other (ne_addr (by omega)), cell_other (ne_addr (by omega)), hd]; exact h.rc j hj
  · intro j hj
    rw [cell_other (ne_addr (by omega))]
    by_cases e : j = k
    · subst e; rw [fpart_same]; exact cell_same (W := W.drew) (h.fc j hj)
    · rw [cell_other (ne_addr (by omega)), fpart_other s k j e, hd]; exact h.fc j hj
  · intro j; rw [World.frozen?_setCell, World.frozen?_setCell, hd2]; exact h.ff j
  · exact cell_same (u := .int .i64 (fat k)) (by rw [cell_other (ne_addr (by omega)), hd]; exact h.ac)
  · rw [World.frozen?_setCell, World.frozen?_setCell, hd2]; exact h.af
  · exact ((h.below.drew).setCell (p := ⟨w.heap.size + 1 + 1, k, none⟩) (by simp; omega) _).setCell (p := ⟨w.heap.size + 1 + 1 + 1, 0, none⟩) (by simp; omega) _

set_option maxRecDepth 100000 in
set_option maxHeartbeats 4000000 in
theorem read_any (s : ByteArray) (w : World) (h20 : 20 ≤ s.size) (hs : s.size ≤ 281474976710656) :
    Calls Try.prog 45 #[.string s] w fun e w' => e = .returned (.agg #[.int .i64 (fget s 0), .int .i64 (fget s 1), .int .i64 (fget s 2), .int .i64 (fget s 3), .int .i64 (fget s 4), .int .i64 (fget s 5), .int .i64 (fget s 6), .int .i64 (fget s 7), .int .i64 (fget s 8), .int .i64 (fget s 9), .int .i64 (fget s 10), .int .i64 (fget s 11)]) ∧ Below w.heap.size w w' := by
  refine (callsIn_wide (n := 0)).1 ?_
  refine callsIn_of_wp_marks Try.func45 rfl trivial ?_ rfl
  simp only [Try.ntmps45, List.size_toArray, List.length_cons, List.length_nil, Nat.reduceAdd, Nat.reduceSub, Array.replicate_succ, Array.replicate_zero, List.push_toArray, List.append_toArray, List.nil_append, List.cons_append]
  gi_wp2
  refine ⟨trivial, rfl, (callsIn_wide.2 (fields_any _ _)).mono ?_⟩
  rintro e w' ⟨rfl, rfl⟩
  gi_wp2
  obtain ⟨V0, hV0⟩ : ∃ V0, ((((w.alloc (.cells #[.string s] 9)).alloc (.cells #[.int .i64 0, .int .i64 0, .int .i64 0, .int .i64 0, .int .i64 0, .int .i64 0, .int .i64 0, .int .i64 0, .int .i64 0, .int .i64 0, .int .i64 0, .int .i64 0] 55)).alloc (.cells #[.int .i64 0, .int .i64 0, .int .i64 0, .int .i64 0, .int .i64 0, .int .i64 0, .int .i64 0, .int .i64 0, .int .i64 0, .int .i64 0, .int .i64 0, .int .i64 0] 55)).alloc (.cells #[.int .i64 0] 3)).alloc (.cells #[.pointer (some ⟨w.heap.size + 1 + 1, 0, none⟩)] 78) = V0 := ⟨_, rfl⟩
  have hsz : V0.heap.size = w.heap.size + 5 := by rw [← hV0]; simp
  have hB0 : Below w.heap.size w V0 := by rw [← hV0]; exact (((((Below.refl _ w).alloc (Nat.le_refl _) _).alloc (by simp) _).alloc (by simp <;> omega) _).alloc (by simp <;> omega) _).alloc (by simp <;> omega) _
  have hI0 : ReadI w s 0 V0 := by
    refine ⟨by rw [← hV0]; simp [go_sem], fun j => by rw [← hV0]; simp [go_sem], ?_, ?_, fun j => by rw [← hV0]; simp [go_sem], by rw [← hV0]; simp [go_sem, fat], by rw [← hV0]; simp [go_sem], hB0⟩
    · intro j hj
      rw [← hV0]
      rcases twelve hj with rfl | rfl | rfl | rfl | rfl | rfl | rfl | rfl | rfl | rfl | rfl | rfl <;> simp [go_sem]
    · intro j hj
      rw [← hV0, fpart_zero]
      rcases twelve hj with rfl | rfl | rfl | rfl | rfl | rfl | rfl | rfl | rfl | rfl | rfl | rfl <;> simp [go_sem]
  have hsc : V0.cell? ⟨w.heap.size + 1 + 1 + 1 + 1, 0, none⟩ = some (.pointer (some ⟨w.heap.size + 1 + 1, 0, none⟩)) := by rw [← hV0]; simp [go_sem]
  rw [hV0]
  clear hV0 hB0
  refine wpIn_gives (gf := 43) (lb := #[.pointer (some ⟨w.heap.size + 1 + 1 + 1 + 1, 0, none⟩)]) (enc := fun k => #[.int .i64 (fbits k), .pointer (some ⟨w.heap.size + 1 + 1, k, none⟩)]) (N := 12) (B0 := w.heap.size + 4) rfl (enters_of Try.func43 (by kernel_rfl) rfl)
    (fun W1 hb1 hs1 => fields1_gives (w.heap.size + 1 + 1 + 1 + 1) (w.heap.size + 1 + 1) (w.heap.size + 4) W1 (by omega) ((hb1.cell (p := ⟨w.heap.size + 1 + 1 + 1 + 1, 0, none⟩) (by simp; omega)).trans hsc)) (by omega) (fun _ => rfl)
    (ReadI w s) (fun _ _ _ => False) (fun k W W' h hb' => h.on hb' (by omega)) (fun c k W W' h hb => h) hI0
    (fun k => { tmps := #[.string s, .pointer (some ⟨w.heap.size, 0, none⟩), .pointer (some ⟨w.heap.size + 1, 0, none⟩), .pointer (some ⟨w.heap.size + 1 + 1, 0, none⟩), .pointer (some ⟨w.heap.size + 1 + 1 + 1, 0, none⟩), .int .i64 (fbits k), .pointer (some ⟨w.heap.size + 1 + 1, k, none⟩), undef, undef, undef, .func (.func 43) #[] #[.pointer (some ⟨w.heap.size + 1 + 1 + 1 + 1, 0, none⟩)], .int .i64 (fbits k), .pointer (some ⟨w.heap.size + 1 + 1, k, none⟩), undef, undef, undef, undef, undef, undef, undef, undef, undef, undef, undef, undef, undef, undef, undef, undef, undef, undef, undef, undef, undef, undef, undef, undef, undef, undef], defers := [] })
    ?assign ?body ?done ?stop
  case assign =>
    intro l' k W K hK
    gi_wp2
    exact hK
  case done =>
    rintro W hI hK
    obtain ⟨hsc, hrf, hrc, hfc, hff, hac, haf, hbl⟩ := hI
    have f0 := hfc 0 (by decide)
    have f1 := hfc 1 (by decide)
    have f2 := hfc 2 (by decide)
    have f3 := hfc 3 (by decide)
    have f4 := hfc 4 (by decide)
    have f5 := hfc 5 (by decide)
    have f6 := hfc 6 (by decide)
    have f7 := hfc 7 (by decide)
    have f8 := hfc 8 (by decide)
    have f9 := hfc 9 (by decide)
    have f10 := hfc 10 (by decide)
    have f11 := hfc 11 (by decide)
    rw [fpart_all s _ (by decide)] at f0 f1 f2 f3 f4 f5 f6 f7 f8 f9 f10 f11
    have r0 := hrc 0 (by decide)
    have r1 := hrc 1 (by decide)
    have r2 := hrc 2 (by decide)
    have r3 := hrc 3 (by decide)
    have r4 := hrc 4 (by decide)
    have r5 := hrc 5 (by decide)
    have r6 := hrc 6 (by decide)
    have r7 := hrc 7 (by decide)
    have r8 := hrc 8 (by decide)
    have r9 := hrc 9 (by decide)
    have r10 := hrc 10 (by decide)
    have r11 := hrc 11 (by decide)
    have HR : Hid (FixAt W (w.heap.size + 1) fun _ => 0) := fun j hj => hrc j hj
    have HS : Hid (V0.heap.size = w.heap.size + 5) := hsz
    clear hfc hff hac haf hsc hrc hI0
    gi_wp2
    have hfx := set12_fix (fget s) HR.out
    have hbz := set12_below (b := w.heap.size + 1) (F := fget s) hbl (by omega)
    have hkz := (set12_heap W (w.heap.size + 1) (fget s) V0.heap.size (by rw [HS.out]; omega)).trans hK
    unfold set12 at hfx hbz hkz
    refine ⟨by simp, .inl ⟨_, _, rfl, run_takeDeferred hkz, ?_⟩⟩
    have hfy := hfx.putObj (l := V0.heap.size) (by rw [HS.out]; omega) (.deferred none)
    have g0 := hfy 0 (by decide)
    have g1 := hfy 1 (by decide)
    have g2 := hfy 2 (by decide)
    have g3 := hfy 3 (by decide)
    have g4 := hfy 4 (by decide)
    have g5 := hfy 5 (by decide)
    have g6 := hfy 6 (by decide)
    have g7 := hfy 7 (by decide)
    have g8 := hfy 8 (by decide)
    have g9 := hfy 9 (by decide)
    have g10 := hfy 10 (by decide)
    have g11 := hfy 11 (by decide)
    have hby := below_put hbz (l := V0.heap.size) (by rw [HS.out]; omega) (.deferred none)
    clear hfx hfy f0 f1 f2 f3 f4 f5 f6 f7 f8 f9 f10 f11 r0 r1 r2 r3 r4 r5 r6 r7 r8 r9 r10 r11 hrf hbl hK HR HS
    refine ⟨_, ?_, rfl, hby⟩
    simp [results, Try.results45, go_sem, g0, g1, g2, g3, g4, g5, g6, g7, g8, g9, g10, g11]
  case stop =>
    rintro c k W hk h hK
    exact h.elim
  rintro l' k W hk hI
  have HI := hide hI
  obtain ⟨hsc, hrf, hrc, hfc, hff, hac, haf, hbl⟩ := hI
  clear hsz hI0 hrf hrc hbl
  have hmx : Try.prog.follows .mixedOrders = true := by kernel_rfl
  obtain ⟨b0, b1, a0, a1, a2, p0, p1, e0, e1, hand, m1⟩ := read_step s k hk
  have hfk := hff k
  have hck := hfc k hk
  have w0 := fword_lo s k
  have w1 := fword_hi s k
  have hg := fun u => get_word s k u hk h20 hs
  have HK := hide hk
  clear hfc hff hk
  gi_wp2
  refine ⟨trivial, rfl, (CallsIn.inRound l' (callsIn_wide.2 (hg _))).mono ?_⟩
  rintro e w2 ⟨rfl, rfl⟩
  gi_wp2
  have hck2 : (w2.drew.setCell ⟨w.heap.size + 1 + 1, k, none⟩ (.int .i64 (fget s k))).cell? ⟨w.heap.size + 1 + 1, k, none⟩ = some (.int .i64 (fget s k)) := cell_same (W := w2.drew) hck
  have hfk2 : (w2.drew.setCell ⟨w.heap.size + 1 + 1, k, none⟩ (.int .i64 (fget s k))).frozen? ⟨w.heap.size + 1 + 1, k, none⟩ = false := by rw [World.frozen?_setCell]; exact hfk
  have hck1 : w2.drew.cell? ⟨w.heap.size + 1 + 1, k, none⟩ = some (.int .i64 (fpart s k k)) := hck
  have hfk1 : w2.drew.frozen? ⟨w.heap.size + 1 + 1, k, none⟩ = false := hfk
  have hac1 : (w2.drew.setCell ⟨w.heap.size + 1 + 1, k, none⟩ (.int .i64 (fget s k))).cell? ⟨w.heap.size + 1 + 1 + 1, 0, none⟩ = some (.int .i64 (fat k)) := (cell_other (ne_addr (by omega))).trans hac
  have haf1 : (w2.drew.setCell ⟨w.heap.size + 1 + 1, k, none⟩ (.int .i64 (fget s k))).frozen? ⟨w.heap.size + 1 + 1 + 1, 0, none⟩ = false := by rw [World.frozen?_setCell]; exact haf
  have HM := hide (read_more (unhide HI) (unhide HK))
  have htw := setCell_twice w2.drew ⟨w.heap.size + 1 + 1, k, none⟩ (.int .i64 (fget s k))
  generalize hu1 : w2.drew.setCell ⟨w.heap.size + 1 + 1, k, none⟩ (.int .i64 (fget s k)) = u1 at *
  generalize hu0 : w2.drew = u0 at *
  refine region_store_in hmx [.pointer (some ⟨w.heap.size + 1 + 1, k, none⟩), .int .i64 (fword s k), .int .i64 (32 - fat k % 32 - fbits k), .int .i64 (fword s k / 2 ^ (32 - fat k % 32 - fbits k).toNat), .int .i64 (fbits k), .int .i64 (IntKind.i64.wrap (2 ^ (fbits k).toNat)), .int .i64 (IntKind.i64.wrap (2 ^ (fbits k).toNat) - 1), .int .i64 (fget s k), .pointer (some ⟨w.heap.size + 1 + 1, k, none⟩), undef] 9 u1 (by kernel_rfl) (by kernel_rfl) ?op (by decide) rfl ?fin
  case op =>
    intro i o b u ho hu hold hdeps
    match i, ho with
    | 0, ho =>
      obtain rfl := Option.some.inj ho
      have d6 : b.tmps.getD 6 undef = .pointer (some ⟨w.heap.size + 1 + 1, k, none⟩) := hold 6 (base_of (by kernel_rfl))
      refine ⟨rfl, ?_⟩
      rw [if_neg (by decide)]
      simp [execOp, Act.eval, d6]
    | 1, ho =>
      obtain rfl := Option.some.inj ho
      have d7 : b.tmps.getD 7 undef = .int .i64 (fword s k) := hold 7 (base_of (by kernel_rfl))
      refine ⟨rfl, ?_⟩
      rw [if_neg (by decide)]
      simp [execOp, Act.eval, d7]
    | 2, ho =>
      obtain rfl := Option.some.inj ho
      have d9 : b.tmps.getD 9 undef = .int .i64 (32 - fat k % 32 - fbits k) := hold 9 (base_of (by kernel_rfl))
      refine ⟨rfl, ?_⟩
      rw [if_neg (by decide)]
      simp [execOp, Act.eval, d9]
    | 3, ho =>
      obtain rfl := Option.some.inj ho
      have d27 : b.tmps.getD 27 undef = .int .i64 (fword s k) := hdeps 1 27 (by kernel_rfl) (by kernel_rfl)
      have d28 : b.tmps.getD 28 undef = .int .i64 (32 - fat k % 32 - fbits k) := hdeps 2 28 (by kernel_rfl) (by kernel_rfl)
      refine ⟨rfl, ?_⟩
      rw [if_neg (by decide)]
      simp [execOp, Act.eval, d27, d28, go_sem]
    | 4, ho =>
      obtain rfl := Option.some.inj ho
      have d5 : b.tmps.getD 5 undef = .int .i64 (fbits k) := hold 5 (base_of (by kernel_rfl))
      refine ⟨rfl, ?_⟩
      rw [if_neg (by decide)]
      simp [execOp, Act.eval, d5]
    | 5, ho =>
      obtain rfl := Option.some.inj ho
      have d30 : b.tmps.getD 30 undef = .int .i64 (fbits k) := hdeps 4 30 (by kernel_rfl) (by kernel_rfl)
      refine ⟨rfl, ?_⟩
      rw [if_neg (by decide)]
      simp [execOp, Act.eval, d30, go_sem]
    | 6, ho =>
      obtain rfl := Option.some.inj ho
      have d31 : b.tmps.getD 31 undef = .int .i64 (IntKind.i64.wrap (2 ^ (fbits k).toNat)) := hdeps 5 31 (by kernel_rfl) (by kernel_rfl)
      refine ⟨rfl, ?_⟩
      rw [if_neg (by decide)]
      simp [execOp, Act.eval, d31, go_sem, m1]
    | 7, ho =>
      obtain rfl := Option.some.inj ho
      have d29 : b.tmps.getD 29 undef = .int .i64 (fword s k / 2 ^ (32 - fat k % 32 - fbits k).toNat) := hdeps 3 29 (by kernel_rfl) (by kernel_rfl)
      have d32 : b.tmps.getD 32 undef = .int .i64 (IntKind.i64.wrap (2 ^ (fbits k).toNat) - 1) := hdeps 6 32 (by kernel_rfl) (by kernel_rfl)
      refine ⟨rfl, ?_⟩
      rw [if_neg (by decide)]
      simp [execOp, Act.eval, d29, d32, go_sem, hand]
    | 8, ho =>
      obtain rfl := Option.some.inj ho
      have d26 : b.tmps.getD 26 undef = .pointer (some ⟨w.heap.size + 1 + 1, k, none⟩) := hdeps 0 26 (by kernel_rfl) (by kernel_rfl)
      refine ⟨rfl, ?_⟩
      rw [if_neg (by decide)]
      simp [execOp, Act.eval, d26]
    | 9, ho =>
      obtain rfl := Option.some.inj ho
      have d34 : b.tmps.getD 34 undef = .pointer (some ⟨w.heap.size + 1 + 1, k, none⟩) := hdeps 8 34 (by kernel_rfl) (by kernel_rfl)
      have d33 : b.tmps.getD 33 undef = .int .i64 (fget s k) := hdeps 7 33 (by kernel_rfl) (by kernel_rfl)
      refine ⟨rfl, ?_⟩
      rw [if_pos rfl]
      rw [hu0] at hu
      rcases hu with rfl | rfl
      · simp [execOp, Act.eval, d34, d33, go_sem, hck1, hfk1, hu1]
      · simp [execOp, Act.eval, d34, d33, go_sem, hck2, hfk2, htw]
    | n + 10, ho => exact absurd ho (by simp)
  case fin =>
    simp [putAll, dstAt, Act.put]
    clear hck1 hck2 hfk1 hfk2 htw hand m1 hg w0 w1 e0 e1 p0 p1
    gi_wp2
    exact unhide HM
end Go.Proofs.Ytfppjpcolohmfaa
