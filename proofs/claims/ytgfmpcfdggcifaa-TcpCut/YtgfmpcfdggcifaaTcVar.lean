/- What the variadic helpers of package tcp compute: within, text, read. -/
import Derived.Test.YtgfmpcfdggcifaaAny
import Derived.Test.YtgfmpcfdggcifaaTcBase
namespace Go.Proofs.Ytgfmpcfdggcifaa
open Go.ChangeShapes Go.WideShapes Go.ChangeAt Go.RowKit

/-- Is each number 0 to most? -/
def okAll (most : Int) (zs : List Int) : Bool := zs.all fun z => decide (0 ≤ z) && decide (z ≤ most)
def okFrom (most : Int) (zs : List Int) (i : Nat) : Bool := okAll most (zs.drop i)
theorem okFrom_end (most : Int) (zs : List Int) : okFrom most zs zs.length = true := by unfold okFrom; rw [List.drop_length]; rfl
theorem okFrom_step (most : Int) (zs : List Int) (i : Nat) (h : i < zs.length) : okFrom most zs i = (decide (0 ≤ zs.getD i 0) && decide (zs.getD i 0 ≤ most) && okFrom most zs (i + 1)) := by
  unfold okFrom okAll
  rw [List.drop_eq_getElem_cons h, List.all_cons, List.getD_eq_getElem?_getD, List.getElem?_eq_getElem h]
  rfl

set_option maxHeartbeats 1000000 in
theorem twithin_any (most : Int) (zs : List Int) (n g : Nat) (w : World) (hn : zs.length = n) (hl : n ≤ 100) (hr : Reads w g zs) :
    Calls Try.prog 24 #[.int .i64 most, .slice (some ⟨g, 0, none⟩) n n] w fun e w' => e = .returned (.bool (okAll most zs)) ∧ w' = w := by
  have H0 : Hid (okFrom most zs 0 = okAll most zs) := by show _ = _; unfold okFrom; rw [List.drop_zero]
  have HR := hide hr
  clear hr
  go_enter Try.func24, Try.ntmps24
  go_wp2
  go_loop [9] (fun t => ∃ i : Nat, i ≤ n ∧ t = .int .i64 i ∧ okFrom most zs i = okAll most zs) (fun t => n - (intOf t).toNat)
  case atStart => exact ⟨0, Nat.zero_le _, rfl, H0.out⟩
  case round =>
    obtain ⟨i, hi, rfl, ho⟩ := hrel
    have HO := hide ho
    clear ho
    by_cases he : i = n
    · have HE : Hid (true = okAll most zs) := by show _ = _; rw [← unhide HO, he, ← hn]; exact (okFrom_end most zs).symm
      have hd : decide ((i : Int) < n) = false := by simp; omega
      go_wp2_with fail
      go_ret
      exact ⟨ret_bool HE.out, rfl⟩
    · have h1 : i < n := by omega
      have hc := unhide HR i (by omega)
      have HS := hide (okFrom_step most zs i (by omega))
      generalize zs.getD i 0 = z at *
      by_cases hz : z < 0
      · have HE : Hid (false = okAll most zs) := by show _ = _; rw [← unhide HO, unhide HS, decide_eq_false (show ¬ 0 ≤ z by omega)]; rfl
        go_wp2_with fail
        go_ret
        exact ⟨ret_bool HE.out, rfl⟩
      · by_cases hm : most < z
        · have HE : Hid (false = okAll most zs) := by show _ = _; rw [← unhide HO, unhide HS, decide_eq_false (show ¬ z ≤ most by omega), Bool.and_false]; rfl
          go_wp2_with fail
          go_ret
          exact ⟨ret_bool HE.out, rfl⟩
        · have HE : Hid (okFrom most zs (i + 1) = okAll most zs) := by show _ = _; rw [← unhide HO, unhide HS, decide_eq_true (show z ≤ most by omega), decide_eq_true (show 0 ≤ z by omega)]; rfl
          go_wp2_with fail
          go_round
          case rel => exact ⟨i + 1, by omega, by go_num, HE.out⟩
          case measure => simp [intOf]; omega

/-- The first i of the numbers one behind the other. -/
def textN (size : Int) (zs : List Int) : Nat → ByteArray
  | 0 => ⟨#[]⟩
  | i + 1 => textN size zs i ++ laid size (zs.getD i 0)
theorem laid_size (s n : Int) : (laid s n).size ≤ 4 := by
  unfold laid
  split
  · rename_i h
    obtain ⟨⟨h1, h2⟩, _⟩ := (laidB_iff s n).1 h
    rw [Oct.mk_size, Oct.be_length]; omega
  · exact Nat.zero_le _
theorem textN_size (size : Int) (zs : List Int) : ∀ i, (textN size zs i).size ≤ 4 * i
  | 0 => Nat.le_refl _
  | i + 1 => by rw [textN, ByteArray.size_append]; have := textN_size size zs i; have := laid_size size (zs.getD i 0); omega

set_option maxHeartbeats 1000000 in
theorem text_any (size : Int) (zs : List Int) (n g : Nat) (w : World) (hn : zs.length = n) (hl : n ≤ 100) (hr : Reads w g zs) :
    Calls Try.prog 22 #[.int .i64 size, .slice (some ⟨g, 0, none⟩) n n] w fun e w' => e = .returned (.string (textN size zs n)) ∧ Below w.heap.size w w' := by
  have HR := hide hr
  clear hr
  go_enter Try.func22, Try.ntmps22
  go_wp2
  go_loopw [5, 12] (fun o t w' => ∃ i : Nat, i ≤ n ∧ t = .int .i64 i ∧ o = .string (textN size zs i) ∧ Below w.heap.size w w') (fun _ t _ => n - (intOf t).toNat)
  case atStart => exact ⟨0, Nat.zero_le _, rfl, rfl, Below.refl _ _⟩
  case round =>
    obtain ⟨i, hi, rfl, rfl, hb⟩ := hrel
    by_cases he : i = n
    · have hd : decide ((i : Int) < n) = false := by simp; omega
      have HB := hide hb
      clear hb
      go_wp2_with fail
      go_ret
      exact ⟨ret_str (by rw [he]), unhide HB⟩
    · have h1 : i < n := by omega
      have hc := (unhide HR).on hb i (by omega)
      have hT := textN_size size zs i
      have hL := laid_size size (zs.getD i 0)
      have HN : Hid (textN size zs (i + 1) = textN size zs i ++ laid size (zs.getD i 0)) := rfl
      generalize zs.getD i 0 = z at *
      have ha := fun (wx : World) => run_string_add_sum (P := Try.prog) (w := wx) (textN size zs i) (laid size z) (by omega)
      have HB := hide hb
      clear hb
      generalize textN size zs i = T at *
      go_wp2_with fail
      refine (put_any size z _).mono ?_
      rintro e w1 ⟨rfl, hb1⟩
      have HB1 := hide hb1
      clear hb1
      go_wp2_with fail
      go_roundw
      case rel => exact ⟨i + 1, by omega, by go_num, by rw [HN.out], Below.then (unhide HB) (unhide HB1)⟩
      case measure => simp [intOf]; omega

/-- Two places are written, one behind the other. -/
theorem read2_any (s : ByteArray) (pos size : Int) (g : Nat) (p q : Addr) (w : World) (hs : s.size ≤ maxLen) (hp0 : 0 ≤ pos) (hp1 : pos ≤ 100) (hs0 : 0 ≤ size) (hs1 : size ≤ 100)
    (c0 : w.cell? ⟨g, 0, none⟩ = some (.pointer (some p))) (c1 : w.cell? ⟨g, 1, none⟩ = some (.pointer (some q))) (hpg : p.block ≠ g)
    (vp : Value) (hvp : w.cell? p = some vp) (vq : Value) (hvq : w.cell? q = some vq) (fp : w.frozen? p = false) (fq : w.frozen? q = false) (hpq : q ≠ p) :
    Calls Try.prog 27 #[.string s, .int .i64 pos, .int .i64 size, .slice (some ⟨g, 0, none⟩) 2 2] w fun e w' => e = .returned (.tuple #[]) ∧ w' = (w.setCell p (.int .i64 (got s pos size))).setCell q (.int .i64 (got s (pos + size) size)) := by
  have hne : (⟨g, 1, none⟩ : Addr) ≠ p := fun h => hpg (by rw [← h])
  have c1' : ∀ v, (w.setCell p v).cell? ⟨g, 1, none⟩ = some (.pointer (some q)) := fun v => by rw [World.cell?_setCell_other _ _ _ _ (Ne.symm hne)]; exact c1
  have hvq' : ∀ v, (w.setCell p v).cell? q = some vq := fun v => by rw [World.cell?_setCell_other _ _ _ _ (Ne.symm hpq)]; exact hvq
  have fq' : ∀ v, (w.setCell p v).frozen? q = false := fun v => by rw [World.frozen?_setCell]; exact fq
  go_enter Try.func27, Try.ntmps27
  go_wp2
  refine wp_loop_rounds 3 ?_
  rw [rounds_succ]
  go_wp2_with fail
  refine (get_any s _ _ _ hs).mono ?_
  rintro e w1 ⟨rfl, rfl⟩
  go_wp2_with fail
  rw [rounds_succ]
  have c1'' := c1' (.int .i64 (got s pos size))
  have hvq'' := hvq' (.int .i64 (got s pos size))
  have fq'' := fq' (.int .i64 (got s pos size))
  go_wp2_with fail
  refine (get_any s _ _ _ hs).mono ?_
  rintro e w1 ⟨rfl, rfl⟩
  go_wp2_with fail
  rw [rounds_succ]
  go_wp2_with fail
  go_end0
  exact ⟨rfl, rfl⟩
theorem read1_any (s : ByteArray) (pos size : Int) (g : Nat) (p : Addr) (w : World) (hs : s.size ≤ maxLen) (hp0 : 0 ≤ pos) (hp1 : pos ≤ 100)
    (c0 : w.cell? ⟨g, 0, none⟩ = some (.pointer (some p)))
    (vp : Value) (hvp : w.cell? p = some vp) (fp : w.frozen? p = false) :
    Calls Try.prog 27 #[.string s, .int .i64 pos, .int .i64 size, .slice (some ⟨g, 0, none⟩) 1 1] w fun e w' => e = .returned (.tuple #[]) ∧ w' = w.setCell p (.int .i64 (got s pos size)) := by
  go_enter Try.func27, Try.ntmps27
  go_wp2
  refine wp_loop_rounds 2 ?_
  rw [rounds_succ]
  go_wp2_with fail
  refine (get_any s _ _ _ hs).mono ?_
  rintro e w1 ⟨rfl, rfl⟩
  go_wp2_with fail
  rw [rounds_succ]
  go_wp2_with fail
  go_end0
  exact ⟨rfl, rfl⟩
end Go.Proofs.Ytgfmpcfdggcifaa
