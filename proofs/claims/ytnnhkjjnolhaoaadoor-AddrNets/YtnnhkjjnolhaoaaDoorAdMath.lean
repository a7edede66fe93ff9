/- Plain facts about addresses as texts, and nets of them: nothing of the program is in here. -/
import Derived.Lib.ItoaNum
import Derived.Lib.Bytealg
import Derived.Lib.IndexLaws
import Derived.Lib.ParseIntBCases
import Derived.Lib.AtoiAll
namespace Go.Proofs.YtnnhkjjnolhaoaaDoor.Ad

/-- The decimal digits of a number below 1000. -/
def dig (b : Nat) : List UInt8 :=
  if b < 10 then [UInt8.ofNat (48 + b)]
  else if b < 100 then [UInt8.ofNat (48 + b / 10), UInt8.ofNat (48 + b % 10)]
  else [UInt8.ofNat (48 + b / 100), UInt8.ofNat (48 + b / 10 % 10), UInt8.ofNat (48 + b % 10)]

theorem dec_dig (b : Nat) (h : b < 1000) : Lib.decDigits b = dig b := by
  unfold dig
  by_cases h1 : b < 10
  · rw [Lib.decDigits, dif_pos h1, if_pos h1]
  · rw [Lib.decDigits, dif_neg h1, if_neg h1]
    by_cases h2 : b < 100
    · rw [Lib.decDigits, dif_pos (by omega), if_pos h2]; rfl
    · rw [Lib.decDigits, dif_neg (by omega), Lib.decDigits, dif_pos (by omega), if_neg h2, Nat.div_div_eq_div_mul]; rfl

def allDig : List UInt8 → Bool := fun l => l.all fun c => decide (48 ≤ c) && decide (c ≤ 57)

theorem dig_facts : ∀ b : Fin 256, allDig (dig b) = true ∧ 1 ≤ (dig b).length ∧ (dig b).length ≤ 3 ∧ ((dig b).head? = some 48 → (dig b).length = 1) := by decide +kernel
theorem dig_all (b : Nat) (h : b < 256) : allDig (dig b) = true := (dig_facts ⟨b, h⟩).1
theorem dig_lo (b : Nat) (h : b < 256) : 1 ≤ (dig b).length := (dig_facts ⟨b, h⟩).2.1
theorem dig_hi (b : Nat) (h : b < 256) : (dig b).length ≤ 3 := (dig_facts ⟨b, h⟩).2.2.1
theorem dig_zero (b : Nat) (h : b < 256) : (dig b).head? = some 48 → (dig b).length = 1 := (dig_facts ⟨b, h⟩).2.2.2

theorem not_mem_dig (c : UInt8) (hc : c < 48) (l : List UInt8) (h : allDig l = true) : c ∉ l := by
  intro hm
  have := List.all_eq_true.1 h c hm
  simp only [Bool.and_eq_true, decide_eq_true_eq, UInt8.le_iff_toNat_le] at this
  rw [UInt8.lt_iff_toNat_lt] at hc
  have e : (48 : UInt8).toNat = 48 := rfl
  omega

/-- The text of an address. -/
def txt (a : Nat) : List UInt8 := dig (a / 16777216) ++ 46 :: (dig (a / 65536 % 256) ++ 46 :: (dig (a / 256 % 256) ++ 46 :: dig (a % 256)))

/-- What stands ahead of the first c, and behind it. -/
def before (c : UInt8) : List UInt8 → List UInt8
  | [] => []
  | b :: l => if b = c then [] else b :: before c l
def after (c : UInt8) : List UInt8 → List UInt8
  | [] => []
  | b :: l => if b = c then l else after c l

theorem before_app (c : UInt8) (r : List UInt8) : ∀ l : List UInt8, c ∉ l → before c (l ++ c :: r) = l
  | [], _ => by simp [before]
  | b :: l, h => by
    have hb : b ≠ c := fun e => h (by simp [e])
    simp only [List.cons_append, before, if_neg hb, before_app c r l (fun hm => h (List.mem_cons_of_mem _ hm))]
theorem after_app (c : UInt8) (r : List UInt8) : ∀ l : List UInt8, c ∉ l → after c (l ++ c :: r) = r
  | [], _ => by simp [after]
  | b :: l, h => by
    have hb : b ≠ c := fun e => h (by simp [e])
    simp only [List.cons_append, after, if_neg hb, after_app c r l (fun hm => h (List.mem_cons_of_mem _ hm))]

theorem before_no (c : UInt8) : ∀ l : List UInt8, c ∉ l → before c l = l
  | [], _ => rfl
  | b :: l, h => by
    have hb : b ≠ c := fun e => h (by simp [e])
    simp only [before, if_neg hb, before_no c l (fun hm => h (List.mem_cons_of_mem _ hm))]
theorem after_no (c : UInt8) : ∀ l : List UInt8, c ∉ l → after c l = []
  | [], _ => rfl
  | b :: l, h => by
    have hb : b ≠ c := fun e => h (by simp [e])
    simp only [after, if_neg hb, after_no c l (fun hm => h (List.mem_cons_of_mem _ hm))]
theorem before_len (c : UInt8) : ∀ l : List UInt8, (before c l).length ≤ l.length
  | [] => Nat.le_refl _
  | b :: l => by
    have := before_len c l
    simp only [before]; split <;> simp; omega
theorem after_len (c : UInt8) : ∀ l : List UInt8, (after c l).length ≤ l.length
  | [] => Nat.le_refl _
  | b :: l => by
    have := after_len c l
    simp only [after]; split <;> simp; omega

theorem idx_no (c : UInt8) : ∀ l : List UInt8, c ∉ l → Lib.indexByte l c = -1
  | [], _ => rfl
  | b :: l, h => by
    have hb : ¬ (b == c) = true := fun e => h (by simp [beq_iff_eq.1 e])
    have ih := idx_no c l (fun hm => h (List.mem_cons_of_mem _ hm))
    rw [Lib.indexByte, if_neg hb, ih]; rfl
theorem idx_yes (c : UInt8) : ∀ l : List UInt8, c ∈ l → Lib.indexByte l c = (before c l).length
  | [], h => by cases h
  | b :: l, h => by
    by_cases hb : b = c
    · subst hb; simp [Lib.indexByte, before]
    · have hm : c ∈ l := by cases h with | head => exact absurd rfl hb | tail _ h => exact h
      have ih := idx_yes c l hm
      have h1 : ¬ (b == c) = true := fun e => hb (beq_iff_eq.1 e)
      have h2 : ¬ (Lib.indexByte l c == -1) = true := fun e => by have := beq_iff_eq.1 e; omega
      rw [Lib.indexByte, if_neg h1, if_neg h2, ih, before, if_neg hb]; simp
theorem take_before (c : UInt8) : ∀ l : List UInt8, c ∈ l → l.take (before c l).length = before c l
  | [], h => by cases h
  | b :: l, h => by
    by_cases hb : b = c
    · simp [before, hb]
    · have hm : c ∈ l := by cases h with | head => exact absurd rfl hb | tail _ h => exact h
      simp [before, hb, take_before c l hm]
theorem drop_after (c : UInt8) : ∀ l : List UInt8, c ∈ l → l.drop ((before c l).length + 1) = after c l
  | [], h => by cases h
  | b :: l, h => by
    by_cases hb : b = c
    · simp [before, after, hb]
    · have hm : c ∈ l := by cases h with | head => exact absurd rfl hb | tail _ h => exact h
      simp [before, after, hb, drop_after c l hm]
theorem before_lt (c : UInt8) : ∀ l : List UInt8, c ∈ l → (before c l).length < l.length
  | [], h => by cases h
  | b :: l, h => by
    by_cases hb : b = c
    · simp [before, hb]
    · have hm : c ∈ l := by cases h with | head => exact absurd rfl hb | tail _ h => exact h
      have := before_lt c l hm
      simp [before, hb]; omega

/-- A text cut at its first k points. -/
def pieces : Nat → List UInt8 → List (List UInt8)
  | 0, l => [l]
  | k + 1, l => if 46 ∈ l then before 46 l :: pieces k (after 46 l) else [l]

theorem pieces_no (k : Nat) (l : List UInt8) (h : 46 ∉ l) : pieces k l = [l] := by
  cases k with
  | zero => rfl
  | succ k => rw [pieces, if_neg h]
theorem pieces_yes (k : Nat) (l : List UInt8) (h : 46 ∈ l) : pieces (k + 1) l = before 46 l :: pieces k (after 46 l) := by rw [pieces, if_pos h]
theorem pieces_cut (k : Nat) (l r : List UInt8) (h : 46 ∉ l) : pieces (k + 1) (l ++ 46 :: r) = l :: pieces k r := by
  rw [pieces_yes k _ (by simp), before_app 46 r l h, after_app 46 r l h]

/-- The number that a piece is taken for. -/
def pv (x : List UInt8) : Nat := match Lib.parseUintB 8 x with
  | .ok u => u
  | .«syntax» => 0
  | .range => 255
theorem pv_lt (x : List UInt8) : pv x < 256 := by
  unfold pv
  cases h : Lib.parseUintB 8 x with
  | ok u => have := Lib.parseUintB_le h; simp at this ⊢; omega
  | «syntax» => decide
  | range => decide
theorem pv_facts : ∀ b : Fin 256, pv (dig b) = b := by decide +kernel
theorem pv_dig (b : Nat) (h : b < 256) : pv (dig b) = b := pv_facts ⟨b, h⟩

/-- The address that a text is taken for. -/
def gfold (xs : List (List UInt8)) : Nat := xs.foldl (fun a x => (a * 256 + pv x) % 4294967296) 0
def gs (l : List UInt8) : Nat := gfold (pieces (min 3 l.length) l)
theorem gfold_snoc (xs : List (List UInt8)) (x : List UInt8) : gfold (xs ++ [x]) = (gfold xs * 256 + pv x) % 4294967296 := by
  unfold gfold; rw [List.foldl_append]; rfl
theorem gfold_lt (xs : List (List UInt8)) : gfold xs < 4294967296 := by
  rcases List.eq_nil_or_concat xs with rfl | ⟨l, x, rfl⟩
  · decide
  · rw [List.concat_eq_append, gfold_snoc]; omega
theorem gs_lt (l : List UInt8) : gs l < 4294967296 := gfold_lt _

theorem b3 (a : Nat) (h : a < 4294967296) : a / 16777216 < 256 := by omega
theorem p46 (b : Nat) (h : b < 256) : (46 : UInt8) ∉ dig b := not_mem_dig 46 (by decide) _ (dig_all b h)
theorem p47 (b : Nat) (h : b < 256) : (47 : UInt8) ∉ dig b := not_mem_dig 47 (by decide) _ (dig_all b h)

theorem txt_length (a : Nat) (h : a < 4294967296) : 7 ≤ (txt a).length ∧ (txt a).length ≤ 15 := by
  have h3 := dig_lo _ (b3 a h); have g3 := dig_hi _ (b3 a h)
  have h2 := dig_lo (a / 65536 % 256) (by omega); have g2 := dig_hi (a / 65536 % 256) (by omega)
  have h1 := dig_lo (a / 256 % 256) (by omega); have g1 := dig_hi (a / 256 % 256) (by omega)
  have h0 := dig_lo (a % 256) (by omega); have g0 := dig_hi (a % 256) (by omega)
  simp only [txt, List.length_append, List.length_cons]
  omega

theorem pieces_txt (a : Nat) (h : a < 4294967296) : pieces 3 (txt a) = [dig (a / 16777216), dig (a / 65536 % 256), dig (a / 256 % 256), dig (a % 256)] := by
  unfold txt
  rw [pieces_cut 2 _ _ (p46 _ (b3 a h)), pieces_cut 1 _ _ (p46 _ (by omega)), pieces_cut 0 _ _ (p46 _ (by omega))]
  rfl

theorem gs_txt (a : Nat) (h : a < 4294967296) : gs (txt a) = a := by
  have hl := txt_length a h
  rw [gs, show min 3 (txt a).length = 3 from by omega, pieces_txt a h]
  simp only [gfold, List.foldl_cons, List.foldl_nil, pv_dig _ (b3 a h), pv_dig (a / 65536 % 256) (by omega), pv_dig (a / 256 % 256) (by omega), pv_dig (a % 256) (by omega)]
  omega

theorem txt_inj (a b : Nat) (ha : a < 4294967296) (hb : b < 4294967296) (h : txt a = txt b) : a = b := by
  rw [← gs_txt a ha, h, gs_txt b hb]

/-- As the document's own answer reads a text. -/
def dstep (n : Nat) (c : UInt8) : Nat := (n * 10 + c.toNat + 4294967248) % 4294967296
def rstep (p : Nat × Nat) (c : UInt8) : Nat × Nat := if c = 46 then ((p.1 * 256 + p.2 % 256) % 4294967296, 0) else (p.1, dstep p.2 c)
def rfold (l : List UInt8) : Nat × Nat := l.foldl rstep (0, 0)
def rs (l : List UInt8) : Nat := ((rfold l).1 * 256 + (rfold l).2 % 256) % 4294967296
theorem rs_lt (l : List UInt8) : rs l < 4294967296 := by unfold rs; omega
theorem rfold_snoc (l : List UInt8) (c : UInt8) : rfold (l ++ [c]) = rstep (rfold l) c := by unfold rfold; rw [List.foldl_append]; rfl
theorem rfold_lt' : ∀ (l : List UInt8) (p : Nat × Nat), p.1 < 4294967296 → p.2 < 4294967296 → (l.foldl rstep p).1 < 4294967296 ∧ (l.foldl rstep p).2 < 4294967296
  | [], p, h1, h2 => ⟨h1, h2⟩
  | c :: l, p, h1, h2 => by
    rw [List.foldl_cons]
    refine rfold_lt' l _ ?_ ?_
    · rw [rstep]; split
      · simp only []; omega
      · exact h1
    · rw [rstep]; split
      · simp only []; omega
      · simp only [dstep]; omega
theorem rfold_lt (l : List UInt8) : (rfold l).1 < 4294967296 ∧ (rfold l).2 < 4294967296 := rfold_lt' l (0, 0) (by decide) (by decide)
theorem rfold_digits (x n : Nat) : ∀ l : List UInt8, 46 ∉ l → l.foldl rstep (x, n) = (x, l.foldl dstep n)
  | [], _ => rfl
  | c :: l, h => by
    have hc : c ≠ 46 := fun e => h (by simp [e])
    rw [List.foldl_cons, List.foldl_cons, rstep, if_neg hc]
    exact rfold_digits x (dstep n c) l (fun hm => h (List.mem_cons_of_mem _ hm))
theorem dfold_facts : ∀ b : Fin 256, (dig b).foldl dstep 0 = b := by decide +kernel
theorem dfold (b : Nat) (h : b < 256) : (dig b).foldl dstep 0 = b := dfold_facts ⟨b, h⟩
theorem rs_txt (a : Nat) (h : a < 4294967296) : rs (txt a) = a := by
  have e : rfold (txt a) = ((a / 16777216 * 256 + a / 65536 % 256) * 256 + a / 256 % 256, a % 256) := by
    unfold rfold txt
    rw [List.foldl_append, rfold_digits 0 0 _ (p46 _ (b3 a h)), dfold _ (b3 a h), List.foldl_cons, rstep, if_pos rfl,
      List.foldl_append, rfold_digits _ 0 _ (p46 _ (by omega)), dfold _ (by omega), List.foldl_cons, rstep, if_pos rfl,
      List.foldl_append, rfold_digits _ 0 _ (p46 _ (by omega)), dfold _ (by omega), List.foldl_cons, rstep, if_pos rfl,
      rfold_digits _ 0 _ (p46 _ (by omega)), dfold _ (by omega)]
    simp only [Prod.mk.injEq, and_true]
    omega
  rw [rs, e]
  simp only []
  omega

/-- Some address is written so. -/
def IsAddr (l : List UInt8) : Prop := ∃ a, a < 4294967296 ∧ txt a = l
theorem gs_is {l : List UInt8} (h : IsAddr l) : txt (gs l) = l := by obtain ⟨a, ha, rfl⟩ := h; rw [gs_txt a ha]
theorem rs_is {l : List UInt8} (h : IsAddr l) : txt (rs l) = l := by obtain ⟨a, ha, rfl⟩ := h; rw [rs_txt a ha]
theorem is_of_gs {l : List UInt8} (h : txt (gs l) = l) : IsAddr l := ⟨_, gs_lt l, h⟩
theorem is_of_rs {l : List UInt8} (h : txt (rs l) = l) : IsAddr l := ⟨_, rs_lt l, h⟩
theorem rs_gs {l : List UInt8} (h : IsAddr l) : rs l = gs l := by obtain ⟨a, ha, rfl⟩ := h; rw [rs_txt a ha, gs_txt a ha]
end Go.Proofs.YtnnhkjjnolhaoaaDoor.Ad
