/- Take and Free of both, whatever is used. -/
import Derived.Test.YtbncjinkojeioaaCuRTake
namespace Go.Proofs.Ytbncjinkojeioaa
open Go.ChangeShapes Go.WideShapes Go.ChangeAt Go.RowKit Sp Cu

section
variable {base : Nat} {w : World} {p : Nat} {v : Value} {ws : List B} {s s' : Cu}
theorem CurP.on {w' : World} (h : CurP base w p v ws s) (hb : Below w.heap.size w w') : CurP base w' p v ws s := ⟨h.lies.on hb, h.says, h.wf⟩
theorem CurP.but {w' : World} {T : List Nat} (h : CurP base w p v ws s) (hb : But T w w') (hT : ∀ x ∈ feet p v, x ∉ T) : CurP base w' p v ws s := ⟨h.lies.but hb hT, h.says, h.wf⟩
theorem Went.of {w w' : World} (p : Nat) (v : Value) (h : Below w.heap.size w w') : Went w w' p v v := ⟨But.of h, fun _ h => .inl h⟩
theorem take_any (h : CurP base w p v ws s) {i : Nat} {b : Bool} (hT : Tk s i b s') :
    Calls Try.prog 14 #[.pointer (some ⟨p, 0, none⟩)] w fun e w' => e = .returned (.tuple #[.int .i64 (i : Int), .bool b]) ∧ ∃ v' ws', CurP base w' p v' ws' s' ∧ Went w w' p v v' := by
  cases hT with
  | none hf =>
    refine (take_none h hf).mono ?_
    rintro e w' ⟨rfl, hb⟩
    exact ⟨rfl, v, ws, h.on hb, Went.of p v hb⟩
  | one hi => exact take_one h hi
theorem free_any (h : CurP base w p v ws s) (x : Int) :
    Calls Try.prog 10 #[.pointer (some ⟨p, 0, none⟩), .int .i64 x] w fun e w' => e = .returned (.bool (s.has x)) ∧ ∃ ws', CurP base w' p v ws' (s.free x) ∧ Went w w' p v v := by
  cases hx : s.has x with
  | false =>
    refine (free_no h x hx).mono ?_
    rintro e w' ⟨rfl, rfl⟩
    refine ⟨rfl, ws, ?_, Went.refl _ p v⟩
    unfold Cu.free
    rw [hx]
    exact h
  | true =>
    obtain ⟨i, rfl, hi, hu⟩ := has_lt hx
    refine (free_yes h i hi hu).mono ?_
    rintro e w' ⟨rfl, ws', h1, h2⟩
    refine ⟨rfl, ws', ?_, h2⟩
    unfold Cu.free
    rw [hx]
    exact h1
theorem len_many (h : CurP base w p v ws s) :
    Calls Try.prog 16 #[.pointer (some ⟨p, 0, none⟩)] w fun e w' => e = .returned (.int .i64 (s.many : Int)) ∧ w' = w := len_any h.lies
end
section
variable {base : Nat} {w : World} {q g : Nat} {s s' : Cu}
theorem rtake_any (h : RefP base w q g s) (wf : WF s) {i : Nat} {b : Bool} (hT : Tk s i b s') :
    Calls Try.prog 15 #[.pointer (some ⟨q, 0, none⟩)] w fun e w' => e = .returned (.tuple #[.int .i64 (i : Int), .bool b]) ∧ RefP base w' q g s' ∧ But [q, g] w w' := by
  cases hT with
  | none hf =>
    refine (rtake_none h wf hf).mono ?_
    rintro e w' ⟨rfl, rfl⟩
    exact ⟨rfl, h, But.refl _ _⟩
  | one hi => exact rtake_one h wf hi
theorem rfree_any (h : RefP base w q g s) (wf : WF s) (x : Int) :
    Calls Try.prog 11 #[.pointer (some ⟨q, 0, none⟩), .int .i64 x] w fun e w' => e = .returned (.bool (s.has x)) ∧ RefP base w' q g (s.free x) ∧ But [q, g] w w' := by
  cases hx : s.has x with
  | false =>
    refine (rfree_no h wf x hx).mono ?_
    rintro e w' ⟨rfl, rfl⟩
    refine ⟨rfl, ?_, But.refl _ _⟩
    unfold Cu.free
    rw [hx]
    exact h
  | true =>
    obtain ⟨i, rfl, hi, hu⟩ := has_lt hx
    refine (rfree_yes h wf i hi hu).mono ?_
    rintro e w' ⟨rfl, h1, h2⟩
    refine ⟨rfl, ?_, h2⟩
    unfold Cu.free
    rw [hx]
    exact h1
end
/-- A cursor made within a call: nothing else need be known of where its words lie. -/
structure Cur (W0 W : World) (p : Nat) (s : Cu) : Prop where
  lies : ∃ v ws, CurP W0.heap.size W p v ws s
  below : Below W0.heap.size W0 W
section
variable {W0 W : World} {p : Nat} {s s' : Cu}
theorem Cur.wf (h : Cur W0 W p s) : WF s := by obtain ⟨v, ws, h⟩ := h.lies; exact h.wf
theorem Cur.on {W' : World} (h : Cur W0 W p s) (hb : Below W.heap.size W W') : Cur W0 W' p s := by
  obtain ⟨v, ws, h1⟩ := h.lies
  exact ⟨⟨v, ws, h1.on hb⟩, Below.then h.below hb⟩
theorem Cur.take (h : Cur W0 W p s) {i : Nat} {b : Bool} (hT : Tk s i b s') :
    Calls Try.prog 14 #[.pointer (some ⟨p, 0, none⟩)] W fun e w' => e = .returned (.tuple #[.int .i64 (i : Int), .bool b]) ∧ Cur W0 w' p s' := by
  obtain ⟨v, ws, h1⟩ := h.lies
  refine (take_any h1 hT).mono ?_
  rintro e w' ⟨rfl, v', ws', h2, h3⟩
  exact ⟨rfl, ⟨v', ws', h2⟩, h3.below h.below h1.lies (Nat.le_refl _)⟩
theorem Cur.free (h : Cur W0 W p s) (x : Int) (b : Bool) (hx : s.has x = b) :
    Calls Try.prog 10 #[.pointer (some ⟨p, 0, none⟩), .int .i64 x] W fun e w' => e = .returned (.bool b) ∧ Cur W0 w' p (s.free x) := by
  obtain ⟨v, ws, h1⟩ := h.lies
  refine (free_any h1 x).mono ?_
  rintro e w' ⟨rfl, ws', h2, h3⟩
  exact ⟨by rw [hx], ⟨v, ws', h2⟩, h3.below h.below h1.lies (Nat.le_refl _)⟩
theorem Cur.used (h : Cur W0 W p s) (x : Int) (b : Bool) (hx : s.has x = b) :
    Calls Try.prog 12 #[.pointer (some ⟨p, 0, none⟩), .int .i64 x] W fun e w' => e = .returned (.bool b) ∧ w' = W := by
  obtain ⟨v, ws, h1⟩ := h.lies
  rw [← hx]
  exact used_has h1 x
theorem Cur.len (h : Cur W0 W p s) (m : Nat) (hm : s.many = m) :
    Calls Try.prog 16 #[.pointer (some ⟨p, 0, none⟩)] W fun e w' => e = .returned (.int .i64 (m : Int)) ∧ w' = W := by
  obtain ⟨v, ws, h1⟩ := h.lies
  rw [← hm]
  exact len_many h1
end
theorem new_cur (n : Nat) (h1 : 1 ≤ n) (h2 : n ≤ 65536) (W0 w : World) (hb : Below W0.heap.size W0 w) :
    Calls Try.prog 8 #[.int .i64 (n : Int)] w fun e w' => ∃ p, e = .returned (.tuple #[.pointer (some ⟨p, 0, none⟩), .int .i64 0]) ∧ Cur W0 w' p (newCu n) := by
  refine (new_ok n h1 h2 w).mono ?_
  rintro e w' ⟨p, rfl, _, h3, h4⟩
  refine ⟨p, rfl, ⟨_, _, ⟨⟨h3.lies.head, ?_, Nat.le_trans hb.size h3.lies.ge, h3.lies.off⟩, h3.says, h3.wf⟩⟩, ?_⟩
  · exact World.ownsRow_nil _ _ _ _
  · exact hb.trans ⟨h4.os, h4.tape, h4.output, h4.size, fun k hk => h4.block k (Nat.lt_of_lt_of_le hk hb.size)⟩
end Go.Proofs.Ytbncjinkojeioaa
