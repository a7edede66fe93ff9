/- A map of ints that a law keeps; a slice of integers that came in; a cursor beside such a map. -/
import Derived.Test.YtbncjinkojeioaaCuMov
import Derived.Maps.Own
import Derived.Maps.OwnSet
namespace Go.Proofs.Ytbncjinkojeioaa
open Go.ChangeShapes Go.WideShapes Go.ChangeAt Go.RowKit Go.Maps Sp Cu

theorem lawM : Keyed Try.prog 3 := int_keyed Try.underlying3
theorem zeroN (w : World) : (zeroValue 3).run Try.prog w = .ok (.int .i64 0) w := by kernel_rfl
abbrev kI (x : Int) : Lit := .int .i64 x
theorem key_mk {x : Int} (h : -9223372036854775808 ≤ x ∧ x ≤ 9223372036854775807) : keyOf Try.prog 3 (.int .i64 x) = some (kI x) := keyOf_int_mk Try.underlying3 (WalkArith.wf_i64 h)
theorem kI_key (x : Int) : WideAt.IsKeyLit (kI x) := trivial
theorem kI_ne {x y : Int} (h : x ≠ y) : kI x ≠ kI y := fun e => h (by injection e)

theorem own_tight {P : Program} {k : TypeId} {R : Value → Option (DataW Unit × List MemPlace)} {w : World} {b n : Nat} {D : DataW Unit} (h : w.ownsMap P k R b n D) : w.ownsMap P k R b (Maps.size D) D := by
  obtain ⟨es, clock, hb, F, hs, rfl⟩ := h
  exact ⟨es, clock, hb, F, by simp [Maps.size, length_sorted], rfl⟩

theorem ownsMap_block {k : TypeId} {R : Value → Option (DataW Unit × List MemPlace)} {W W' : World} {b n : Nat} {D : DataW Unit} (h : W.ownsMap Try.prog k R b n D) (e : W'.heap[b]? = W.heap[b]?) : W'.ownsMap Try.prog k R b n D := by
  obtain ⟨es, clock, hb, r⟩ := h
  exact ⟨es, clock, e.trans hb, r⟩
/-- The map in block M reads as f. -/
def MapRd (W : World) (M i : Nat) (f : Int → Nat) : Prop := ∃ D : DataW Unit, W.ownsMap Try.prog 3 (plainElem Try.prog 3) M (Maps.size D) D ∧ Maps.size D ≤ i ∧ ∀ id : Int, D.atKey (kI id) (.lit (kI 0)) = .lit (kI (f id : Int))
theorem MapRd.lt {W : World} {M i : Nat} {f : Int → Nat} (h : MapRd W M i f) : M < W.heap.size := by
  obtain ⟨D, h1, _⟩ := h
  exact h1.lt
theorem MapRd.of_block {W W' : World} {M i : Nat} {f : Int → Nat} (h : MapRd W M i f) (e : W'.heap[M]? = W.heap[M]?) : MapRd W' M i f := by
  obtain ⟨D, h1, h2⟩ := h
  exact ⟨D, ownsMap_block h1 e, h2⟩
theorem MapRd.more {W : World} {M i j : Nat} {f : Int → Nat} (h : MapRd W M i f) (hj : i ≤ j) : MapRd W M j f := by
  obtain ⟨D, h1, h2, h3⟩ := h
  exact ⟨D, h1, Nat.le_trans h2 hj, h3⟩
theorem map_made (W : World) : MapRd (W.alloc (.map #[] 0)) W.heap.size 0 (fun _ => 0) := ⟨.map [], World.ownsMap_made W Try.prog 3 _, Nat.le_refl _, fun _ => rfl⟩
theorem MapRd.look {W : World} {M i : Nat} {f : Int → Nat} (h : MapRd W M i f) {id : Int} (hi : -9223372036854775808 ≤ id ∧ id ≤ 9223372036854775807) : (Instr.lookup 41 (.map (some M)) (.int .i64 id) false).run Try.prog W = .ok (.int .i64 (f id : Int)) W := by
  obtain ⟨D, h1, _, h3⟩ := h
  obtain ⟨c, k1, k2, _⟩ := h1.lookup_int lawM Try.underlying41 Try.underlying3 (zeroN W) (key_mk hi)
  rw [h3] at k2
  have k3 := (DataW.lit.inj k2)
  have k4 := (Lit.int.inj k3).2
  exact k4 ▸ k1
theorem MapRd.set {W : World} {M i : Nat} {f : Int → Nat} (h : MapRd W M i f) (hs : i ≤ 1000) (id : Int) (hi : -9223372036854775808 ≤ id ∧ id ≤ 9223372036854775807) (s : Nat) (hs2 : s ≤ 1000) :
    ∃ w', (Instr.mapUpdate 41 (.map (some M)) (.int .i64 id) (.int .i64 (s : Int))).run Try.prog W = .ok () w' ∧ MapRd w' M (i + 1) (fun j => if j = id then s else f j) ∧ W.grownBy w' (some M) := by
  obtain ⟨D, h1, h2, h3⟩ := h
  obtain ⟨w', r1, r2, r3⟩ := h1.store lawM Try.underlying41 (by unfold maxLen; omega) (key_mk hi) (plainElem_int (a := (s : Int)) Try.underlying3 (WalkArith.wf_i64 (by omega)))
  have ht := h1.tidy lawM
  refine ⟨w', r1, ⟨_, own_tight r2, ?_, fun j => ?_⟩, r3.grown⟩
  · rw [Maps.size_put ht]
    split <;> omega
  · show _ = DataW.lit (kI ((if j = id then s else f j : Nat) : Int))
    by_cases e : j = id
    · rw [if_pos e, e, atKey_put_same ht.isMap (kI_key _)]
    · rw [if_neg e, atKey_put_other (kI_ne e), h3]
theorem u8_bounds {n : Int} (h : (Lit.int .u8 n).wf = true) : 0 ≤ n ∧ n ≤ 255 := by simpa [Lit.wf, IntKind.min, IntKind.max, IntKind.signed, IntKind.bits] using h
/-- A slice of integers from 0 to below hi: its cells. -/
def Sl (k : IntKind) (W : World) (a : Option Addr) (len : Nat) (zs : List Int) (hi : Int) : Prop :=
  ∀ i, i < len → ∃ x, a = some x ∧ W.cell? (x.add i) = some (.int k (zs.getD i 0)) ∧ 0 ≤ zs.getD i 0 ∧ zs.getD i 0 < hi
theorem Sl.on {k : IntKind} {W W' : World} {a : Option Addr} {len : Nat} {zs : List Int} {hi : Int} (h : Sl k W a len zs hi) (hb : Below W.heap.size W W') : Sl k W' a len zs hi := fun i hi => by
  obtain ⟨x, h1, h2, h3, h4⟩ := h i hi
  exact ⟨x, h1, (hb.cell (block_lt_of_cell h2)).trans h2, h3, h4⟩

/-- The cursor, and apart from it the map in block M. -/
structure Hd (w W : World) (p : Nat) (v : Value) (s : Cu) (M i : Nat) (f : Int → Nat) : Prop where
  cur : ∃ ws, CurP w.heap.size W p v ws s
  map : MapRd W M i f
  off : M ∉ feet p v
  low : w.heap.size ≤ M
  below : Below w.heap.size w W
section
variable {w W W' : World} {p : Nat} {v : Value} {s s' : Cu} {M i : Nat} {f : Int → Nat}
theorem Hd.on (h : Hd w W p v s M i f) (hb : Below W.heap.size W W') : Hd w W' p v s M i f := by
  obtain ⟨ws, h1⟩ := h.cur
  exact ⟨⟨ws, h1.on hb⟩, h.map.of_block (hb.block _ h.map.lt), h.off, h.low, Below.then h.below hb⟩
theorem Hd.drew (h : Hd w W p v s M i f) : Hd w W.drew p v s M i f := h.on (Below.refl _ _).drew
theorem Hd.went (h : Hd w W p v s M i f) {v' : Value} {ws' : List B} (hc : CurP w.heap.size W' p v' ws' s') (hw : Went W W' p v v') : Hd w W' p v' s' M i f := by
  obtain ⟨ws, h1⟩ := h.cur
  refine ⟨⟨ws', hc⟩, h.map.of_block (hw.but.block _ h.map.lt h.off), fun hx => ?_, h.low, hw.below h.below h1.lies (Nat.le_refl _)⟩
  rcases hw.feet M hx with h2 | h2
  · exact h.off h2
  · have := h.map.lt; omega
theorem Hd.take (h : Hd w W p v s M i f) {k : Nat} {b : Bool} (hT : Tk s k b s') :
    Calls Try.prog 14 #[.pointer (some ⟨p, 0, none⟩)] W fun e w' => e = .returned (.tuple #[.int .i64 (k : Int), .bool b]) ∧ ∃ v', Hd w w' p v' s' M i f := by
  obtain ⟨ws, h1⟩ := h.cur
  refine (take_any h1 hT).mono ?_
  rintro e w' ⟨rfl, v', ws', h2, h3⟩
  exact ⟨rfl, v', h.went h2 h3⟩
theorem Hd.free (h : Hd w W p v s M i f) (x : Int) (b : Bool) (hx : s.has x = b) :
    Calls Try.prog 10 #[.pointer (some ⟨p, 0, none⟩), .int .i64 x] W fun e w' => e = .returned (.bool b) ∧ Hd w w' p v (s.free x) M i f := by
  obtain ⟨ws, h1⟩ := h.cur
  refine (free_any h1 x).mono ?_
  rintro e w' ⟨rfl, ws', h2, h3⟩
  exact ⟨by rw [hx], h.went h2 h3⟩
theorem Hd.used (h : Hd w W p v s M i f) (x : Int) (b : Bool) (hx : s.has x = b) :
    Calls Try.prog 12 #[.pointer (some ⟨p, 0, none⟩), .int .i64 x] W fun e w' => e = .returned (.bool b) ∧ w' = W := by
  obtain ⟨ws, h1⟩ := h.cur
  rw [← hx]
  exact used_has h1 x
theorem Hd.len (h : Hd w W p v s M i f) (m : Nat) (hm : s.many = m) :
    Calls Try.prog 16 #[.pointer (some ⟨p, 0, none⟩)] W fun e w' => e = .returned (.int .i64 (m : Int)) ∧ w' = W := by
  obtain ⟨ws, h1⟩ := h.cur
  rw [← hm]
  exact len_many h1
theorem Hd.wf (h : Hd w W p v s M i f) : WF s := by obtain ⟨ws, h1⟩ := h.cur; exact h1.wf
/-- The map's entry of x is another one. -/
theorem Hd.set (h : Hd w W p v s M i f) (hi : i ≤ 1000) (x : Nat) (hx : x ≤ 1000) (y : Nat) (hy : y ≤ 1000) :
    ∃ w', (Instr.mapUpdate 41 (.map (some M)) (.int .i64 (x : Int)) (.int .i64 (y : Int))).run Try.prog W = .ok () w' ∧ Hd w w' p v s M (i + 1) (fun j => if j = (x : Int) then y else f j) := by
  obtain ⟨w', r1, r2, r3⟩ := h.map.set hi (x : Int) (by omega) y hy
  obtain ⟨ws, h1⟩ := h.cur
  have hb : But [M] W w' := ⟨r3.os, r3.tape, r3.output, r3.size, fun k hk hn => r3.block k hk fun e => hn (by rw [Option.some.inj e]; exact List.mem_cons_self)⟩
  refine ⟨w', r1, ⟨ws, h1.but hb fun z hz hm => h.off (by rw [List.mem_singleton] at hm; rw [← hm]; exact hz)⟩, r2, h.off, h.low, hb.below h.below fun z hz => by rw [List.mem_singleton] at hz; rw [hz]; exact h.low⟩
end
/-- The map says which are used. -/
def Agree (f : Int → Nat) (s : Cu) : Prop := ∀ x, x < s.n → f (x : Int) = (s.u x).toNat
theorem agree_take {f : Int → Nat} {s : Cu} (h : Agree f s) (x : Nat) : Agree (fun j => if j = (x : Int) then 1 else f j) (s.put x) := by
  intro y hy
  show (if (y : Int) = (x : Int) then 1 else f y) = (updB s.u x true y).toNat
  unfold updB
  by_cases e : y = x
  · rw [if_pos (by omega), if_pos e]; rfl
  · rw [if_neg (by omega), if_neg e]; exact h y hy
theorem agree_free {f : Int → Nat} {s : Cu} (wf : WF s) (h : Agree f s) (x : Nat) : Agree (fun j => if j = (x : Int) then 0 else f j) (s.free (x : Int)) := by
  intro y hy
  rw [free_n] at hy
  cases hu : s.u x with
  | true =>
    rw [free_yes' (by rw [wf.has]; exact hu)]
    show (if (y : Int) = (x : Int) then 0 else f y) = (updB s.u (x : Int).toNat false y).toNat
    rw [show (x : Int).toNat = x by omega]
    unfold updB
    by_cases e : y = x
    · rw [if_pos (by omega), if_pos e]; rfl
    · rw [if_neg (by omega), if_neg e]; exact h y hy
  | false =>
    rw [free_no' (by rw [wf.has]; exact hu)]
    by_cases e : y = x
    · show (if (y : Int) = (x : Int) then 0 else f y) = _
      rw [if_pos (by omega), e, hu]; rfl
    · show (if (y : Int) = (x : Int) then 0 else f y) = _
      rw [if_neg (by omega)]; exact h y hy
theorem many_free {s : Cu} (wf : WF s) {x : Nat} (hx : x < s.n) : (s.free (x : Int)).many + (s.u x).toNat = s.many := by
  cases hu : s.u x with
  | true =>
    rw [free_yes' (by rw [wf.has]; exact hu), show (x : Int).toNat = x by omega]
    exact many_cut hx hu
  | false =>
    rw [free_no' (by rw [wf.has]; exact hu)]
    rfl
theorem free_has {s : Cu} (wf : WF s) (x : Nat) : (s.free (x : Int)).has (x : Int) = false := by
  rw [(wf.free _).has]
  cases hu : s.u x with
  | true =>
    rw [free_yes' (by rw [wf.has]; exact hu), show (x : Int).toNat = x by omega]
    exact updB_same _ _ _
  | false =>
    rw [free_no' (by rw [wf.has]; exact hu)]
    exact hu
end Go.Proofs.Ytbncjinkojeioaa
