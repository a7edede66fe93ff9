/- A cursor in memory: the program's struct with its row of words; what a store into each leaves. -/
import Derived.Test.YtbncjinkojeioaaChecked
import Derived.Test.YtbncjinkojeioaaCuMath
import Derived.Test.YtbncjinkojeioaaSpRow
import Derived.BigQuiet
import Derived.Maps.AppendAt
import Derived.BigRegion
import Derived.Laws.OwnMore
namespace Go.Proofs.Ytbncjinkojeioaa
open Go.ChangeShapes Go.WideShapes Go.ChangeAt Go.RowKit Sp Cu

theorem But.drew {S : List Nat} {a b : World} (h : But S a b) : But S a b.drew := ⟨h.os, h.tape, h.output, h.size, h.block⟩
theorem But.refl (S : List Nat) (a : World) : But S a a := But.of (Below.refl _ _)
theorem But.on {S : List Nat} {a b c : World} (h : But S a b) (k : Below b.heap.size b c) : But S a c := h.trans (But.of k)
/-- Kept from the walk wholly: nothing that looks for a fact sees through it. -/
structure Shut (p : Prop) : Prop where
  out : p
theorem own_of_block {W W' : World} {base : Nat} {e : TypeId} {size : Nat} {v : Value} {n : Nat} {xs : List Value} (h : W.ownsRow base e size v n xs) (hb : ∀ g, v.ownBlock = some g → W'.heap[g]? = W.heap[g]?) : W'.ownsRow base e size v n xs := by
  refine ⟨h.1, ?_⟩
  rcases h.2 with hn | ⟨g, cap, cur, rfl, h1, h2, h3⟩
  · exact .inl hn
  · exact .inr ⟨g, cap, cur, rfl, h1, (hb g rfl).trans h2, h3⟩
theorem own_succ {W : World} {base : Nat} {e : TypeId} {size : Nat} {v : Value} {k : Nat} {xs : List Value} (h : W.ownsRow base e size v (k + 1) xs) : ∃ g cap, v = .slice (some ⟨g, 0, none⟩) (k + 1) cap := by
  rcases h.2 with ⟨_, h⟩ | ⟨g, cap, cur, h, _⟩
  · omega
  · exact ⟨g, cap, h⟩
theorem own_shape {W : World} {base : Nat} {e : TypeId} {size : Nat} {v : Value} {k : Nat} {xs : List Value} (h : W.ownsRow base e size v k xs) : ∃ a cap, v = .slice a k cap ∧ (0 < k → ∃ g, a = some ⟨g, 0, none⟩) := by
  rcases h.2 with ⟨h, h0⟩ | ⟨g, cap, cur, h, _⟩
  · exact ⟨none, 0, by rw [h, h0], fun hk => by omega⟩
  · exact ⟨some ⟨g, 0, none⟩, cap, h, fun _ => ⟨g, rfl⟩⟩

def words (ws : List B) : List Value := ws.map fun x => Value.int .u64 (nn x)
theorem words_length (ws : List B) : (words ws).length = ws.length := by unfold words; rw [List.length_map]
theorem words_at {ws : List B} {q : Nat} (h : q < ws.length) : (words ws)[q]? = some (.int .u64 (nn (wd ws q))) := by unfold words; rw [List.getElem?_map, wd_in h]; rfl
theorem words_set (ws : List B) (q : Nat) (x : B) : (words ws).set q (.int .u64 (nn x)) = words (ws.set q x) := by unfold words; rw [List.map_set]
theorem words_push (ws : List B) : words ws ++ [.int .u64 0] = words (ws ++ [0#64]) := by unfold words; rw [List.map_append]; rfl

def feet (p : Nat) (v : Value) : List Nat := p :: v.ownBlock.toList
def hdC (v : Value) (n a m : Nat) : List Value := [.int .i64 (n : Int), .int .i64 (a : Int), .int .i64 (m : Int), v]
/-- The program's struct in block p, its words behind v. -/
structure CurAt (base : Nat) (W : World) (p : Nat) (v : Value) (ws : List B) (n a m : Nat) : Prop where
  head : Row W p (hdC v n a m)
  own : W.ownsRow base 49 1 v ws.length (words ws)
  ge : base ≤ p
  off : v.ownBlock ≠ some p
/-- What the words are of the cursor. -/
structure Says (ws : List B) (s : Cu) : Prop where
  bits : ∀ i, bit ws i = s.u i
  near : s.at_ ≤ 64 * ws.length
  few : ws.length ≤ 1024
section
variable {base : Nat} {W W' : World} {p : Nat} {v : Value} {ws : List B} {n a m : Nat}
theorem CurAt.lt (h : CurAt base W p v ws n a m) : ∀ x ∈ feet p v, base ≤ x ∧ x < W.heap.size := by
  intro x hx
  unfold feet at hx
  rcases List.mem_cons.1 hx with rfl | hx
  · exact ⟨h.ge, h.head.lt⟩
  · rw [Option.mem_toList] at hx
    exact h.own.lt x hx
theorem CurAt.of_blocks (h : CurAt base W p v ws n a m) (e : ∀ x ∈ feet p v, W'.heap[x]? = W.heap[x]?) : CurAt base W' p v ws n a m :=
  ⟨h.head.of_block (e p (by simp [feet])), own_of_block h.own fun g hg => e g (by unfold feet; rw [hg]; simp), h.ge, h.off⟩
theorem CurAt.but {T : List Nat} (h : CurAt base W p v ws n a m) (hb : But T W W') (hT : ∀ x ∈ feet p v, x ∉ T) : CurAt base W' p v ws n a m := h.of_blocks fun x hx => hb.block x (h.lt x hx).2 (hT x hx)
theorem CurAt.on (h : CurAt base W p v ws n a m) (hb : Below W.heap.size W W') : CurAt base W' p v ws n a m := h.of_blocks fun x hx => hb.block x (h.lt x hx).2
theorem CurAt.drew (h : CurAt base W p v ws n a m) : CurAt base W.drew p v ws n a m := h.of_blocks fun _ _ => rfl
theorem CurAt.cells (h : CurAt base W p v ws n a m) : W.cell? ⟨p, 0, none⟩ = some (.int .i64 (n : Int)) ∧ W.cell? ⟨p, 1, none⟩ = some (.int .i64 (a : Int)) ∧ W.cell? ⟨p, 2, none⟩ = some (.int .i64 (m : Int)) ∧ W.cell? ⟨p, 3, none⟩ = some v :=
  ⟨h.head.cell 0 _ rfl, h.head.cell 1 _ rfl, h.head.cell 2 _ rfl, h.head.cell 3 _ rfl⟩
theorem CurAt.own_other (h : CurAt base W p v ws n a m) (j : Nat) (u : Value) : (W.setCell ⟨p, j, none⟩ u).ownsRow base 49 1 v ws.length (words ws) :=
  own_of_block h.own fun g hg => Below.heap_setCell _ _ _ _ fun e => h.off (by rw [hg]; exact congrArg some e)
theorem CurAt.setA (h : CurAt base W p v ws n a m) (x : Nat) : CurAt base (W.setCell ⟨p, 1, none⟩ (.int .i64 (x : Int))) p v ws n x m := ⟨h.head.set 1 _, h.own_other _ _, h.ge, h.off⟩
theorem CurAt.setM (h : CurAt base W p v ws n a m) (x : Nat) : CurAt base (W.setCell ⟨p, 2, none⟩ (.int .i64 (x : Int))) p v ws n a x := ⟨h.head.set 2 _, h.own_other _ _, h.ge, h.off⟩
/-- A word is another one. -/
theorem CurAt.setW {g cap : Nat} (h : CurAt base W p (.slice (some ⟨g, 0, none⟩) ws.length cap) ws n a m) (q : Nat) (x : B) : CurAt base (W.setCell ⟨g, q, none⟩ (.int .u64 (nn x))) p (.slice (some ⟨g, 0, none⟩) (ws.set q x).length cap) (ws.set q x) n a m := by
  have hne : p ≠ g := fun e => h.off (by rw [e]; rfl)
  rw [List.length_set]
  refine ⟨h.head.other hne _ _, ?_, h.ge, h.off⟩
  have := (h.own.stored q (.int .u64 (nn x))).1
  rw [words_set] at this
  rw [List.length_set]
  exact this
/-- The words have grown. -/
theorem CurAt.push (h : CurAt base W p v ws n a m) (hg : W.grownBy W' v.ownBlock) {v' : Value} {ws' : List B} (ho : W'.ownsRow base 49 1 v' ws'.length (words ws')) (hv : v'.ownBlock = v.ownBlock ∨ v'.ownBlock = some W.heap.size) :
    CurAt base (W'.setCell ⟨p, 3, none⟩ v') p v' ws' n a m := by
  have hp := h.head.lt
  have off' : v'.ownBlock ≠ some p := fun e => by
    rcases hv with hv | hv
    · exact h.off (hv ▸ e)
    · rw [hv] at e; have := Option.some.inj e; omega
  refine ⟨(h.head.of_block (hg.block _ hp fun e => h.off e.symm)).set 3 _, ?_, h.ge, off'⟩
  exact own_of_block ho fun g hg => Below.heap_setCell _ _ _ _ fun e => off' (by rw [hg]; exact congrArg some e)
theorem CurAt.head_grown (h : CurAt base W p v ws n a m) (hg : W.grownBy W' v.ownBlock) : Row W' p (hdC v n a m) := h.head.of_block (hg.block _ h.head.lt fun e => h.off e.symm)
end

/-- What a change leaves: all but the cursor's own blocks; its words may lie in a new one. -/
structure Went (W W' : World) (p : Nat) (v v' : Value) : Prop where
  but : But (feet p v) W W'
  own : ∀ x, v'.ownBlock = some x → v.ownBlock = some x ∨ W.heap.size ≤ x
theorem Went.refl (W : World) (p : Nat) (v : Value) : Went W W p v v := ⟨But.refl _ _, fun _ h => .inl h⟩
theorem Went.feet {W W' : World} {p : Nat} {v v' : Value} (h : Went W W' p v v') : ∀ x ∈ feet p v', x ∈ feet p v ∨ W.heap.size ≤ x := by
  intro x hx
  unfold Go.Proofs.Ytbncjinkojeioaa.feet at hx ⊢
  rcases List.mem_cons.1 hx with hx | hx
  · exact .inl (hx ▸ List.mem_cons_self)
  · rw [Option.mem_toList] at hx
    rcases h.own x hx with h | h
    · exact .inl (List.mem_cons_of_mem _ (by rw [Option.mem_toList]; exact h))
    · exact .inr h
theorem Went.trans {U V W : World} {p : Nat} {v v' v'' : Value} (h : Went U V p v v') (k : Went V W p v' v'') : Went U W p v v'' := by
  refine ⟨⟨k.but.os.trans h.but.os, k.but.tape.trans h.but.tape, k.but.output.trans h.but.output, Nat.le_trans h.but.size k.but.size, fun i hi hn => ?_⟩, fun x hx => ?_⟩
  · refine (k.but.block i (Nat.lt_of_lt_of_le hi h.but.size) fun hx => ?_).trans (h.but.block i hi hn)
    rcases h.feet i hx with h | h
    · exact hn h
    · omega
  · rcases k.own x hx with k | k
    · exact h.own x k
    · exact .inr (Nat.le_trans h.but.size k)
theorem Went.on {U V W : World} {p : Nat} {v v' : Value} (h : Went U V p v v') (k : Below V.heap.size V W) : Went U W p v v' := ⟨h.but.on k, h.own⟩
theorem Went.cell {W W' : World} {p : Nat} {v v' : Value} (h : Went W W' p v v') {x : Nat} (hx : x ∈ Go.Proofs.Ytbncjinkojeioaa.feet p v) (i : Nat) (u : Value) : Went W (W'.setCell ⟨x, i, none⟩ u) p v v' := ⟨h.but.setCell hx i u, h.own⟩
theorem Went.cellP {W W' : World} {p : Nat} {v v' : Value} (h : Went W W' p v v') (i : Nat) (u : Value) : Went W (W'.setCell ⟨p, i, none⟩ u) p v v' := h.cell List.mem_cons_self i u
theorem Went.cell2 {W W' : World} {p : Nat} {v v' : Value} (h : Went W W' p v v') {x : Nat} (hx : x ∈ Go.Proofs.Ytbncjinkojeioaa.feet p v') (i : Nat) (u : Value) : Went W (W'.setCell ⟨x, i, none⟩ u) p v v' := by
  have hb := (But.refl [x] W').setCell List.mem_cons_self i u
  refine ⟨⟨hb.os.trans h.but.os, hb.tape.trans h.but.tape, hb.output.trans h.but.output, Nat.le_trans h.but.size hb.size, fun k hk hn => ?_⟩, h.own⟩
  refine (hb.block k (Nat.lt_of_lt_of_le hk h.but.size) fun hkx => ?_).trans (h.but.block k hk hn)
  rw [List.mem_singleton] at hkx
  subst hkx
  rcases h.feet k hx with h | h
  · exact hn h
  · omega
theorem Went.drew {W W' : World} {p : Nat} {v v' : Value} (h : Went W W' p v v') : Went W W'.drew p v v' := ⟨h.but.drew, h.own⟩
theorem Went.push {W V W' : World} {p : Nat} {v v' : Value} (hb : Below W.heap.size W V) (hg : V.grownBy W' v.ownBlock) (hv : v'.ownBlock = v.ownBlock ∨ v'.ownBlock = some V.heap.size) : Went W W' p v v' := by
  refine ⟨(But.of hb).trans ⟨hg.os, hg.tape, hg.output, hg.size, fun k hk hn => hg.block k hk fun e => hn ?_⟩, fun x hx => ?_⟩
  · unfold Go.Proofs.Ytbncjinkojeioaa.feet
    rw [← e]
    simp
  · rcases hv with e | e
    · exact .inl (e ▸ hx)
    · have := Option.some.inj (e.symm.trans hx)
      have := hb.size
      exact .inr (by omega)
/-- Of what lay there no more than the cursor was turned. -/
theorem Went.below {w W W' : World} {p : Nat} {v v' : Value} {ws : List B} {n a m base : Nat} (hw : Below w.heap.size w W) (h : Went W W' p v v') (ha : CurAt base W p v ws n a m) (hb : w.heap.size ≤ base) : Below w.heap.size w W' :=
  h.but.below hw fun x hx => Nat.le_trans hb (ha.lt x hx).1
end Go.Proofs.Ytbncjinkojeioaa
