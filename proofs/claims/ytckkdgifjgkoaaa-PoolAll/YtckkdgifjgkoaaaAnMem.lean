/- An anchor in memory: its struct, its four lists, its stack; what a store into each leaves. -/
import Derived.Test.YtckkdgifjgkoaaaAnMath
import Derived.Test.YtckkdgifjgkoaaaAnMix
import Derived.Test.YtckkdgifjgkoaaaAnIter
import Derived.Test.YtckkdgifjgkoaaaSpRow
import Derived.BigQuiet
import Derived.Maps.AppendAt
import Derived.BigRegion
namespace Go.Proofs.Ytckkdgifjgkoaaa
open Go.ChangeShapes Go.WideShapes Go.ChangeAt Go.RowKit An

theorem But.drew {S : List Nat} {a b : World} (h : But S a b) : But S a b.drew := ⟨h.os, h.tape, h.output, h.size, h.block⟩
theorem But.drewN {S : List Nat} {a b : World} (h : But S a b) (n : Nat) : But S a (b.drewN n) := ⟨h.os, h.tape, h.output, h.size, h.block⟩
theorem below_drewN {B : Nat} {a b : World} (h : Below B a b) (n : Nat) : Below B a (b.drewN n) := ⟨h.os, h.tape, h.output, h.size, h.block⟩
theorem But.refl (S : List Nat) (a : World) : But S a a := But.of (Below.refl _ _)
theorem But.on {S : List Nat} {a b c : World} (h : But S a b) (k : Below b.heap.size b c) : But S a c := h.trans (But.of k)

/-- Kept from the walk wholly: nothing that looks for a fact sees through it. -/
structure Shut (p : Prop) : Prop where
  out : p
/-- The first r cells of block g are these numbers. -/
def Lst (W : World) (g r : Nat) (f : Nat → Nat) : Prop := ∃ cur t, W.heap[g]? = some (.cells cur t (0, 0)) ∧ ∀ i, i < r → cur[i]? = some (.int .i64 (f i : Int))
section
variable {W W' : World} {g r : Nat} {f : Nat → Nat}
theorem Lst.lt (h : Lst W g r f) : g < W.heap.size := by
  obtain ⟨cur, t, h, _⟩ := h
  exact (Array.getElem?_eq_some_iff.1 h).1
theorem Lst.cell (h : Lst W g r f) (i : Nat) (hi : i < r) : W.cell? ⟨g, i, none⟩ = some (.int .i64 (f i : Int)) := by
  obtain ⟨cur, t, h, hc⟩ := h
  unfold World.cell?
  simp only [h]
  simpa using hc i hi
theorem Lst.free (h : Lst W g r f) (j : Nat) : W.frozen? ⟨g, j, none⟩ = false := by
  obtain ⟨cur, t, h, _⟩ := h
  unfold World.frozen?
  simp only [h]
  simp
theorem Lst.of_block (h : Lst W g r f) (e : W'.heap[g]? = W.heap[g]?) : Lst W' g r f := by
  obtain ⟨cur, t, h, hc⟩ := h
  exact ⟨cur, t, e.trans h, hc⟩
theorem Lst.set (h : Lst W g r f) (i v : Nat) (hi : i < r) : Lst (W.setCell ⟨g, i, none⟩ (.int .i64 (v : Int))) g r (upd f i v) := by
  obtain ⟨cur, t, h, hc⟩ := h
  refine ⟨cur.setIfInBounds i (.int .i64 (v : Int)), t, ?_, fun j hj => ?_⟩
  · simp only [World.setCell, Array.getElem?_modify]
    simp [h]
  · by_cases e : j = i
    · subst e
      have hs : j < cur.size := (Array.getElem?_eq_some_iff.1 (hc j hj)).1
      rw [upd_same, Array.getElem?_setIfInBounds_self_of_lt hs]
    · rw [upd_other _ _ _ _ e, Array.getElem?_setIfInBounds_ne (fun h => e h.symm)]
      exact hc j hj
theorem Lst.other (h : Lst W g r f) {b : Nat} (hb : g ≠ b) (i : Nat) (v : Value) : Lst (W.setCell ⟨b, i, none⟩ v) g r f := h.of_block (Below.heap_setCell _ _ _ _ hb)
theorem Lst.congr {f' : Nat → Nat} (h : Lst W g r f) (e : ∀ i, i < r → f i = f' i) : Lst W g r f' := by
  obtain ⟨cur, t, h, hc⟩ := h
  exact ⟨cur, t, h, fun i hi => by rw [← e i hi]; exact hc i hi⟩
end

/-- Which blocks, and how much room behind each slice. -/
structure Bk where
  p : Nat
  a : Nat
  o : Nat
  l : Nat
  k : Nat
  ca : Nat
  co : Nat
  cl : Nat
  ck : Nat
def Bk.five (b : Bk) : List Nat := [b.p, b.a, b.o, b.l, b.k]
theorem Bk.mp (b : Bk) : b.p ∈ b.five := by simp [Bk.five]
theorem Bk.ma (b : Bk) : b.a ∈ b.five := by simp [Bk.five]
theorem Bk.mo (b : Bk) : b.o ∈ b.five := by simp [Bk.five]
theorem Bk.ml (b : Bk) : b.l ∈ b.five := by simp [Bk.five]
theorem Bk.mk' (b : Bk) : b.k ∈ b.five := by simp [Bk.five]
def feet (b : Bk) (v : Value) : List Nat := b.five ++ v.ownBlock.toList
/-- The struct of package anchor, and that of the reference. -/
def hdA (b : Bk) (v : Value) (s : An) : List Value :=
  [.int .i64 (s.n : Int), .slice (some ⟨b.a, 0, none⟩) s.r b.ca, .slice (some ⟨b.o, 0, none⟩) s.r b.co, .slice (some ⟨b.l, 0, none⟩) s.r b.cl, .slice (some ⟨b.k, 0, none⟩) s.r b.ck, v]
def hdR (b : Bk) (v : Value) (s : An) : List Value :=
  [.slice (some ⟨b.a, 0, none⟩) s.r b.ca, .slice (some ⟨b.o, 0, none⟩) s.r b.co, .slice (some ⟨b.l, 0, none⟩) s.r b.cl, .slice (some ⟨b.k, 0, none⟩) s.r b.ck, v, .int .i64 (s.n : Int)]
def stk (l : List Nat) : List Value := l.reverse.map fun (x : Nat) => Value.int .i64 (x : Int)
theorem stk_cons (x : Nat) (l : List Nat) : stk (x :: l) = stk l ++ [.int .i64 (x : Int)] := by simp [stk]
theorem stk_length (l : List Nat) : (stk l).length = l.length := by simp [stk]

structure AnAt (hd : Bk → Value → An → List Value) (base : Nat) (W : World) (b : Bk) (v : Value) (s : An) : Prop where
  head : Row W b.p (hd b v s)
  la : Lst W b.a s.r s.A
  lo : Lst W b.o s.r s.W
  ll : Lst W b.l s.r s.L
  lk : Lst W b.k s.r s.K
  st : W.ownsRow base 3 1 v s.S.length (stk s.S)
  nod : b.five.Nodup
  ge : ∀ x ∈ b.five, base ≤ x
  off : ∀ x ∈ b.five, v.ownBlock ≠ some x

theorem own_of_block {W W' : World} {base : Nat} {e : TypeId} {size : Nat} {v : Value} {n : Nat} {xs : List Value} (h : W.ownsRow base e size v n xs) (hb : ∀ g, v.ownBlock = some g → W'.heap[g]? = W.heap[g]?) : W'.ownsRow base e size v n xs := by
  refine ⟨h.1, ?_⟩
  rcases h.2 with hn | ⟨g, cap, cur, rfl, h1, h2, h3⟩
  · exact .inl hn
  · exact .inr ⟨g, cap, cur, rfl, h1, (hb g rfl).trans h2, h3⟩

theorem own_succ {W : World} {base : Nat} {e : TypeId} {size : Nat} {v : Value} {k : Nat} {xs : List Value} (h : W.ownsRow base e size v (k + 1) xs) : ∃ g cap, v = .slice (some ⟨g, 0, none⟩) (k + 1) cap := by
  rcases h.2 with ⟨_, h⟩ | ⟨g, cap, cur, h, _⟩
  · omega
  · exact ⟨g, cap, h⟩
section
variable {hd : Bk → Value → An → List Value} {base : Nat} {W W' : World} {b : Bk} {v : Value} {s : An}
theorem AnAt.lt (h : AnAt hd base W b v s) : ∀ x ∈ feet b v, base ≤ x ∧ x < W.heap.size := by
  intro x hx
  unfold feet at hx
  rcases List.mem_append.1 hx with hx | hx
  · refine ⟨h.ge x hx, ?_⟩
    simp only [Bk.five, List.mem_cons, List.not_mem_nil, or_false] at hx
    rcases hx with rfl | rfl | rfl | rfl | rfl
    · exact h.head.lt
    · exact h.la.lt
    · exact h.lo.lt
    · exact h.ll.lt
    · exact h.lk.lt
  · rw [Option.mem_toList] at hx
    exact h.st.lt x hx
theorem AnAt.of_blocks (h : AnAt hd base W b v s) (e : ∀ x ∈ feet b v, W'.heap[x]? = W.heap[x]?) : AnAt hd base W' b v s := by
  have e5 : ∀ x ∈ b.five, W'.heap[x]? = W.heap[x]? := fun x hx => e x (List.mem_append_left _ hx)
  refine ⟨h.head.of_block (e5 _ (by simp [Bk.five])), h.la.of_block (e5 _ (by simp [Bk.five])), h.lo.of_block (e5 _ (by simp [Bk.five])), h.ll.of_block (e5 _ (by simp [Bk.five])), h.lk.of_block (e5 _ (by simp [Bk.five])), own_of_block h.st fun g hg => e g ?_, h.nod, h.ge, h.off⟩
  unfold feet
  rw [hg]
  simp
theorem AnAt.but {T : List Nat} (h : AnAt hd base W b v s) (hb : But T W W') (hT : ∀ x ∈ feet b v, x ∉ T) : AnAt hd base W' b v s := h.of_blocks fun x hx => hb.block x (h.lt x hx).2 (hT x hx)
theorem AnAt.on (h : AnAt hd base W b v s) (hb : Below W.heap.size W W') : AnAt hd base W' b v s := h.of_blocks fun x hx => hb.block x (h.lt x hx).2
theorem AnAt.drew (h : AnAt hd base W b v s) : AnAt hd base W.drew b v s := h.of_blocks fun _ _ => rfl
theorem AnAt.drewN (h : AnAt hd base W b v s) (n : Nat) : AnAt hd base (W.drewN n) b v s := h.of_blocks fun _ _ => rfl
theorem AnAt.ne (h : AnAt hd base W b v s) : b.p ≠ b.a ∧ b.p ≠ b.o ∧ b.p ≠ b.l ∧ b.p ≠ b.k ∧ b.a ≠ b.o ∧ b.a ≠ b.l ∧ b.a ≠ b.k ∧ b.o ≠ b.l ∧ b.o ≠ b.k ∧ b.l ≠ b.k := by
  have h := h.nod
  simp only [Bk.five, List.nodup_cons, List.mem_cons, List.not_mem_nil, or_false, not_or] at h
  omega
theorem AnAt.st_other (h : AnAt hd base W b v s) {x : Nat} (hx : x ∈ b.five) (i : Nat) (u : Value) : (W.setCell ⟨x, i, none⟩ u).ownsRow base 3 1 v s.S.length (stk s.S) :=
  own_of_block h.st fun g hg => Below.heap_setCell _ _ _ _ fun e => h.off x hx (by rw [hg]; exact congrArg some e)
theorem AnAt.setA (h : AnAt hd base W b v s) (i x : Nat) (hi : i < s.r) (hh : hd b v { s with A := upd s.A i x } = hd b v s) : AnAt hd base (W.setCell ⟨b.a, i, none⟩ (.int .i64 (x : Int))) b v { s with A := upd s.A i x } := by
  obtain ⟨pa, po, pl, pk, ao, al, ak, ol, ok, lk⟩ := h.ne
  exact ⟨by rw [hh]; exact h.head.other pa _ _, h.la.set i x hi, h.lo.other ao.symm _ _, h.ll.other al.symm _ _, h.lk.other ak.symm _ _, h.st_other (by simp [Bk.five]) _ _, h.nod, h.ge, h.off⟩
theorem AnAt.setW (h : AnAt hd base W b v s) (i x : Nat) (hi : i < s.r) (hh : hd b v { s with W := upd s.W i x } = hd b v s) : AnAt hd base (W.setCell ⟨b.o, i, none⟩ (.int .i64 (x : Int))) b v { s with W := upd s.W i x } := by
  obtain ⟨pa, po, pl, pk, ao, al, ak, ol, ok, lk⟩ := h.ne
  exact ⟨by rw [hh]; exact h.head.other po _ _, h.la.other ao _ _, h.lo.set i x hi, h.ll.other ol.symm _ _, h.lk.other ok.symm _ _, h.st_other (by simp [Bk.five]) _ _, h.nod, h.ge, h.off⟩
theorem AnAt.setL (h : AnAt hd base W b v s) (i x : Nat) (hi : i < s.r) (hh : hd b v { s with L := upd s.L i x } = hd b v s) : AnAt hd base (W.setCell ⟨b.l, i, none⟩ (.int .i64 (x : Int))) b v { s with L := upd s.L i x } := by
  obtain ⟨pa, po, pl, pk, ao, al, ak, ol, ok, lk⟩ := h.ne
  exact ⟨by rw [hh]; exact h.head.other pl _ _, h.la.other al _ _, h.lo.other ol _ _, h.ll.set i x hi, h.lk.other lk.symm _ _, h.st_other (by simp [Bk.five]) _ _, h.nod, h.ge, h.off⟩
theorem AnAt.setK (h : AnAt hd base W b v s) (i x : Nat) (hi : i < s.r) (hh : hd b v { s with K := upd s.K i x } = hd b v s) : AnAt hd base (W.setCell ⟨b.k, i, none⟩ (.int .i64 (x : Int))) b v { s with K := upd s.K i x } := by
  obtain ⟨pa, po, pl, pk, ao, al, ak, ol, ok, lk⟩ := h.ne
  exact ⟨by rw [hh]; exact h.head.other pk _ _, h.la.other ak _ _, h.lo.other ok _ _, h.ll.other lk _ _, h.lk.set i x hi, h.st_other (by simp [Bk.five]) _ _, h.nod, h.ge, h.off⟩
/-- A cell of the struct is another one. -/
theorem AnAt.setHead (h : AnAt hd base W b v s) (j : Nat) (u : Value) {s' : An} (hh : (hd b v s).set j u = hd b v s') (er : s'.r = s.r) (eA : s'.A = s.A) (eW : s'.W = s.W) (eL : s'.L = s.L) (eK : s'.K = s.K) (eS : s'.S = s.S) : AnAt hd base (W.setCell ⟨b.p, j, none⟩ u) b v s' := by
  obtain ⟨pa, po, pl, pk, ao, al, ak, ol, ok, lk⟩ := h.ne
  refine ⟨by rw [← hh]; exact h.head.set j u, ?_, ?_, ?_, ?_, by rw [eS]; exact h.st_other (by simp [Bk.five]) _ _, h.nod, h.ge, h.off⟩
  · rw [er, eA]; exact h.la.other pa.symm _ _
  · rw [er, eW]; exact h.lo.other po.symm _ _
  · rw [er, eL]; exact h.ll.other pl.symm _ _
  · rw [er, eK]; exact h.lk.other pk.symm _ _
theorem AnAt.setNA (h : AnAt hdA base W b v s) (m : Nat) : AnAt hdA base (W.setCell ⟨b.p, 0, none⟩ (.int .i64 (m : Int))) b v { s with n := m } := h.setHead 0 _ rfl rfl rfl rfl rfl rfl rfl
theorem AnAt.setNR (h : AnAt hdR base W b v s) (m : Nat) : AnAt hdR base (W.setCell ⟨b.p, 5, none⟩ (.int .i64 (m : Int))) b v { s with n := m } := h.setHead 5 _ rfl rfl rfl rfl rfl rfl rfl
/-- The stack is another one. -/
theorem AnAt.setS (h : AnAt hd base W b v s) (hg : W.grownBy W' v.ownBlock) {v' : Value} {S : List Nat} (j : Nat) (hh : (hd b v s).set j v' = hd b v' { s with S := S }) (ho : W'.ownsRow base 3 1 v' S.length (stk S)) (hv : v'.ownBlock = v.ownBlock ∨ v'.ownBlock = some W.heap.size) :
    AnAt hd base (W'.setCell ⟨b.p, j, none⟩ v') b v' { s with S := S } := by
  obtain ⟨pa, po, pl, pk, ao, al, ak, ol, ok, lk⟩ := h.ne
  have hl := h.lt
  have e5 : ∀ x ∈ b.five, W'.heap[x]? = W.heap[x]? := fun x hx => hg.block x (hl x (List.mem_append_left _ hx)).2 fun e => h.off x hx e.symm
  have off' : ∀ x ∈ b.five, v'.ownBlock ≠ some x := fun x hx e => by
    rcases hv with hv | hv
    · exact h.off x hx (hv ▸ e)
    · have := (hl x (List.mem_append_left _ hx)).2
      rw [hv] at e
      have := Option.some.inj e
      omega
  refine ⟨by rw [← hh]; exact (h.head.of_block (e5 _ (by simp [Bk.five]))).set j _, (h.la.of_block (e5 _ (by simp [Bk.five]))).other pa.symm _ _, (h.lo.of_block (e5 _ (by simp [Bk.five]))).other po.symm _ _, (h.ll.of_block (e5 _ (by simp [Bk.five]))).other pl.symm _ _, (h.lk.of_block (e5 _ (by simp [Bk.five]))).other pk.symm _ _, ?_, h.nod, h.ge, off'⟩
  exact own_of_block ho fun g hg => Below.heap_setCell _ _ _ _ fun e => off' b.p (by simp [Bk.five]) (by rw [hg]; exact congrArg some e)

/-- The stack's last one is taken away. -/
theorem AnAt.pop (h : AnAt hd base W b v s) {x : Nat} {rest : List Nat} (hS : s.S = x :: rest) {g cap : Nat} (hv : v = .slice (some ⟨g, 0, none⟩) (rest.length + 1) cap) (j : Nat) (hh : (hd b v s).set j (.slice (some ⟨g, 0, none⟩) rest.length cap) = hd b (.slice (some ⟨g, 0, none⟩) rest.length cap) { s with S := rest }) :
    AnAt hd base (W.setCell ⟨b.p, j, none⟩ (.slice (some ⟨g, 0, none⟩) rest.length cap)) b (.slice (some ⟨g, 0, none⟩) rest.length cap) { s with S := rest } := by
  have hst := h.st
  rw [hS, stk_cons, hv] at hst
  refine h.setS (W' := W) ⟨rfl, rfl, rfl, Nat.le_refl _, fun _ _ _ => rfl⟩ j hh ?_ (.inl (by rw [hv]; rfl))
  refine ⟨by rw [stk_length, Nat.mul_one], ?_⟩
  rcases hst.2 with ⟨h, _⟩ | ⟨g', cap', cur, h1, h2, h3, h4, h5, h6, h7⟩
  · cases h
  · cases h1
    rw [List.length_cons] at h4 h7
    refine .inr ⟨g, cap, cur, rfl, h2, h3, by omega, h5, h6, ?_⟩
    have e := congrArg (List.take rest.length) h7
    have e2 : List.take rest.length (stk rest ++ [.int .i64 (x : Int)]) = stk rest := by
      rw [List.take_append_of_le_length (by rw [stk_length]; exact Nat.le_refl _), List.take_of_length_le (by rw [stk_length]; exact Nat.le_refl _)]
    rw [e2, List.take_take, Nat.min_eq_left (by omega)] at e
    rw [Nat.mul_one]; exact e
theorem AnAt.top (h : AnAt hd base W b v s) {x : Nat} {rest : List Nat} (hS : s.S = x :: rest) : ∃ g cap, v = .slice (some ⟨g, 0, none⟩) (rest.length + 1) cap ∧ rest.length < cap ∧ W.cell? ⟨g, rest.length, none⟩ = some (.int .i64 (x : Int)) := by
  have hst := h.st
  rw [hS, stk_cons] at hst
  have hst2 := hst
  rcases hst.2 with ⟨_, h⟩ | ⟨g, cap, cur, h1, h2, h3, h4, h5, h6, h7⟩
  · simp at h
  · refine ⟨g, cap, h1, by rw [List.length_cons] at h4; omega, ?_⟩
    have e := hst2.cells (g := g) (by rw [h1]; rfl) rest.length (.int .i64 (x : Int)) (by rw [List.getElem?_append_right (by rw [stk_length]; exact Nat.le_refl _), stk_length, Nat.sub_self]; rfl)
    rw [show (⟨g, 0, none⟩ : Addr).add rest.length = ⟨g, rest.length, none⟩ by unfold Addr.add; split <;> simp_all] at e
    exact e
theorem AnAt.empty (h : AnAt hd base W b v s) (hS : s.S = []) : ∃ a cap, v = .slice a 0 cap := by
  have hst := h.st
  rw [hS] at hst
  rcases hst.2 with ⟨h, _⟩ | ⟨g, cap, cur, h1, _⟩
  · exact ⟨_, _, h⟩
  · exact ⟨_, _, h1⟩
/-- What has been laid ahead of the struct's store. -/
theorem AnAt.head_grown (h : AnAt hd base W b v s) (hg : W.grownBy W' v.ownBlock) : Row W' b.p (hd b v s) := h.head.of_block (hg.block _ h.head.lt fun e => h.off b.p (by simp [Bk.five]) e.symm)
/-! What the walk reads. -/
theorem AnAt.cellA (h : AnAt hd base W b v s) (i : Nat) (hi : i < s.r) : W.cell? ⟨b.a, i, none⟩ = some (.int .i64 (s.A i : Int)) := h.la.cell i hi
theorem AnAt.cellW (h : AnAt hd base W b v s) (i : Nat) (hi : i < s.r) : W.cell? ⟨b.o, i, none⟩ = some (.int .i64 (s.W i : Int)) := h.lo.cell i hi
theorem AnAt.cellL (h : AnAt hd base W b v s) (i : Nat) (hi : i < s.r) : W.cell? ⟨b.l, i, none⟩ = some (.int .i64 (s.L i : Int)) := h.ll.cell i hi
theorem AnAt.cellK (h : AnAt hd base W b v s) (i : Nat) (hi : i < s.r) : W.cell? ⟨b.k, i, none⟩ = some (.int .i64 (s.K i : Int)) := h.lk.cell i hi
theorem AnAt.headA (h : AnAt hdA base W b v s) : W.cell? ⟨b.p, 0, none⟩ = some (.int .i64 (s.n : Int)) ∧ W.cell? ⟨b.p, 1, none⟩ = some (.slice (some ⟨b.a, 0, none⟩) s.r b.ca) ∧ W.cell? ⟨b.p, 2, none⟩ = some (.slice (some ⟨b.o, 0, none⟩) s.r b.co) ∧ W.cell? ⟨b.p, 3, none⟩ = some (.slice (some ⟨b.l, 0, none⟩) s.r b.cl) ∧ W.cell? ⟨b.p, 4, none⟩ = some (.slice (some ⟨b.k, 0, none⟩) s.r b.ck) ∧ W.cell? ⟨b.p, 5, none⟩ = some v :=
  ⟨h.head.cell 0 _ rfl, h.head.cell 1 _ rfl, h.head.cell 2 _ rfl, h.head.cell 3 _ rfl, h.head.cell 4 _ rfl, h.head.cell 5 _ rfl⟩
theorem AnAt.headR (h : AnAt hdR base W b v s) : W.cell? ⟨b.p, 0, none⟩ = some (.slice (some ⟨b.a, 0, none⟩) s.r b.ca) ∧ W.cell? ⟨b.p, 1, none⟩ = some (.slice (some ⟨b.o, 0, none⟩) s.r b.co) ∧ W.cell? ⟨b.p, 2, none⟩ = some (.slice (some ⟨b.l, 0, none⟩) s.r b.cl) ∧ W.cell? ⟨b.p, 3, none⟩ = some (.slice (some ⟨b.k, 0, none⟩) s.r b.ck) ∧ W.cell? ⟨b.p, 4, none⟩ = some v ∧ W.cell? ⟨b.p, 5, none⟩ = some (.int .i64 (s.n : Int)) :=
  ⟨h.head.cell 0 _ rfl, h.head.cell 1 _ rfl, h.head.cell 2 _ rfl, h.head.cell 3 _ rfl, h.head.cell 4 _ rfl, h.head.cell 5 _ rfl⟩
end

/-- What a change leaves: all but the anchor's own blocks; its stack may lie in a new one. -/
structure Went (W W' : World) (b : Bk) (v v' : Value) : Prop where
  but : But (feet b v) W W'
  own : ∀ x, v'.ownBlock = some x → v.ownBlock = some x ∨ W.heap.size ≤ x
theorem Went.refl (W : World) (b : Bk) (v : Value) : Went W W b v v := ⟨But.refl _ _, fun _ h => .inl h⟩
theorem Went.feet {W W' : World} {b : Bk} {v v' : Value} (h : Went W W' b v v') : ∀ x ∈ feet b v', x ∈ feet b v ∨ W.heap.size ≤ x := by
  intro x hx
  unfold Go.Proofs.Ytckkdgifjgkoaaa.feet at hx ⊢
  rcases List.mem_append.1 hx with hx | hx
  · exact .inl (List.mem_append_left _ hx)
  · rw [Option.mem_toList] at hx
    rcases h.own x hx with h | h
    · exact .inl (List.mem_append_right _ (by rw [Option.mem_toList]; exact h))
    · exact .inr h
theorem Went.trans {U V W : World} {b : Bk} {v v' v'' : Value} (h : Went U V b v v') (k : Went V W b v' v'') : Went U W b v v'' := by
  refine ⟨⟨k.but.os.trans h.but.os, k.but.tape.trans h.but.tape, k.but.output.trans h.but.output, Nat.le_trans h.but.size k.but.size, fun i hi hn => ?_⟩, fun x hx => ?_⟩
  · refine (k.but.block i (Nat.lt_of_lt_of_le hi h.but.size) fun hx => ?_).trans (h.but.block i hi hn)
    rcases h.feet i hx with h | h
    · exact hn h
    · omega
  · rcases k.own x hx with k | k
    · exact h.own x k
    · exact .inr (Nat.le_trans h.but.size k)
theorem Went.cell {W W' : World} {b : Bk} {v v' : Value} (h : Went W W' b v v') {x : Nat} (hx : x ∈ b.five) (i : Nat) (u : Value) : Went W (W'.setCell ⟨x, i, none⟩ u) b v v' := ⟨h.but.setCell (List.mem_append_left _ hx) i u, h.own⟩
theorem Went.drew {W W' : World} {b : Bk} {v v' : Value} (h : Went W W' b v v') : Went W W'.drew b v v' := ⟨h.but.drew, h.own⟩
theorem Went.drewN {W W' : World} {b : Bk} {v v' : Value} (h : Went W W' b v v') (n : Nat) : Went W (W'.drewN n) b v v' := ⟨h.but.drewN n, h.own⟩
theorem Went.pop {W : World} {b : Bk} {g n m cap : Nat} (j : Nat) (u : Value) : Went W (W.setCell ⟨b.p, j, none⟩ u) b (.slice (some ⟨g, 0, none⟩) n cap) (.slice (some ⟨g, 0, none⟩) m cap) := ⟨(But.refl _ _).setCell (List.mem_append_left _ b.mp) j u, fun _ h => .inl h⟩
theorem Went.push {W V W' : World} {b : Bk} {v v' : Value} (hb : Below W.heap.size W V) (hg : V.grownBy W' v.ownBlock) (hv : v'.ownBlock = v.ownBlock ∨ v'.ownBlock = some V.heap.size) : Went W W' b v v' := by
  refine ⟨(But.of hb).trans ⟨hg.os, hg.tape, hg.output, hg.size, fun k hk hn => hg.block k hk fun e => hn ?_⟩, fun x hx => ?_⟩
  · unfold Go.Proofs.Ytckkdgifjgkoaaa.feet
    rw [← e]
    simp
  · rcases hv with e | e
    · exact .inl (e ▸ hx)
    · have := Option.some.inj (e.symm.trans hx)
      have := hb.size
      exact .inr (by omega)
/-- Of what lay there no more than the anchor was turned. -/
theorem Went.below {w W W' : World} {b : Bk} {v v' : Value} {hd : Bk → Value → An → List Value} {s : An} {base : Nat} (hw : Below w.heap.size w W) (h : Went W W' b v v') (ha : AnAt hd base W b v s) (hb : w.heap.size ≤ base) : Below w.heap.size w W' :=
  h.but.below hw fun x hx => Nat.le_trans hb (ha.lt x hx).1
end Go.Proofs.Ytckkdgifjgkoaaa
