/- What a store into the reference's pool of chapter 13 leaves. -/
import Derived.Test.YtckkdgifjgkoaaaPoTell
import Derived.Test.YtckkdgifjgkoaaaAnAny
namespace Go.Proofs.Ytckkdgifjgkoaaa
open Go.ChangeShapes Go.WideShapes Go.ChangeAt Go.RowKit An

theorem mcells_set (m m' : Mem) (j : Nat) (u : Value) (hj : j < 5) (hc : m'.cells = m.cells.set j u) : ∀ (L : List Mem) (i : Nat), L[i]? = some m → mcells (L.set i m') = (mcells L).set (i * 5 + j) u
  | [], i, h => by simp at h
  | a :: L, 0, h => by
    simp at h
    subst h
    show m'.cells ++ mcells L = (a.cells ++ mcells L).set (0 * 5 + j) u
    rw [hc, Nat.zero_mul, Nat.zero_add, List.set_append_left _ _ (by show j < 5; exact hj)]
  | a :: L, i + 1, h => by
    have ih := mcells_set m m' j u hj hc L i (by simpa using h)
    show a.cells ++ mcells (L.set i m') = (a.cells ++ mcells L).set ((i + 1) * 5 + j) u
    have e : (i + 1) * 5 + j = a.cells.length + (i * 5 + j) := by show _ = 5 + _; omega
    rw [ih, e, List.set_append_right _ _ (by omega), Nat.add_sub_cancel_left]

section
variable {base : Nat} {W W' : World} {key : ByteArray} {room : Nat} {b : RBk} {v vL : Value} {s : An} {L : List Mem} {own : Nat → Nat}
theorem RAt.setOwn (h : RAt base W key room b v vL s L own) (i x : Nat) (hi : i < room) : RAt base (W.setCell ⟨b.o, i, none⟩ (.int .i64 (x : Int))) key room b v vL s L (upd own i x) :=
  ⟨h.head.other h.po _ _, h.an.of_blocks fun y hy => Below.heap_setCell _ _ _ _ fun e => h.of (by have e : y = b.o := e; rw [← e]; exact hy), own_of_block h.row fun g hg => Below.heap_setCell _ _ _ _ fun e => h.ol (by rw [hg]; exact congrArg some e), h.own.set i x hi, h.gp, h.go, h.po, h.pl, h.ol, h.pf, h.of, h.lf⟩
theorem RAt.setMem (h : RAt base W key room b v vL s L own) {g c : Nat} (hv : vL = .slice (some ⟨g, 0, none⟩) L.length c) {i : Nat} {m m' : Mem} (hm : L[i]? = some m) (j : Nat) (u : Value) (hj : j < 5) (hc : m'.cells = m.cells.set j u) :
    RAt base (W.setCell ⟨g, i * 5 + j, none⟩ u) key room b v vL s (L.set i m') own := by
  have hg : vL.ownBlock = some g := by rw [hv]; rfl
  have hrow := h.row
  rw [hv] at hrow
  have hst := (hrow.stored (i * 5 + j) u).1
  refine ⟨h.head.other (fun e => h.pl (by rw [hg, e])) _ _, h.an.of_blocks fun y hy => Below.heap_setCell _ _ _ _ fun e => h.lf g hg (by have e : y = g := e; rw [← e]; exact hy), ?_, h.own.other (fun e => h.ol (by rw [hg, e])) _ _, h.gp, h.go, h.po, h.pl, h.ol, h.pf, h.of, h.lf⟩
  rw [mcells_set m m' j u hj hc L i hm, List.length_set, hv]
  exact hst
theorem RAt.anchor (h : RAt base W key room b v vL s L own) {v' : Value} {s' : An} (ha : AnAt hdR base W' b.bk v' s') (hw : Went W W' b.bk v v') : RAt base W' key room b v' vL s' L own := by
  have keep : ∀ x, x ∉ feet b.bk v → x < W.heap.size → W'.heap[x]? = W.heap[x]? := fun x hx hl => hw.but.block x hl hx
  have off : ∀ x, x ∉ feet b.bk v → x < W.heap.size → x ∉ feet b.bk v' := fun x hx hl hx' => by
    rcases hw.feet x hx' with h1 | h1
    · exact hx h1
    · omega
  exact ⟨h.head.of_block (keep _ h.pf h.head.lt), ha, own_of_block h.row fun g hg => keep g (h.lf g hg) (h.row.lt g hg).2, h.own.of_block (keep _ h.of h.own.lt), h.gp, h.go, h.po, h.pl, h.ol, off _ h.pf h.head.lt, off _ h.of h.own.lt, fun g hg => off g (h.lf g hg) (h.row.lt g hg).2⟩
/-- The members' row is another one. -/
theorem RAt.setRow (h : RAt base W key room b v vL s L own) {vL' : Value} {L' : List Mem} (hb : Below W.heap.size W W') (ho : W'.ownsRow base 48 5 vL' L'.length (mcells L')) (hn : ∀ x, vL'.ownBlock = some x → W.heap.size ≤ x) :
    RAt base (W'.setCell ⟨b.p, 2, none⟩ vL') key room b v vL' s L' own := by
  have h1 := h.on hb
  have ne : ∀ x, x < W.heap.size → vL'.ownBlock ≠ some x := fun x hx e => by have := hn x e; omega
  refine ⟨?_, h1.an.of_blocks fun y hy => Below.heap_setCell _ _ _ _ fun e => h.pf (by have e : y = b.p := e; rw [← e]; exact hy), own_of_block ho fun g hg => Below.heap_setCell _ _ _ _ fun e => ne b.p h.head.lt (by rw [hg]; exact congrArg some e), h1.own.other h.po.symm _ _, h.gp, h.go, h.po, ne _ h.head.lt, ne _ h.own.lt, h.pf, h.of, fun x hx hf => ?_⟩
  · exact h1.head.set 2 vL'
  · have := (h.an.lt x hf).2
    have := hn x hx
    omega
end

/-- What a change of the pool leaves: all but its own blocks; what is new is new. -/
structure PWent (W W' : World) (b : RBk) (v vL v' vL' : Value) : Prop where
  but : But (rfeet b v vL) W W'
  new : ∀ x ∈ rfeet b v' vL', x ∈ rfeet b v vL ∨ W.heap.size ≤ x
section
variable {U V W W' : World} {b : RBk} {v vL v' vL' v'' vL'' : Value}
theorem PWent.refl (W : World) (b : RBk) (v vL : Value) : PWent W W b v vL v vL := ⟨But.refl _ _, fun _ h => .inl h⟩
theorem PWent.of (h : Below W.heap.size W W') (b : RBk) (v vL : Value) : PWent W W' b v vL v vL := ⟨But.of h, fun _ h => .inl h⟩
theorem PWent.trans (h : PWent U V b v vL v' vL') (k : PWent V W b v' vL' v'' vL'') : PWent U W b v vL v'' vL'' := by
  refine ⟨⟨k.but.os.trans h.but.os, k.but.tape.trans h.but.tape, k.but.output.trans h.but.output, Nat.le_trans h.but.size k.but.size, fun i hi hn => ?_⟩, fun x hx => ?_⟩
  · refine (k.but.block i (Nat.lt_of_lt_of_le hi h.but.size) fun hx => ?_).trans (h.but.block i hi hn)
    rcases h.new i hx with h | h
    · exact hn h
    · omega
  · rcases k.new x hx with k | k
    · exact h.new x k
    · exact .inr (Nat.le_trans h.but.size k)
theorem PWent.cell (h : PWent U V b v vL v' vL') {x : Nat} (hx : x ∈ rfeet b v vL) (i : Nat) (u : Value) : PWent U (V.setCell ⟨x, i, none⟩ u) b v vL v' vL' := ⟨h.but.setCell hx i u, h.new⟩
theorem PWent.drew (h : PWent U V b v vL v' vL') : PWent U V.drew b v vL v' vL' := ⟨h.but.drew, h.new⟩
theorem PWent.drewN (h : PWent U V b v vL v' vL') (n : Nat) : PWent U (V.drewN n) b v vL v' vL' := ⟨h.but.drewN n, h.new⟩
theorem PWent.anchor (h : Went W W' b.bk v v') (vL : Value) : PWent W W' b v vL v' vL := by
  refine ⟨h.but.more fun x hx => by simp [rfeet, hx], fun x hx => ?_⟩
  unfold rfeet at hx ⊢
  simp only [List.mem_cons, List.mem_append] at hx ⊢
  rcases hx with hx | hx | hx | hx
  · exact .inl (.inl hx)
  · exact .inl (.inr (.inl hx))
  · exact .inl (.inr (.inr (.inl hx)))
  · rcases h.feet x hx with h | h
    · exact .inl (.inr (.inr (.inr h)))
    · exact .inr h
theorem PWent.row (h : Below W.heap.size W W') (b : RBk) (v vL : Value) {vL' : Value} (hn : ∀ x, vL'.ownBlock = some x → W.heap.size ≤ x) : PWent W (W'.setCell ⟨b.p, 2, none⟩ vL') b v vL v vL' := by
  refine ⟨(But.of h).setCell (by simp [rfeet]) 2 vL', fun x hx => ?_⟩
  unfold rfeet at hx ⊢
  simp only [List.mem_cons, List.mem_append, Option.mem_toList] at hx ⊢
  rcases hx with hx | hx | hx | hx
  · exact .inl (.inl hx)
  · exact .inl (.inr (.inl hx))
  · exact .inr (hn x hx)
  · exact .inl (.inr (.inr (.inr hx)))
theorem PWent.below {w : World} {base : Nat} {key : ByteArray} {room : Nat} {s : An} {L : List Mem} {own : Nat → Nat} (hw : Below w.heap.size w W) (h : PWent W W' b v vL v' vL') (ha : RAt base W key room b v vL s L own) (hb : w.heap.size ≤ base) : Below w.heap.size w W' :=
  h.but.below hw fun x hx => Nat.le_trans hb (ha.lt x hx).1
end
theorem mem_p (b : RBk) (v vL : Value) : b.p ∈ rfeet b v vL := by simp [rfeet]
theorem mem_o (b : RBk) (v vL : Value) : b.o ∈ rfeet b v vL := by simp [rfeet]
theorem mem_l (b : RBk) (v : Value) (g n c : Nat) : g ∈ rfeet b v (.slice (some ⟨g, 0, none⟩) n c) := by simp [rfeet, Value.ownBlock]

/-- A region that holds one call, number m, that changes memory: all others read what was there, or what is there behind it. -/
theorem wp_region_one {P : Program} {id : Nat} {l : List Oper} {Q : Exit → Act → World → Prop} {a : Act} {w : World} (hmix : P.follows .mixedOrders = true) (vs : List Value) (m : Nat) (J : World → Prop) (htidy : Region.tidyB l.toArray a.tmps.size = true)
    (hm : m < l.length)
    (hop : ∀ (i : Nat) (o : Oper) (b : Act) (u : World), l[i]? = some o → i ≠ m → (Region.waitsB l m i = true → u = w.drew) → (u = w.drew ∨ J u) → Slots l a vs o b →
      Region.wanted o (yielded l.toArray b.tmps) = true ∧ yieldsY P (fun v u' => v = vs.getD i undef ∧ u' = u) ((execOp b.eval o).run P u))
    (hcall : ∀ (o : Oper) (b : Act), l[m]? = some o → Slots l a vs o b → Region.wanted o (yielded l.toArray b.tmps) = true ∧ yieldsY P (fun v u' => v = vs.getD m undef ∧ J u') ((execOp b.eval o).run P w.drew))
    (hend : ∀ u, J u → Q .normal (putAll l.toArray vs l.length a) u) : (Code.region id l.toArray true).wp P Q a w := by
  refine wp_region_inv hmix (IsVal vs) (fun come u => (¬ come m ∧ u = w.drew) ∨ (come m ∧ J u)) htidy (.inl ⟨fun h => h, rfl⟩) ?_ ?_
  · rintro i o b u come ho hn hC hr hI hold hnew
    have hs : Slots l a vs o b := ⟨fun t ht => hold t (base_of ht), fun j t k1 k2 => hnew j t (hr j k1) k2⟩
    have go : ∀ (R : Value → World → Prop), (∀ v u', R v u' → ((¬ (m = i ∨ come m) ∧ u' = w.drew) ∨ ((m = i ∨ come m) ∧ J u')) ∧ v = vs.getD i undef) → yieldsY P R ((execOp b.eval o).run P u) →
        yieldsY P (fun v u' => ((¬ (m = i ∨ come m) ∧ u' = w.drew) ∨ ((m = i ∨ come m) ∧ J u')) ∧ IsVal vs i v u' ∧ ∀ j x, come j → IsVal vs j x u → IsVal vs j x u') ((execOp b.eval o).run P u) := by
      intro R hR
      generalize (execOp b.eval o).run P u = r
      intro hy
      have fin : ∀ v u', R v u' → ((¬ (m = i ∨ come m) ∧ u' = w.drew) ∨ ((m = i ∨ come m) ∧ J u')) ∧ IsVal vs i v u' ∧ ∀ j x, come j → IsVal vs j x u → IsVal vs j x u' := fun v u' h => ⟨(hR v u' h).1, (hR v u' h).2, fun _ _ _ h => h⟩
      cases r with
      | ok n u' =>
        cases n <;> simp only [yieldsY] at hy ⊢
        all_goals first
          | exact fin _ _ hy
          | exact hy.mono fun e u'' ⟨v, he, h3⟩ => ⟨v, he, fin _ _ h3⟩
      | halt x u' => exact hy
    by_cases e : i = m
    · subst e
      rcases hI with ⟨_, rfl⟩ | ⟨h, _⟩
      · obtain ⟨k1, k2⟩ := hcall o b ho hs
        refine .inl ⟨k1, go _ ?_ k2⟩
        rintro v u' ⟨rfl, hJ'⟩
        exact ⟨.inr ⟨.inl rfl, hJ'⟩, rfl⟩
      · exact absurd h hn
    · obtain ⟨k1, k2⟩ := hop i o b u ho e (fun h => by
        rcases hI with ⟨_, h1⟩ | ⟨h1, _⟩
        · exact h1
        · exact absurd h1 (not_yet hC h hn)) (by
        rcases hI with ⟨_, h1⟩ | ⟨_, h1⟩
        · exact .inl h1
        · exact .inr h1) hs
      refine .inl ⟨k1, go _ ?_ k2⟩
      rintro v u' ⟨rfl, rfl⟩
      refine ⟨?_, rfl⟩
      rcases hI with ⟨h1, h2⟩ | ⟨h1, h2⟩
      · exact .inl ⟨fun h => h.elim (fun x => e x.symm) h1, h2⟩
      · exact .inr ⟨.inr h1, h2⟩
  · rintro b u hI hmet
    rw [met_all_list htidy hmet]
    rcases hI with ⟨h, _⟩ | ⟨_, h⟩
    · exact absurd hm h
    · exact hend u h
end Go.Proofs.Ytckkdgifjgkoaaa
