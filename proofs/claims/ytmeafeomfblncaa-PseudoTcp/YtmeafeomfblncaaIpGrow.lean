/- Two rules for a region that draws its order: its operations yield these values, and at most make new memory; at its end one of them may store. Nothing of the program is in here. -/
import Derived.Test.YtmeafeomfblncaaIpAny
import Derived.Test.YtmeafeomfblncaaIpPut
namespace Go.Proofs.Ytmeafeomfblncaa
open Go.RowKit

theorem met_all_list {l : List Oper} {vs : List Value} {a b : Act} {u : World} (htidy : Region.tidyB l.toArray a.tmps.size = true) (h : Met l.toArray (IsVal vs) a (fun i => i < l.length) b u) : b = putAll l.toArray vs l.length a := by
  have := met_all (vs := vs) htidy (b := b) (u := u) (by simpa using h)
  simpa using this

/-- What an operation is told of the slots that it reads. -/
def Slots (l : List Oper) (a : Act) (vs : List Value) (o : Oper) (b : Act) : Prop :=
  (∀ t, Region.baseB l t = true → b.tmps.getD t undef = a.tmps.getD t undef) ∧ ∀ j t, (o.after.any fun e => Region.binds .any e && e.on == j) = true → dstAt l.toArray j = some t → b.tmps.getD t undef = vs.getD j undef
theorem Slots.base {l : List Oper} {a : Act} {vs : List Value} {o : Oper} {b : Act} (h : Slots l a vs o b) (t : Tmp) (ht : Region.baseB l t = true) : b.tmps.getD t undef = a.tmps.getD t undef := h.1 t ht
theorem Slots.dep {l : List Oper} {a : Act} {vs : List Value} {o : Oper} {b : Act} (h : Slots l a vs o b) (j : Nat) (t : Tmp) (h1 : (o.after.any fun e => Region.binds .any e && e.on == j) = true) (h2 : dstAt l.toArray j = some t) : b.tmps.getD t undef = vs.getD j undef := h.2 j t h1 h2

/-- The region makes new memory at most. -/
theorem wp_region_grow {P : Program} {id : Nat} {l : List Oper} {Q : Exit → Act → World → Prop} {a : Act} {w : World} (hmix : P.follows .mixedOrders = true) (vs : List Value) (htidy : Region.tidyB l.toArray a.tmps.size = true)
    (hop : ∀ (i : Nat) (o : Oper) (b : Act) (u : World), l[i]? = some o → Below w.heap.size w.drew u → Slots l a vs o b →
      Region.wanted o (yielded l.toArray b.tmps) = true ∧ yieldsY P (fun v u' => v = vs.getD i undef ∧ Below u.heap.size u u') ((execOp b.eval o).run P u) ∨ Region.wanted o (yielded l.toArray b.tmps) = false ∧ vs.getD i undef = undef)
    (hend : ∀ u, Below w.heap.size w.drew u → Q .normal (putAll l.toArray vs l.length a) u) : (Code.region id l.toArray true).wp P Q a w := by
  refine wp_region_inv hmix (IsVal vs) (fun _ u => Below w.heap.size w.drew u) htidy (Below.refl _ _) ?_ ?_
  · intro i o b u come ho _ _ hr hI hold hnew
    have hb : w.heap.size ≤ u.heap.size := hI.size
    rcases hop i o b u ho hI ⟨fun t ht => hold t (base_of ht), fun j t h1 h2 => hnew j t (hr j h1) h2⟩ with ⟨h1, h2⟩ | ⟨h1, h2⟩
    · refine .inl ⟨h1, ?_⟩
      revert h2
      generalize (execOp b.eval o).run P u = r
      intro h2
      cases r with
      | ok n u' =>
        cases n <;> simp only [yieldsY] at h2 ⊢
        · exact ⟨hI.trans (h2.2.mono hb), h2.1, fun _ _ _ h => h⟩
        all_goals first
          | exact ⟨hI.trans (h2.2.mono hb), h2.1, fun _ _ _ h => h⟩
          | exact h2.mono fun e u'' ⟨v, he, h3, h4⟩ => ⟨v, he, hI.trans (h4.mono hb), h3, fun _ _ _ h => h⟩
      | halt x u' => exact h2
    · exact .inr ⟨h1, hI, h2.symm⟩
  · intro b u hI hm
    rw [met_all_list htidy hm]
    exact hend u hI

/-- The region makes new memory at most, and stores once. -/
theorem wp_region_grow_store {P : Program} {id : Nat} {l : List Oper} {Q : Exit → Act → World → Prop} {a : Act} {w : World} (hmix : P.follows .mixedOrders = true) (vs : List Value) (m : Nat) (st : World → World) (htidy : Region.tidyB l.toArray a.tmps.size = true)
    (hm : m < l.length) (hvm : vs.getD m undef = undef)
    (hop : ∀ (i : Nat) (o : Oper) (b : Act) (u : World), l[i]? = some o → i ≠ m → (Region.waitsB l m i = true → Below w.heap.size w.drew u) → Slots l a vs o b →
      Region.wanted o (yielded l.toArray b.tmps) = true ∧ yieldsY P (fun v u' => v = vs.getD i undef ∧ ((Region.waitsB l m i = true ∧ Below u.heap.size u u') ∨ u' = u)) ((execOp b.eval o).run P u) ∨ Region.wanted o (yielded l.toArray b.tmps) = false ∧ vs.getD i undef = undef)
    (hstore : ∀ (o : Oper) (b : Act) (u : World), l[m]? = some o → Below w.heap.size w.drew u → Slots l a vs o b → Region.wanted o (yielded l.toArray b.tmps) = true ∧ (execOp b.eval o).run P u = .ok .skip (st u))
    (hend : ∀ u, Below w.heap.size w.drew u → Q .normal (putAll l.toArray vs l.length a) (st u)) : (Code.region id l.toArray true).wp P Q a w := by
  refine wp_region_inv hmix (IsVal vs) (fun come u => ∃ v, Below w.heap.size w.drew v ∧ ((¬ come m ∧ u = v) ∨ (come m ∧ u = st v))) htidy ⟨w.drew, Below.refl _ _, .inl ⟨fun h => h, rfl⟩⟩ ?_ ?_
  · rintro i o b u come ho hn hC hr ⟨v0, hv0, hI⟩ hold hnew
    have hs : Slots l a vs o b := ⟨fun t ht => hold t (base_of ht), fun j t h1 h2 => hnew j t (hr j h1) h2⟩
    by_cases e : i = m
    · subst e
      rcases hI with ⟨_, rfl⟩ | ⟨h, _⟩
      · obtain ⟨h1, h2⟩ := hstore o b u ho hv0 hs
        refine .inl ⟨h1, ?_⟩
        rw [h2]
        exact ⟨⟨u, hv0, .inr ⟨.inl rfl, rfl⟩⟩, hvm.symm, fun _ _ _ h => h⟩
      · exact absurd h hn
    · have hpre : Region.waitsB l m i = true → ¬ come m := fun h => not_yet hC h hn
      have keep : ∃ v, Below w.heap.size w.drew v ∧ ((¬ (m = i ∨ come m) ∧ u = v) ∨ ((m = i ∨ come m) ∧ u = st v)) := by
        rcases hI with ⟨h, rfl⟩ | ⟨h, rfl⟩
        · exact ⟨_, hv0, .inl ⟨fun h' => h'.elim (fun e' => e e'.symm) h, rfl⟩⟩
        · exact ⟨_, hv0, .inr ⟨.inr h, rfl⟩⟩
      have grown : ∀ u', Region.waitsB l m i = true → Below u.heap.size u u' → ∃ v, Below w.heap.size w.drew v ∧ ((¬ (m = i ∨ come m) ∧ u' = v) ∨ ((m = i ∨ come m) ∧ u' = st v)) := by
        intro u' h hb
        have hcm := hpre h
        rcases hI with ⟨_, rfl⟩ | ⟨h', _⟩
        · have hsz : w.heap.size ≤ u.heap.size := hv0.size
          exact ⟨u', hv0.trans (hb.mono hsz), .inl ⟨fun h' => h'.elim (fun e' => e e'.symm) hcm, rfl⟩⟩
        · exact absurd h' hcm
      have hgo := hop i o b u ho e (fun h => by
        rcases hI with ⟨_, rfl⟩ | ⟨h', _⟩
        · exact hv0
        · exact absurd h' (hpre h)) hs
      rcases hgo with ⟨h1, h2⟩ | ⟨h1, h2⟩
      · refine .inl ⟨h1, ?_⟩
        revert h2
        generalize (execOp b.eval o).run P u = r
        intro h2
        have fin : ∀ v u', v = vs.getD i undef ∧ ((Region.waitsB l m i = true ∧ Below u.heap.size u u') ∨ u' = u) → (∃ v, Below w.heap.size w.drew v ∧ ((¬ (m = i ∨ come m) ∧ u' = v) ∨ ((m = i ∨ come m) ∧ u' = st v))) ∧ IsVal vs i v u' ∧ ∀ j x, come j → IsVal vs j x u → IsVal vs j x u' := by
          rintro v u' ⟨h3, h4 | rfl⟩
          · exact ⟨grown u' h4.1 h4.2, h3, fun _ _ _ h => h⟩
          · exact ⟨keep, h3, fun _ _ _ h => h⟩
        cases r with
        | ok n u' =>
          cases n <;> simp only [yieldsY] at h2 ⊢
          all_goals first
            | exact fin _ _ h2
            | exact h2.mono fun e u'' ⟨v, he, h3⟩ => ⟨v, he, fin _ _ h3⟩
        | halt x u' => exact h2
      · exact .inr ⟨h1, keep, h2.symm⟩
  · rintro b u ⟨v, hv, hI⟩ hmet
    rw [met_all_list htidy hmet]
    rcases hI with ⟨h, _⟩ | ⟨_, rfl⟩
    · exact absurd hm h
    · exact hend v hv
/-- How an operation ends: a value in the same world; a call that makes new memory at most. -/
theorem ends_value {P : Program} {c : Value} {A : World → Prop} {u : World} {r : Result Next} (hr : r = .ok (.value c) u) : yieldsY P (fun v u' => v = c ∧ (A u' ∨ u' = u)) r := by rw [hr]; exact ⟨rfl, .inr rfl⟩
theorem ends_value' {P : Program} {c : Value} {u : World} {r : Result Next} (hr : r = .ok (.value c) u) : yieldsY P (fun v u' => v = c ∧ Below u.heap.size u u') r := by rw [hr]; exact ⟨rfl, Below.refl _ _⟩
theorem ends_call {P : Program} {c : Value} {A : Prop} (hA : A) {u : World} {f : FuncId} {args : Array Value} {r : Result Next} (hr : r = .ok (.enter f args) u)
    (h : Calls P f args u fun e u' => e = .returned c ∧ Below u.heap.size u u') : yieldsY P (fun v u' => v = c ∧ ((A ∧ Below u.heap.size u u') ∨ u' = u)) r := by
  rw [hr]; exact h.mono fun e u' ⟨he, hb⟩ => ⟨c, he, rfl, .inl ⟨hA, hb⟩⟩
theorem ends_call' {P : Program} {c : Value} {u : World} {f : FuncId} {args : Array Value} {r : Result Next} (hr : r = .ok (.enter f args) u)
    (h : Calls P f args u fun e u' => e = .returned c ∧ Below u.heap.size u u') : yieldsY P (fun v u' => v = c ∧ Below u.heap.size u u') r := by
  rw [hr]; exact h.mono fun e u' ⟨he, hb⟩ => ⟨c, he, rfl, hb⟩
end Go.Proofs.Ytmeafeomfblncaa
