/- Regions that draw their order and hold calls that change memory. Nothing of the program is in here. -/
import Derived.Test.YtbncjinkojeioaaSpReg
namespace Go.Proofs.Ytbncjinkojeioaa
open Go.ChangeShapes Go.WideShapes Go.ChangeAt Go.RowKit

/-- A region that holds one call, number m, that changes memory: all others read what was there, or what is there behind it. -/
theorem wp_region_one {P : Program} {id : Nat} {l : List Oper} {Q : Exit → Act → World → Prop} {a : Act} {w : World} (hmix : P.follows .mixedOrders = true) (vs : List Value) (m : Nat) (J : World → Prop) (htidy : Region.tidyB l.toArray a.tmps.size = true)
    (hm : m < l.length)
    (hop : ∀ (i : Nat) (o : Oper) (b : Act) (u : World), l[i]? = some o → i ≠ m → (Region.waitsB l m i = true → u = w.drew) → (u = w.drew ∨ J u) → Slots l a vs o b →
      Region.wanted o (yielded l.toArray b.tmps) = true ∧ yieldsY P (fun v u' => v = vs.getD i undef ∧ u' = u) ((execOp b.eval o).run P u))
    (hcall : ∀ (o : Oper) (b : Act), l[m]? = some o → Slots l a vs o b → Region.wanted o (yielded l.toArray b.tmps) = true ∧ yieldsY P (fun v u' => v = vs.getD m undef ∧ J u') ((execOp b.eval o).run P w.drew))
    (hend : ∀ u, J u → Q .normal (putAll l.toArray vs l.length a) u) : (Code.region id l.toArray true).wp P Q a w := by
  refine wp_region_inv hmix (IsVal vs) (fun come u => (¬ come m ∧ u = w.drew) ∨ (come m ∧ J u)) htidy (.inl ⟨fun h => h, rfl⟩) ?_ ?_
  · rintro i o b u come ho hn hC hr hI hold hnew
    have hs : Slots l a vs o b := ⟨fun t ht => hold t (base_of ht), fun j t k1 k2 => hnew j t (hr j k1) k2⟩
    have go : ∀ (R : Value → World → Prop), (∀ v u', R v u' → ((¬ (m = i ∨ come m) ∧ u' = w.drew) ∨ ((m = i ∨ come m) ∧ J u')) ∧ v = vs.getD i undef) → yieldsY P R ((execOp b.eval o).run P u) →
        yieldsY P (fun v u' => ((¬ (m = i ∨ come m) ∧ u' = w.drew) ∨ ((m = i ∨ come m) ∧ J u')) ∧ IsVal vs i v u' ∧ ∀ j x, come j → IsVal vs j x u → IsVal vs j x u') ((execOp b.eval o).run P u) := by
      intro R hR
      generalize (execOp b.eval o).run P u = r
      intro hy
      have fin : ∀ v u', R v u' → ((¬ (m = i ∨ come m) ∧ u' = w.drew) ∨ ((m = i ∨ come m) ∧ J u')) ∧ IsVal vs i v u' ∧ ∀ j x, come j → IsVal vs j x u → IsVal vs j x u' := fun v u' h => ⟨(hR v u' h).1, (hR v u' h).2, fun _ _ _ h => h⟩
      cases r with
      | ok n u' =>
        cases n <;> simp only [yieldsY] at hy ⊢
        all_goals first
          | exact fin _ _ hy
          | exact hy.mono fun e u'' ⟨v, he, h3⟩ => ⟨v, he, fin _ _ h3⟩
      | halt x u' => exact hy
    by_cases e : i = m
    · subst e
      rcases hI with ⟨_, rfl⟩ | ⟨h, _⟩
      · obtain ⟨k1, k2⟩ := hcall o b ho hs
        refine .inl ⟨k1, go _ ?_ k2⟩
        rintro v u' ⟨rfl, hJ'⟩
        exact ⟨.inr ⟨.inl rfl, hJ'⟩, rfl⟩
      · exact absurd h hn
    · obtain ⟨k1, k2⟩ := hop i o b u ho e (fun h => by
        rcases hI with ⟨_, h1⟩ | ⟨h1, _⟩
        · exact h1
        · exact absurd h1 (not_yet hC h hn)) (by
        rcases hI with ⟨_, h1⟩ | ⟨_, h1⟩
        · exact .inl h1
        · exact .inr h1) hs
      refine .inl ⟨k1, go _ ?_ k2⟩
      rintro v u' ⟨rfl, rfl⟩
      refine ⟨?_, rfl⟩
      rcases hI with ⟨h1, h2⟩ | ⟨h1, h2⟩
      · exact .inl ⟨fun h => h.elim (fun x => e x.symm) h1, h2⟩
      · exact .inr ⟨.inr h1, h2⟩
  · rintro b u hI hmet
    rw [met_all_list htidy hmet]
    rcases hI with ⟨h, _⟩ | ⟨_, h⟩
    · exact absurd hm h
    · exact hend u h
/-- A region that holds two calls, numbers i1 and i2, which may come in either order: J tells how memory is before and behind each. -/
theorem wp_region_two {P : Program} {id : Nat} {l : List Oper} {Q : Exit → Act → World → Prop} {a : Act} {w : World} (hmix : P.follows .mixedOrders = true) (vs : List Value) (i1 i2 : Nat) (J : Bool → Bool → World → Prop) (htidy : Region.tidyB l.toArray a.tmps.size = true)
    (h1 : i1 < l.length) (h2 : i2 < l.length) (hne : i1 ≠ i2) (h0 : J false false w.drew)
    (hop : ∀ (i : Nat) (o : Oper) (b : Act) (u : World) (p q : Bool), l[i]? = some o → i ≠ i1 → i ≠ i2 → J p q u → Slots l a vs o b →
      Region.wanted o (yielded l.toArray b.tmps) = true ∧ yieldsY P (fun v u' => v = vs.getD i undef ∧ u' = u) ((execOp b.eval o).run P u))
    (hop1 : ∀ (o : Oper) (b : Act) (u : World) (q : Bool), l[i1]? = some o → J false q u → Slots l a vs o b →
      Region.wanted o (yielded l.toArray b.tmps) = true ∧ yieldsY P (fun v u' => v = vs.getD i1 undef ∧ J true q u') ((execOp b.eval o).run P u))
    (hop2 : ∀ (o : Oper) (b : Act) (u : World) (p : Bool), l[i2]? = some o → J p false u → Slots l a vs o b →
      Region.wanted o (yielded l.toArray b.tmps) = true ∧ yieldsY P (fun v u' => v = vs.getD i2 undef ∧ J p true u') ((execOp b.eval o).run P u))
    (hend : ∀ u, J true true u → Q .normal (putAll l.toArray vs l.length a) u) : (Code.region id l.toArray true).wp P Q a w := by
  refine wp_region_inv hmix (IsVal vs) (fun come u => ∃ p q : Bool, (p = true ↔ come i1) ∧ (q = true ↔ come i2) ∧ J p q u) htidy ⟨false, false, by simp, by simp, h0⟩ ?_ ?_
  · rintro i o b u come ho hn _ hr ⟨p, q, hp, hq, hJ⟩ hold hnew
    have hs : Slots l a vs o b := ⟨fun t ht => hold t (base_of ht), fun j t k1 k2 => hnew j t (hr j k1) k2⟩
    have go : ∀ (R : Value → World → Prop), (∀ v u', R v u' → (∃ p q : Bool, (p = true ↔ (i1 = i ∨ come i1)) ∧ (q = true ↔ (i2 = i ∨ come i2)) ∧ J p q u') ∧ v = vs.getD i undef) → yieldsY P R ((execOp b.eval o).run P u) →
        yieldsY P (fun v u' => (∃ p q : Bool, (p = true ↔ (i1 = i ∨ come i1)) ∧ (q = true ↔ (i2 = i ∨ come i2)) ∧ J p q u') ∧ IsVal vs i v u' ∧ ∀ j x, come j → IsVal vs j x u → IsVal vs j x u') ((execOp b.eval o).run P u) := by
      intro R hR
      generalize (execOp b.eval o).run P u = r
      intro hy
      have fin : ∀ v u', R v u' → (∃ p q : Bool, (p = true ↔ (i1 = i ∨ come i1)) ∧ (q = true ↔ (i2 = i ∨ come i2)) ∧ J p q u') ∧ IsVal vs i v u' ∧ ∀ j x, come j → IsVal vs j x u → IsVal vs j x u' := fun v u' h => ⟨(hR v u' h).1, (hR v u' h).2, fun _ _ _ h => h⟩
      cases r with
      | ok n u' =>
        cases n <;> simp only [yieldsY] at hy ⊢
        all_goals first
          | exact fin _ _ hy
          | exact hy.mono fun e u'' ⟨v, he, h3⟩ => ⟨v, he, fin _ _ h3⟩
      | halt x u' => exact hy
    by_cases e1 : i = i1
    · subst e1
      have hp0 : p = false := by cases p with | false => rfl | true => exact absurd (hp.1 rfl) hn
      subst hp0
      obtain ⟨k1, k2⟩ := hop1 o b u q ho hJ hs
      refine .inl ⟨k1, go _ ?_ k2⟩
      rintro v u' ⟨rfl, hJ'⟩
      exact ⟨⟨true, q, ⟨fun _ => .inl rfl, fun _ => rfl⟩, ⟨fun h => .inr (hq.1 h), fun h => h.elim (fun h => absurd h.symm hne) hq.2⟩, hJ'⟩, rfl⟩
    · by_cases e2 : i = i2
      · subst e2
        have hq0 : q = false := by cases q with | false => rfl | true => exact absurd (hq.1 rfl) hn
        subst hq0
        obtain ⟨k1, k2⟩ := hop2 o b u p ho hJ hs
        refine .inl ⟨k1, go _ ?_ k2⟩
        rintro v u' ⟨rfl, hJ'⟩
        exact ⟨⟨p, true, ⟨fun h => .inr (hp.1 h), fun h => h.elim (fun h => absurd h hne) hp.2⟩, ⟨fun _ => .inl rfl, fun _ => rfl⟩, hJ'⟩, rfl⟩
      · obtain ⟨k1, k2⟩ := hop i o b u p q ho e1 e2 hJ hs
        refine .inl ⟨k1, go _ ?_ k2⟩
        rintro v u' ⟨rfl, rfl⟩
        exact ⟨⟨p, q, ⟨fun h => .inr (hp.1 h), fun h => h.elim (fun h => absurd h.symm e1) hp.2⟩, ⟨fun h => .inr (hq.1 h), fun h => h.elim (fun h => absurd h.symm e2) hq.2⟩, hJ⟩, rfl⟩
  · rintro b u ⟨p, q, hp, hq, hJ⟩ hmet
    rw [met_all_list htidy hmet]
    have hp1 : p = true := hp.2 h1
    have hq1 : q = true := hq.2 h2
    subst hp1
    subst hq1
    exact hend u hJ
end Go.Proofs.Ytbncjinkojeioaa
