/- A region that draws its order, makes one variable and stores into it, and else leaves memory as it is. Nothing of the program is in here. -/
import Derived.Test.YtfppjpcolohmfaaIpGrow
namespace Go.Proofs.Ytfppjpcolohmfaa
open Go.RowKit

def Region.directB (l : List Oper) (m i : Nat) : Bool := match l[m]? with
  | some o => o.after.any fun e => Region.binds .any e && e.on == i
  | none => false
theorem wp_region_alloc {P : Program} {id : Nat} {l : List Oper} {Q : Exit → Act → World → Prop} {a : Act} {w : World} (hmix : P.follows .mixedOrders = true) (vs : List Value) (ia m : Nat) (u1 u2 : World) (htidy : Region.tidyB l.toArray a.tmps.size = true)
    (hm : m < l.length) (hne : ia ≠ m) (hw : Region.directB l m ia = true) (hvm : vs.getD m undef = undef)
    (hop : ∀ (i : Nat) (o : Oper) (b : Act) (u : World), l[i]? = some o → i ≠ ia → i ≠ m → Slots l a vs o b →
      Region.wanted o (yielded l.toArray b.tmps) = true ∧ yieldsY P (fun v u' => v = vs.getD i undef ∧ u' = u) ((execOp b.eval o).run P u))
    (halloc : ∀ (o : Oper) (b : Act), l[ia]? = some o → Slots l a vs o b → Region.wanted o (yielded l.toArray b.tmps) = true ∧ (execOp b.eval o).run P w.drew = .ok (.value (vs.getD ia undef)) u1)
    (hstore : ∀ (o : Oper) (b : Act), l[m]? = some o → Slots l a vs o b → Region.wanted o (yielded l.toArray b.tmps) = true ∧ (execOp b.eval o).run P u1 = .ok .skip u2)
    (hend : Q .normal (putAll l.toArray vs l.length a) u2) : (Code.region id l.toArray true).wp P Q a w := by
  refine wp_region_inv hmix (IsVal vs) (fun come u => (¬ come ia ∧ ¬ come m ∧ u = w.drew) ∨ (come ia ∧ ¬ come m ∧ u = u1) ∨ (come ia ∧ come m ∧ u = u2)) htidy (.inl ⟨fun h => h, fun h => h, rfl⟩) ?_ ?_
  · rintro i o b u come ho hn _ hr hI hold hnew
    have hs : Slots l a vs o b := ⟨fun t ht => hold t (base_of ht), fun j t h1 h2 => hnew j t (hr j h1) h2⟩
    by_cases e : i = m
    · subst e
      have hia : come ia := by
        unfold Region.directB at hw
        rw [ho] at hw
        exact hr ia hw
      rcases hI with ⟨h, _, _⟩ | ⟨_, _, rfl⟩ | ⟨_, h, _⟩
      · exact absurd hia h
      · obtain ⟨h1, h2⟩ := hstore o b ho hs
        refine .inl ⟨h1, ?_⟩
        rw [h2]
        exact ⟨.inr (.inr ⟨.inr hia, .inl rfl, rfl⟩), hvm.symm, fun _ _ _ h => h⟩
      · exact absurd h hn
    · by_cases e2 : i = ia
      · subst e2
        rcases hI with ⟨_, hc, rfl⟩ | ⟨h, _, _⟩ | ⟨h, _, _⟩
        · obtain ⟨h1, h2⟩ := halloc o b ho hs
          refine .inl ⟨h1, ?_⟩
          rw [h2]
          exact ⟨.inr (.inl ⟨.inl rfl, fun h => h.elim (fun x => e x.symm) hc, rfl⟩), rfl, fun _ _ _ h => h⟩
        · exact absurd h hn
        · exact absurd h hn
      · obtain ⟨h1, h2⟩ := hop i o b u ho e2 e hs
        have keep : (¬ (ia = i ∨ come ia) ∧ ¬ (m = i ∨ come m) ∧ u = w.drew) ∨ ((ia = i ∨ come ia) ∧ ¬ (m = i ∨ come m) ∧ u = u1) ∨ ((ia = i ∨ come ia) ∧ (m = i ∨ come m) ∧ u = u2) := by
          rcases hI with ⟨h3, h4, h5⟩ | ⟨h3, h4, h5⟩ | ⟨h3, h4, h5⟩
          · exact .inl ⟨fun h => h.elim (fun x => e2 x.symm) h3, fun h => h.elim (fun x => e x.symm) h4, h5⟩
          · exact .inr (.inl ⟨.inr h3, fun h => h.elim (fun x => e x.symm) h4, h5⟩)
          · exact .inr (.inr ⟨.inr h3, .inr h4, h5⟩)
        refine .inl ⟨h1, ?_⟩
        revert h2
        generalize (execOp b.eval o).run P u = r
        intro h2
        have fin : ∀ v u', v = vs.getD i undef ∧ u' = u → ((¬ (ia = i ∨ come ia) ∧ ¬ (m = i ∨ come m) ∧ u' = w.drew) ∨ ((ia = i ∨ come ia) ∧ ¬ (m = i ∨ come m) ∧ u' = u1) ∨ ((ia = i ∨ come ia) ∧ (m = i ∨ come m) ∧ u' = u2)) ∧ IsVal vs i v u' ∧ ∀ j x, come j → IsVal vs j x u → IsVal vs j x u' := by
          rintro v u' ⟨h3, rfl⟩
          exact ⟨keep, h3, fun _ _ _ h => h⟩
        cases r with
        | ok n u' =>
          cases n <;> simp only [yieldsY] at h2 ⊢
          all_goals first
            | exact fin _ _ h2
            | exact h2.mono fun e u'' ⟨v, he, h3⟩ => ⟨v, he, fin _ _ h3⟩
        | halt x u' => exact h2
  · rintro b u hI hmet
    rw [met_all_list htidy hmet]
    rcases hI with ⟨_, h, _⟩ | ⟨_, h, _⟩ | ⟨_, _, rfl⟩
    · exact absurd hm h
    · exact absurd hm h
    · exact hend
theorem rests_value {P : Program} {c : Value} {u : World} {r : Result Next} (hr : r = .ok (.value c) u) : yieldsY P (fun v u' => v = c ∧ u' = u) r := by rw [hr]; exact ⟨rfl, rfl⟩
theorem rests_call {P : Program} {c : Value} {u : World} {f : FuncId} {args : Array Value} {r : Result Next} (hr : r = .ok (.enter f args) u)
    (h : Calls P f args u fun e u' => e = .returned c ∧ u' = u) : yieldsY P (fun v u' => v = c ∧ u' = u) r := by
  rw [hr]; exact h.mono fun e u' ⟨he, hb⟩ => ⟨c, he, rfl, hb⟩
end Go.Proofs.Ytfppjpcolohmfaa
