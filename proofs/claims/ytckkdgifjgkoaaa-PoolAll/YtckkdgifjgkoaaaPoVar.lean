/- A region that draws its order, calls what makes new memory, makes one variable and stores into it. Nothing of the program is in here. -/
import Derived.Test.YtckkdgifjgkoaaaPoNew
namespace Go.Proofs.Ytckkdgifjgkoaaa
open Go.ChangeShapes Go.WideShapes Go.ChangeAt Go.RowKit

/-- What stands in the slots that o reads, but the variable's. -/
structure SlotsX (l : List Oper) (a : Act) (vs : List Value) (ia : Nat) (o : Oper) (b : Act) : Prop where
  base : ∀ t, Region.baseB l t = true → b.tmps.getD t undef = a.tmps.getD t undef
  dep : ∀ j t, j ≠ ia → (o.after.any fun e => Region.binds .any e && e.on == j) = true → dstAt l.toArray j = some t → b.tmps.getD t undef = vs.getD j undef
theorem wp_region_var {P : Program} {id : Nat} {l : List Oper} {Q : Exit → Act → World → Prop} {a : Act} {w : World} (hmix : P.follows .mixedOrders = true) (vs : List Value) (ia m ta : Nat) (z c : List Value)
    (htidy : Region.tidyB l.toArray a.tmps.size = true) (hia : ia < l.length) (hm : m < l.length) (hne : ia ≠ m) (hlen : vs.length = l.length) (hta : dstAt l.toArray ia = some ta) (hwait : Region.directB l m ia = true) (hvm : vs.getD m undef = undef) (hdm : dstAt l.toArray m = none)
    (hop : ∀ (i : Nat) (o : Oper) (b : Act) (u : World), l[i]? = some o → i ≠ ia → i ≠ m → Below w.heap.size w.drew u → SlotsX l a vs ia o b →
      Region.wanted o (yielded l.toArray b.tmps) = true ∧ yieldsY P (fun v u' => v = vs.getD i undef ∧ Below u.heap.size u u') ((execOp b.eval o).run P u))
    (halloc : ∀ (o : Oper) (b : Act) (u : World), l[ia]? = some o → Region.wanted o (yielded l.toArray b.tmps) = true ∧ ∃ t, (execOp b.eval o).run P u = .ok (.value (.pointer (some ⟨u.heap.size, 0, none⟩))) (u.alloc (.cells z.toArray t)))
    (hstore : ∀ (o : Oper) (b : Act) (u : World) (p : Nat), l[m]? = some o → SlotsX l a vs ia o b → b.tmps.getD ta undef = .pointer (some ⟨p, 0, none⟩) → Row u p z →
      Region.wanted o (yielded l.toArray b.tmps) = true ∧ ∃ u', (execOp b.eval o).run P u = .ok .skip u' ∧ Row u' p c ∧ Below p u u')
    (hend : ∀ p u, Below w.heap.size w.drew u → w.heap.size ≤ p → Row u p c → Q .normal (putAll l.toArray (vs.set ia (.pointer (some ⟨p, 0, none⟩))) l.length a) u) : (Code.region id l.toArray true).wp P Q a w := by
  refine wp_region_invb hmix (fun i v _ => i ≠ ia → v = vs.getD i undef)
    (fun come b u => Below w.heap.size w.drew u ∧ b.tmps.size = a.tmps.size ∧ (come m → come ia) ∧ (come ia → ∃ p, b.tmps.getD ta undef = .pointer (some ⟨p, 0, none⟩) ∧ w.heap.size ≤ p ∧ ((¬ come m ∧ Row u p z) ∨ (come m ∧ Row u p c)))) htidy ⟨Below.refl _ _, rfl, fun h => h, fun h => h.elim⟩ ?_ ?_
  · rintro i o b u come ho hn hC hr ⟨hb, hsz, hmi, hp⟩ hold hnew
    have hdi : dstAt l.toArray i = o.dst := by unfold dstAt; rw [show l.toArray[i]? = some o by simpa using ho]; rfl
    have hs : SlotsX l a vs ia o b := ⟨fun t ht => hold t (base_of ht), fun j t hj k1 k2 => hnew j t (hr j k1) k2 hj⟩
    by_cases e1 : i = ia
    · subst e1
      obtain ⟨k1, t, k2⟩ := halloc o b u ho
      have hcm : ¬ come m := fun h => hn (hmi h)
      have hal : Below u.heap.size u (u.alloc (.cells z.toArray t)) := (Below.refl _ _).alloc (Nat.le_refl _) _
      refine .inl ⟨k1, ?_⟩
      rw [k2]
      refine ⟨⟨hb.trans (hal.mono hb.size), (size_put _ _ _).trans hsz, fun _ => .inl rfl, fun _ => ⟨u.heap.size, ?_, hb.size, .inl ⟨fun h => h.elim (fun x => hne x.symm) hcm, row_new u z t⟩⟩⟩, fun h => absurd rfl h, fun j x _ h => h⟩
      rw [show o.dst = some ta from hdi.symm.trans hta]
      exact getD_put_same _ _ _ (by rw [hsz]; exact tidy_lt htidy hta)
    · by_cases e2 : i = m
      · subst e2
        have hcia : come ia := by
          unfold Region.directB at hwait
          rw [ho] at hwait
          exact hr ia hwait
        obtain ⟨p, p1, p2, p3⟩ := hp hcia
        have hz : Row u p z := by
          rcases p3 with ⟨_, h⟩ | ⟨h, _⟩
          · exact h
          · exact absurd h hn
        obtain ⟨k1, u', k2, k3, k4⟩ := hstore o b u p ho hs p1 hz
        refine .inl ⟨k1, ?_⟩
        rw [k2]
        refine ⟨⟨hb.trans (k4.mono (by have := hb.size; simpa using p2)), (size_put _ _ _).trans hsz, fun _ => .inr hcia, fun _ => ⟨p, ?_, p2, .inr ⟨.inl rfl, k3⟩⟩⟩, fun _ => hvm.symm, fun j x _ h => h⟩
        rw [show o.dst = none from hdi.symm.trans hdm]
        exact p1
      · obtain ⟨k1, k2⟩ := hop i o b u ho e1 e2 hb hs
        refine .inl ⟨k1, ?_⟩
        have fin : ∀ v u', v = vs.getD i undef ∧ Below u.heap.size u u' → (Below w.heap.size w.drew u' ∧ (b.put o.dst v).tmps.size = a.tmps.size ∧ ((m = i ∨ come m) → (ia = i ∨ come ia)) ∧ ((ia = i ∨ come ia) → ∃ p, (b.put o.dst v).tmps.getD ta undef = .pointer (some ⟨p, 0, none⟩) ∧ w.heap.size ≤ p ∧ ((¬ (m = i ∨ come m) ∧ Row u' p z) ∨ ((m = i ∨ come m) ∧ Row u' p c)))) ∧ (i ≠ ia → v = vs.getD i undef) ∧ ∀ j x, come j → (j ≠ ia → x = vs.getD j undef) → (j ≠ ia → x = vs.getD j undef) := by
          rintro v u' ⟨h1, h2⟩
          refine ⟨⟨hb.trans (h2.mono (by have := hb.size; simpa using this)), (size_put _ _ _).trans hsz, fun h => .inr (hmi (h.resolve_left fun x => e2 x.symm)), fun h => ?_⟩, fun _ => h1, fun j x _ h => h⟩
          obtain ⟨p, p1, p2, p3⟩ := hp (h.resolve_left fun x => e1 x.symm)
          refine ⟨p, ?_, p2, ?_⟩
          · rw [getD_put_other _ _ _ _ (fun h => e1 (tidy_once htidy (hdi.trans h) hta).symm)]
            exact p1
          · rcases p3 with ⟨h3, h4⟩ | ⟨h3, h4⟩
            · exact .inl ⟨fun h => h.elim (fun x => e2 x.symm) h3, h4.on' h2⟩
            · exact .inr ⟨.inr h3, h4.on' h2⟩
        revert k2
        generalize (execOp b.eval o).run P u = r
        intro k2
        cases r with
        | ok n u' =>
          cases n <;> simp only [yieldsY] at k2 ⊢
          all_goals first
            | exact fin _ _ k2
            | exact k2.mono fun e u'' ⟨v, he, h3⟩ => ⟨v, he, fin _ _ h3⟩
        | halt x u' => exact k2
  · rintro b u ⟨hb, hsz, _, hp⟩ hmet
    obtain ⟨p, p1, p2, p3⟩ := hp hia
    have hc : Row u p c := by
      rcases p3 with ⟨h, _⟩ | ⟨_, h⟩
      · exact absurd hm h
      · exact h
    have e : b = putAll l.toArray (vs.set ia (.pointer (some ⟨p, 0, none⟩))) l.length a := met_all_list (vs := vs.set ia (.pointer (some ⟨p, 0, none⟩))) htidy (u := u) ⟨hmet.defers, hmet.size, hmet.old, fun i t hi hd => by
      show b.tmps.getD t undef = (vs.set ia _).getD i undef
      by_cases h : i = ia
      · subst h
        rw [hta] at hd
        obtain rfl := Option.some.inj hd
        rw [p1, List.getD_eq_getElem?_getD, List.getElem?_set_self (by rw [hlen]; exact hi)]
        rfl
      · rw [List.getD_eq_getElem?_getD, List.getElem?_set_ne (fun x => h x.symm), ← List.getD_eq_getElem?_getD]
        exact hmet.new i t hi hd h⟩
    rw [e]
    exact hend p u hb p2 hc
end Go.Proofs.Ytckkdgifjgkoaaa
