/- A region that draws its order and makes rows: the frame behind it, with the values that came up. Nothing of the program is in here. -/
import Derived.Test.YteijemjbpfkghaaIpGrow
namespace Go.Proofs.Yteijemjbpfkghaa
open Go.RowKit

/-- What came up in each slot. -/
def upOf (l : List Oper) (b : Act) : List Value := (List.range l.length).map fun i => match dstAt l.toArray i with | some t => b.tmps.getD t undef | none => undef
theorem upOf_length (l : List Oper) (b : Act) : (upOf l b).length = l.length := by unfold upOf; rw [List.length_map, List.length_range]
theorem upOf_at {l : List Oper} {b : Act} {i : Nat} {t : Tmp} (hi : i < l.length) (hd : dstAt l.toArray i = some t) : (upOf l b).getD i undef = b.tmps.getD t undef := by
  unfold upOf
  rw [List.getD_eq_getElem?_getD, List.getElem?_map, List.getElem?_range hi]
  simp [hd]
theorem wp_region_vals {P : Program} {id : Nat} {l : List Oper} {Q : Exit → Act → World → Prop} {a : Act} {w : World} (hmix : P.follows .mixedOrders = true) (vs : List (Value ⊕ List Value))
    (htidy : Region.tidyB l.toArray a.tmps.size = true)
    (hop : ∀ (i : Nat) (o : Oper) (b : Act) (u : World), l[i]? = some o → Below w.heap.size w.drew u → (∀ t, (∀ i, dstAt l.toArray i ≠ some t) → b.tmps.getD t undef = a.tmps.getD t undef) →
      (∀ j t, (o.after.any fun e => Region.binds .any e && e.on == j) = true → dstAt l.toArray j = some t → ValIs vs j (b.tmps.getD t undef) u) →
      (Region.wanted o (yielded l.toArray b.tmps) = true ∧ yieldsUpon P (fun u u' => Below u.heap.size u u') (ValIs vs i) u ((execOp b.eval o).run P u)) ∨ (Region.wanted o (yielded l.toArray b.tmps) = false ∧ ValIs vs i undef u))
    (hend : ∀ xs u, xs.length = l.length → Below w.heap.size w.drew u → (∀ i t, i < l.length → dstAt l.toArray i = some t → ValIs vs i (xs.getD i undef) u) → Q .normal (putAll l.toArray xs l.length a) u) : (Code.region id l.toArray true).wp P Q a w := by
  refine wp_region_values hmix (ValIs vs) (fun u u' => Below u.heap.size u u') htidy (fun i v u u' h hb => valIs_on _ i v u u' h hb) (fun u => Below.refl _ _) (fun a b c h h' => h.trans (h'.mono h.size)) (fun i o b u ho hG => hop i o b u ho hG) ?_
  intro b u hG hm
  have e : b = putAll l.toArray (upOf l b) l.length a := met_all_list (vs := upOf l b) htidy (u := u) ⟨hm.defers, hm.size, hm.old, fun i t hi hd => (upOf_at hi hd).symm⟩
  rw [e]
  refine hend _ u (upOf_length l b) hG fun i t hi hd => ?_
  rw [upOf_at hi hd]
  exact hm.new i t hi hd
end Go.Proofs.Yteijemjbpfkghaa
