/- The frame behind a region whose operations yield these values. Nothing of the program is in here. -/
import Derived.Test.YtmeafeomfblncaaCkAny
namespace Go.Proofs.Ytmeafeomfblncaa
open Go.RowKit

def putAll (ops : Array Oper) (vs : List Value) : Nat → Act → Act
  | 0, a => a
  | n + 1, a => (putAll ops vs n a).put (dstAt ops n) (vs.getD n undef)
def IsVal (vs : List Value) (i : Nat) (v : Value) (_ : World) : Prop := v = vs.getD i undef
theorem met_unique {ops : Array Oper} {vs : List Value} {a b b' : Act} {u u' : World} (h1 : Met ops (IsVal vs) a (fun i => i < ops.size) b u) (h2 : Met ops (IsVal vs) a (fun i => i < ops.size) b' u') : b = b' := by
  have hd : b.defers = b'.defers := h1.defers.trans h2.defers.symm
  have ht : b.tmps = b'.tmps := by
    refine Array.ext (h1.size.trans h2.size.symm) fun t ht1 ht2 => ?_
    have e : b.tmps.getD t undef = b'.tmps.getD t undef := by
      by_cases hx : ∃ j, dstAt ops j = some t
      · obtain ⟨j, hj⟩ := hx
        have hlt := dst_lt hj
        exact (h1.new j t hlt hj).trans (h2.new j t hlt hj).symm
      · exact (h1.old t fun j _ hj => hx ⟨j, hj⟩).trans (h2.old t fun j _ hj => hx ⟨j, hj⟩).symm
    simpa [Array.getD_eq_getD_getElem?, ht1, ht2] using e
  cases b; cases b'; simp only at hd ht; subst hd; subst ht; rfl
theorem putAll_met {ops : Array Oper} {vs : List Value} {a : Act} (u : World) (htidy : Region.tidyB ops a.tmps.size = true) : ∀ n, n ≤ ops.size → Met ops (IsVal vs) a (fun i => i < n) (putAll ops vs n a) u
  | 0, _ => ⟨rfl, rfl, fun _ _ => rfl, fun i _ hi _ => absurd hi (Nat.not_lt_zero i)⟩
  | n + 1, hn => by
    obtain ⟨o, ho⟩ : ∃ o, ops[n]? = some o := ⟨_, Array.getElem?_eq_getElem hn⟩
    have hdo : dstAt ops n = o.dst := by unfold dstAt; rw [ho]; rfl
    have m := met_put (F := IsVal vs) (G := fun _ _ => True) (u' := u) htidy (fun _ _ _ _ h _ => h) (putAll_met u htidy n (by omega)) ho (v := vs.getD n undef) trivial rfl
    rw [← hdo] at m
    exact ⟨m.defers, m.size, fun t ht => m.old t fun j hj => ht j (by rcases hj with rfl | hj <;> omega), fun j t hj hd => m.new j t (by omega) hd⟩
theorem met_all {ops : Array Oper} {vs : List Value} {a b : Act} {u : World} (htidy : Region.tidyB ops a.tmps.size = true) (h : Met ops (IsVal vs) a (fun i => i < ops.size) b u) : b = putAll ops vs ops.size a :=
  met_unique h (putAll_met u htidy ops.size (Nat.le_refl _))
theorem isVal_of {vs : List Value} {i : Nat} {v c : Value} {u : World} (hv : IsVal vs i v u) (h : vs.getD i undef = c) : v = c := Eq.trans hv h

end Go.Proofs.Ytmeafeomfblncaa
