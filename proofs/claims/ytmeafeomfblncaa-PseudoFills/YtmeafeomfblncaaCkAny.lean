/- A region whose operations come up in whatever order: what holds of each operation's value, once those that it waits for have come up, holds at the end, in every order. Nothing of the program is in here. -/
import Derived.Orders
import Derived.Below
import Derived.WalkKit
import Derived.ProofKit
namespace Go.Proofs.Ytmeafeomfblncaa
open Go.RowKit

/-- The slot that operation number i writes. -/
def dstAt (ops : Array Oper) (i : Nat) : Option Tmp := (ops[i]?).bind (·.dst)

/-- An operation that was carried out in u has yielded a value of which F holds, and the world has grown by G. -/
def yieldsUpon (P : Program) (G : World → World → Prop) (F : Value → World → Prop) (u : World) : Result Next → Prop
  | .ok (.value v) u' => G u u' ∧ F v u'
  | .ok (.enter f args) u' => Calls P f args u' fun e u'' => ∃ v, e = .returned v ∧ G u u'' ∧ F v u''
  | _ => False

/-- What has come up holds; all else is as it was. -/
structure Met (ops : Array Oper) (F : Nat → Value → World → Prop) (a : Act) (come : Nat → Prop) (b : Act) (u : World) : Prop where
  defers : b.defers = a.defers
  size : b.tmps.size = a.tmps.size
  old : ∀ t, (∀ i, come i → dstAt ops i ≠ some t) → b.tmps.getD t undef = a.tmps.getD t undef
  new : ∀ i t, come i → dstAt ops i = some t → F i (b.tmps.getD t undef) u

theorem getD_put_same (b : Act) (t : Tmp) (v : Value) (h : t < b.tmps.size) : (b.put (some t) v).tmps.getD t undef = v := by
  simp [Act.put, Array.getD_eq_getD_getElem?, h]
theorem getD_put_other (b : Act) (d : Option Tmp) (t : Tmp) (v : Value) (h : d ≠ some t) : (b.put d v).tmps.getD t undef = b.tmps.getD t undef := by
  cases d with
  | none => rfl
  | some d =>
    have hne : d ≠ t := fun e => h (by rw [e])
    simp [Act.put, Array.getD_eq_getD_getElem?, Array.getElem?_setIfInBounds_ne hne]
theorem size_put (b : Act) (d : Option Tmp) (v : Value) : (b.put d v).tmps.size = b.tmps.size := by
  cases d <;> simp [Act.put]
theorem defers_put (b : Act) (d : Option Tmp) (v : Value) : (b.put d v).defers = b.defers := by
  cases d <;> rfl

/-- Each operation waits for elder ones alone, and each slot is written once. -/
def Region.tidyB (ops : Array Oper) (n : Nat) : Bool :=
  ((List.range ops.size).all fun i => match ops[i]? with
    | some o => o.after.all fun e => !Region.binds .any e || decide (e.on < i)
    | none => true) &&
  ((List.range ops.size).all fun i => match dstAt ops i with
    | some t => decide (t < n) && (List.range ops.size).all fun j => j == i || dstAt ops j != some t
    | none => true)

theorem dst_lt {ops : Array Oper} {i : Nat} {t : Tmp} (h : dstAt ops i = some t) : i < ops.size := by
  unfold dstAt at h
  rcases Nat.lt_or_ge i ops.size with hl | hl
  · exact hl
  · rw [Array.getElem?_eq_none hl] at h; cases h
theorem tidy_after {ops : Array Oper} {n i : Nat} {o : Oper} (h : Region.tidyB ops n = true) (ho : ops[i]? = some o) : ∀ e ∈ o.after, Region.binds .any e = true → e.on < i := by
  unfold Region.tidyB at h
  rw [Bool.and_eq_true] at h
  have hi : i < ops.size := (Array.getElem?_eq_some_iff.1 ho).1
  have h1 := List.all_eq_true.1 h.1 i (List.mem_range.2 hi)
  simp only [ho] at h1
  intro e he hb
  have := Array.all_eq_true'.1 h1 e he
  rw [hb] at this
  simpa using this
theorem tidy_lt {ops : Array Oper} {n i : Nat} {t : Tmp} (h : Region.tidyB ops n = true) (hd : dstAt ops i = some t) : t < n := by
  unfold Region.tidyB at h
  rw [Bool.and_eq_true] at h
  have h1 := List.all_eq_true.1 h.2 i (List.mem_range.2 (dst_lt hd))
  simp only [hd, Bool.and_eq_true] at h1
  simpa using h1.1
theorem tidy_once {ops : Array Oper} {n i j : Nat} {t : Tmp} (h : Region.tidyB ops n = true) (hd : dstAt ops i = some t) (hj : dstAt ops j = some t) : j = i := by
  unfold Region.tidyB at h
  rw [Bool.and_eq_true] at h
  have h1 := List.all_eq_true.1 h.2 i (List.mem_range.2 (dst_lt hd))
  simp only [hd, Bool.and_eq_true] at h1
  have h2 := List.all_eq_true.1 h1.2 j (List.mem_range.2 (dst_lt hj))
  simp [hj] at h2
  exact h2

theorem yielded_of {ops : Array Oper} {b : Act} {j : Nat} {t : Tmp} {c : Bool} (hd : dstAt ops j = some t) (h : b.tmps.getD t undef = .bool c) : yielded ops b.tmps j = some c := by
  unfold dstAt at hd
  unfold yielded
  rw [hd]
  rw [Array.getD_eq_getD_getElem?] at h
  simp only [Option.bind_some]
  cases hx : b.tmps[t]? with
  | none => rw [hx] at h; simp [undef] at h
  | some x => rw [hx] at h; simp at h; rw [h]

section
variable {P : Program} {ops : Array Oper} {Q : Exit → Act → World → Prop} {a : Act} {F : Nat → Value → World → Prop} {G : World → World → Prop} {w0 : World}

theorem met_put (htidy : Region.tidyB ops a.tmps.size = true) (hst : ∀ i v u u', F i v u → G u u' → F i v u') {come : Nat → Prop} {b : Act} {u u' : World} (hm : Met ops F a come b u) {i : Nat} {o : Oper} (ho : ops[i]? = some o) {v : Value} (hG : G u u') (hF : F i v u') :
    Met ops F a (fun j => j = i ∨ come j) (b.put o.dst v) u' := by
  have hdi : dstAt ops i = o.dst := by unfold dstAt; rw [ho]; rfl
  refine ⟨(defers_put _ _ _).trans hm.defers, (size_put _ _ _).trans hm.size, fun t ht => ?_, fun j t hj hd => ?_⟩
  · rw [getD_put_other _ _ _ _ (by rw [← hdi]; exact ht i (.inl rfl))]
    exact hm.old t fun j hj => ht j (.inr hj)
  · by_cases e : j = i
    · subst e
      rw [hdi] at hd
      rw [hd, getD_put_same _ _ _ (by rw [hm.size]; exact tidy_lt htidy (hdi.trans hd))]
      exact hF
    · rcases hj with hj | hj
      · exact absurd hj e
      · rw [getD_put_other _ _ _ _ (by rw [← hdi]; intro h; exact e (tidy_once htidy h hd))]
        exact hst _ _ _ _ (hm.new j t hj hd) hG

theorem any_met (htidy : Region.tidyB ops a.tmps.size = true) (hst : ∀ i v u u', F i v u → G u u' → F i v u') (hGt : ∀ u v z, G u v → G v z → G u z)
    (hop : ∀ (i : Nat) (o : Oper) (b : Act) (u : World), ops[i]? = some o → G w0 u → b.tmps.size = a.tmps.size → (∀ t, (∀ i, dstAt ops i ≠ some t) → b.tmps.getD t undef = a.tmps.getD t undef) →
      (∀ e ∈ o.after, Region.binds .any e = true → ∀ t, dstAt ops e.on = some t → F e.on (b.tmps.getD t undef) u) →
      if Region.wanted o (yielded ops b.tmps) then yieldsUpon P G (F i) u ((execOp b.eval o).run P u) else F i undef u ∧ G u u)
    (hend : ∀ b u, G w0 u → Met ops F a (fun i => i < ops.size) b u → Q .normal b u) :
    ∀ (fuel : Nat) (listed : Array Bool) (b : Act) (u : World), listed.size = ops.size → (listed.toList.filter (fun x => !x)).length ≤ fuel → G w0 u → Met ops F a (fun i => listed.getD i false = true) b u → wpAny P .any ops Q fuel listed b u := by
  have done : ∀ (listed : Array Bool) (b : Act) (u : World), listed.size = ops.size → G w0 u → Met ops F a (fun i => listed.getD i false = true) b u → Region.ready .any ops listed = [] → Q .normal b u := by
    intro listed b u hs hG hm hr
    refine hend b u hG ?_
    have all : ∀ i, i < ops.size → listed.getD i false = true := by
      intro i
      induction i using Nat.strongRecOn with
      | _ i ih =>
        intro hi
        rcases hb : listed.getD i false with _ | _
        · exfalso
          obtain ⟨o, ho⟩ : ∃ o, ops[i]? = some o := ⟨_, Array.getElem?_eq_getElem hi⟩
          have hmem : i ∈ Region.ready .any ops listed := by
            unfold Region.ready
            rw [List.mem_filter]
            refine ⟨List.mem_range.2 hi, ?_⟩
            have hl : listed.getD i true = false := by
              rw [Array.getD_eq_getD_getElem?, Array.getElem?_eq_getElem (by omega)] at hb ⊢
              exact hb
            rw [hl, ho]
            simp only [Bool.not_false, Bool.true_and, Option.map_some, Option.getD_some]
            rw [Array.all_eq_true']
            intro e he
            cases hb : Region.binds .any e with
            | false => simp
            | true =>
              have := ih e.on (tidy_after htidy ho e he hb) (Nat.lt_trans (tidy_after htidy ho e he hb) hi)
              rw [this]; simp
          rw [hr] at hmem; cases hmem
        · rfl
    exact ⟨hm.defers, hm.size, fun t ht => hm.old t fun i hi => ht i (by
      rcases Nat.lt_or_ge i ops.size with h | h
      · exact h
      · rw [Array.getD_eq_getD_getElem?, Array.getElem?_eq_none (by omega)] at hi; cases hi), fun i t hi hd => hm.new i t (all i hi) hd⟩
  intro fuel
  induction fuel with
  | zero =>
    intro listed b u hs hf hG hm
    have hr : Region.ready .any ops listed = [] := by
      rw [List.eq_nil_iff_forall_not_mem]
      intro i hi
      unfold Region.ready at hi
      rw [List.mem_filter] at hi
      obtain ⟨h1, h2⟩ := hi
      rw [List.mem_range] at h1
      rw [Bool.and_eq_true] at h2
      have hl : listed.getD i true = false := by simpa using h2.1
      rw [Array.getD_eq_getD_getElem?, Array.getElem?_eq_getElem (by omega)] at hl
      have : listed[i]'(by omega) ∈ listed.toList.filter (fun x => !x) := by
        rw [List.mem_filter]; refine ⟨by simp, ?_⟩
        have e : listed[i]'(by omega) = false := hl
        rw [e]; rfl
      have := List.length_pos_of_mem this
      omega
    exact ⟨hr, done listed b u hs hG hm hr⟩
  | succ fuel ih =>
    intro listed b u hs hf hG hm
    refine ⟨fun hr => done listed b u hs hG hm hr, fun i hi => ?_⟩
    unfold Region.ready at hi
    rw [List.mem_filter] at hi
    obtain ⟨h1, h2⟩ := hi
    rw [List.mem_range] at h1
    rw [Bool.and_eq_true] at h2
    have hl : listed.getD i true = false := by simpa using h2.1
    rw [Array.getD_eq_getD_getElem?, Array.getElem?_eq_getElem (by omega)] at hl
    have hl' : listed[i]'(by omega) = false := hl
    obtain ⟨o, ho⟩ : ∃ o, ops[i]? = some o := ⟨_, Array.getElem?_eq_getElem h1⟩
    have hdeps := h2.2
    rw [ho] at hdeps
    simp only [Option.map_some, Option.getD_some] at hdeps
    have next : ∀ v u', G u u' → F i v u' → wpAny P .any ops Q fuel (listed.setIfInBounds i true) (b.put o.dst v) u' := by
      intro v u' hG' hF
      refine ih _ _ _ (by simp [hs]) ?_ (hGt _ _ _ hG hG') ?_
      · have hlen : i < listed.toList.length := by simp; omega
        have hsplit : listed.toList = listed.toList.take i ++ false :: listed.toList.drop (i + 1) := by
          have h := List.take_append_drop i listed.toList
          rw [List.drop_eq_getElem_cons hlen, Array.getElem_toList, hl'] at h
          exact h.symm
        have hset : (listed.setIfInBounds i true).toList = listed.toList.take i ++ true :: listed.toList.drop (i + 1) := by
          rw [Array.toList_setIfInBounds, List.set_eq_take_append_cons_drop, if_pos hlen]
        rw [hsplit] at hf
        rw [hset]
        simp only [List.filter_append, List.filter_cons, List.length_append, Bool.not_false, Bool.not_true, if_true, Bool.false_eq_true, if_false, List.length_cons] at hf ⊢
        omega
      · have hm' := met_put htidy hst hm ho hG' hF
        have iff : ∀ j, (listed.setIfInBounds i true).getD j false = true ↔ (j = i ∨ listed.getD j false = true) := by
          intro j
          by_cases e : j = i
          · subst e
            simp [Array.getD_eq_getD_getElem?, show j < listed.size by omega]
          · simp [Array.getD_eq_getD_getElem?, Array.getElem?_setIfInBounds_ne (Ne.symm e), e]
        exact ⟨hm'.defers, hm'.size, fun t ht => hm'.old t fun j hj => ht j ((iff j).2 hj), fun j t hj hd => hm'.new j t ((iff j).1 hj) hd⟩
    have hstep := hop i o b u ho hG hm.size (fun t ht => hm.old t fun j _ => ht j) (fun e he hb t hd => hm.new e.on t (by
      have := Array.all_eq_true'.1 hdeps e he
      rw [hb] at this
      simpa using this) hd)
    unfold wpOp
    rw [ho]
    simp only
    split
    · rename_i hw
      rw [if_pos hw] at hstep
      left
      unfold Oper.wp
      generalize (execOp b.eval o).run P u = r at hstep
      cases r with
      | ok n u' =>
        cases n <;> simp only [yieldsUpon] at hstep <;> simp only [Oper.upon]
        case value v => exact next v u' hstep.1 hstep.2
        case enter f args =>
          exact hstep.mono fun e u'' ⟨v, he, h3, h4⟩ => by subst he; exact next v u'' h3 h4
      | halt x u' => simp only [yieldsUpon] at hstep
    · rename_i hw
      rw [if_neg hw] at hstep
      exact next undef u hstep.2 hstep.1
end

theorem either {b : Bool} {p q r : Prop} (hr : r) (h : (b = true ∧ p) ∨ (b = false ∧ q)) : if b then p else q ∧ r := by
  rcases h with ⟨rfl, h⟩ | ⟨rfl, h⟩
  · exact h
  · exact ⟨h, hr⟩
theorem wanted_yes {o : Oper} {ops : Array Oper} {b : Act} {j : Nat} {t : Tmp} {c : Bool} (hg : o.guard = some (j, c)) (hd : dstAt ops j = some t) (h : b.tmps.getD t undef = .bool c) : Region.wanted o (yielded ops b.tmps) = true := by
  unfold Region.wanted
  rw [hg]
  simp only
  rw [yielded_of hd h]; simp
theorem wanted_no {o : Oper} {ops : Array Oper} {b : Act} {j : Nat} {t : Tmp} {c : Bool} (hg : o.guard = some (j, c)) (hd : dstAt ops j = some t) (h : b.tmps.getD t undef = .bool (!c)) : Region.wanted o (yielded ops b.tmps) = false := by
  unfold Region.wanted
  rw [hg]
  simp only
  rw [yielded_of hd h]; cases c <;> rfl

/-- **A region that draws its order, by what holds of each value.** -/
theorem wp_region_values {P : Program} {id : Nat} {l : List Oper} {Q : Exit → Act → World → Prop} {a : Act} {w : World} (hmix : P.follows .mixedOrders = true) (F : Nat → Value → World → Prop) (G : World → World → Prop)
    (htidy : Region.tidyB l.toArray a.tmps.size = true) (hst : ∀ i v u u', F i v u → G u u' → F i v u') (hGr : ∀ u, G u u) (hGt : ∀ u v z, G u v → G v z → G u z)
    (hop : ∀ (i : Nat) (o : Oper) (b : Act) (u : World), l[i]? = some o → G w.drew u → (∀ t, (∀ i, dstAt l.toArray i ≠ some t) → b.tmps.getD t undef = a.tmps.getD t undef) →
      (∀ j t, (o.after.any fun e => Region.binds .any e && e.on == j) = true → dstAt l.toArray j = some t → F j (b.tmps.getD t undef) u) →
      (Region.wanted o (yielded l.toArray b.tmps) = true ∧ yieldsUpon P G (F i) u ((execOp b.eval o).run P u)) ∨ (Region.wanted o (yielded l.toArray b.tmps) = false ∧ F i undef u))
    (hend : ∀ b u, G w.drew u → Met l.toArray F a (fun i => i < l.length) b u → Q .normal b u) : (Code.region id l.toArray true).wp P Q a w := by
  refine wp_region_any hmix ?_
  refine any_met (w0 := w.drew) htidy hst hGt (fun i o b u ho hG _ hold hdeps => either (hGr u) <| hop i o b u (by simpa using ho) hG hold (fun j t hj hd => by
    obtain ⟨e, he, h⟩ := Array.any_eq_true'.1 hj
    rw [Bool.and_eq_true] at h
    have hj' : e.on = j := by simpa using h.2
    subst hj'
    exact hdeps e he h.1 t hd)) (fun b u hG hm => hend b u hG (by simpa using hm)) _ _ _ _ (by simp) ?_ (hGr _) ?_
  · simp
  · refine ⟨rfl, rfl, fun _ _ => rfl, fun i t hi _ => ?_⟩
    exfalso
    simp [Array.getD_eq_getD_getElem?, Array.getElem?_replicate] at hi
    split at hi <;> simp at hi

/-- What an operation yields: this value; or a slice that was made, with these cells. -/
def ValIs (vs : List (Value ⊕ List Value)) (i : Nat) (v : Value) (u : World) : Prop :=
  match vs[i]? with
  | some (.inl c) => v = c
  | some (.inr cs) => ∃ g, v = .slice (some ⟨g, 0, none⟩) cs.length cs.length ∧ ∀ j x, cs[j]? = some x → u.cell? ⟨g, j, none⟩ = some x
  | none => False
theorem valIs_on (vs : List (Value ⊕ List Value)) (i : Nat) (v : Value) (u u' : World) (h : ValIs vs i v u) (hb : Below u.heap.size u u') : ValIs vs i v u' := by
  unfold ValIs at h ⊢
  cases hx : vs[i]? with
  | none => rw [hx] at h; exact h
  | some x =>
    rw [hx] at h
    cases x with
    | inl c => exact h
    | inr cs =>
      obtain ⟨g, h1, h2⟩ := h
      exact ⟨g, h1, fun j x hj => by rw [hb.cell (block_lt_of_cell (h2 j x hj))]; exact h2 j x hj⟩
theorem valIs_inl {vs : List (Value ⊕ List Value)} {i : Nat} {c : Value} {u : World} (h : vs[i]? = some (.inl c)) : ValIs vs i c u := by unfold ValIs; rw [h]
theorem valIs_inr {vs : List (Value ⊕ List Value)} {i g : Nat} {cs : List Value} {u : World} (h : vs[i]? = some (.inr cs)) (hc : ∀ j x, cs[j]? = some x → u.cell? ⟨g, j, none⟩ = some x) : ValIs vs i (.slice (some ⟨g, 0, none⟩) cs.length cs.length) u := by unfold ValIs; rw [h]; exact ⟨g, rfl, hc⟩
theorem of_inl {vs : List (Value ⊕ List Value)} {i : Nat} {v c : Value} {u : World} (hv : ValIs vs i v u) (h : vs[i]? = some (.inl c)) : v = c := by unfold ValIs at hv; rw [h] at hv; exact hv
theorem of_inr {vs : List (Value ⊕ List Value)} {i : Nat} {v : Value} {cs : List Value} {u : World} (hv : ValIs vs i v u) (h : vs[i]? = some (.inr cs)) : ∃ g, v = .slice (some ⟨g, 0, none⟩) cs.length cs.length ∧ ∀ j x, cs[j]? = some x → u.cell? ⟨g, j, none⟩ = some x := by unfold ValIs at hv; rw [h] at hv; exact hv
def Region.baseB (l : List Oper) (t : Tmp) : Bool := (List.range l.length).all fun i => dstAt l.toArray i != some t
theorem base_of {l : List Oper} {t : Tmp} (h : Region.baseB l t = true) : ∀ i, dstAt l.toArray i ≠ some t := by
  intro i hd
  have hi := dst_lt hd
  have := List.all_eq_true.1 h i (List.mem_range.2 (by simpa using hi))
  simp [hd] at this
theorem yields_value {P : Program} {G : World → World → Prop} {F : Value → World → Prop} {u u' : World} {v : Value} {r : Result Next} (hr : r = .ok (.value v) u') (h1 : G u u') (h2 : F v u') : yieldsUpon P G F u r := by rw [hr]; exact ⟨h1, h2⟩
theorem yields_call {P : Program} {F : Value → World → Prop} {u : World} {f : FuncId} {args : Array Value} {r : Result Next} {v : Value} (hr : r = .ok (.enter f args) u)
    (h : Calls P f args u fun e u' => e = .returned v ∧ Below u.heap.size u u') (h2 : ∀ u', F v u') : yieldsUpon P (fun u u' => Below u.heap.size u u') F u r := by
  rw [hr]
  exact h.mono fun e u' ⟨he, hb⟩ => ⟨v, he, hb, h2 u'⟩
end Go.Proofs.Ytmeafeomfblncaa
