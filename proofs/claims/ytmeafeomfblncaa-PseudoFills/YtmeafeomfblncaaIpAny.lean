/- A region whose operations come up in whatever order, where what lies in memory hangs on which of them have come up: the rule of CkAny with an invariant. Nothing of the program is in here. -/
import Derived.Test.YtmeafeomfblncaaCkAny
namespace Go.Proofs.Ytmeafeomfblncaa
open Go.RowKit

/-- An operation that was carried out: a value, nothing (a store), or a call. -/
def yieldsY (P : Program) (R : Value → World → Prop) : Result Next → Prop
  | .ok (.value v) u' => R v u'
  | .ok .skip u' => R undef u'
  | .ok (.enter f args) u' => Calls P f args u' fun e u'' => ∃ v, e = .returned v ∧ R v u''
  | _ => False
theorem yieldsY_value {P : Program} {R : Value → World → Prop} {u' : World} {v : Value} {r : Result Next} (hr : r = .ok (.value v) u') (h : R v u') : yieldsY P R r := by rw [hr]; exact h
theorem yieldsY_skip {P : Program} {R : Value → World → Prop} {u' : World} {r : Result Next} (hr : r = .ok .skip u') (h : R undef u') : yieldsY P R r := by rw [hr]; exact h
theorem yieldsY_call {P : Program} {R : Value → World → Prop} {u : World} {f : FuncId} {args : Array Value} {r : Result Next} {K : Value → World → Prop} (hr : r = .ok (.enter f args) u)
    (h : Calls P f args u fun e u' => ∃ v, e = .returned v ∧ K v u') (h2 : ∀ v u', K v u' → R v u') : yieldsY P R r := by
  rw [hr]; exact h.mono fun e u' ⟨v, he, hk⟩ => ⟨v, he, h2 v u' hk⟩

section
variable {P : Program} {ops : Array Oper} {Q : Exit → Act → World → Prop} {a : Act} {F : Nat → Value → World → Prop} {I : (Nat → Prop) → World → Prop}

/-- What has come up is closed under what it waits for. -/
def Closed (ops : Array Oper) (come : Nat → Prop) : Prop := ∀ j o, come j → ops[j]? = some o → ∀ e ∈ o.after, Region.binds .any e = true → come e.on

theorem met_put_inv (htidy : Region.tidyB ops a.tmps.size = true) {come : Nat → Prop} {b : Act} {u u' : World} (hm : Met ops F a come b u) {i : Nat} {o : Oper} (ho : ops[i]? = some o) {v : Value} (hst : ∀ j x, come j → F j x u → F j x u') (hF : F i v u') :
    Met ops F a (fun j => j = i ∨ come j) (b.put o.dst v) u' := by
  have hdi : dstAt ops i = o.dst := by unfold dstAt; rw [ho]; rfl
  refine ⟨(defers_put _ _ _).trans hm.defers, (size_put _ _ _).trans hm.size, fun t ht => ?_, fun j t hj hd => ?_⟩
  · rw [getD_put_other _ _ _ _ (by rw [← hdi]; exact ht i (.inl rfl))]
    exact hm.old t fun j hj => ht j (.inr hj)
  · by_cases e : j = i
    · subst e
      rw [hdi] at hd
      rw [hd, getD_put_same _ _ _ (by rw [hm.size]; exact tidy_lt htidy (hdi.trans hd))]
      exact hF
    · rcases hj with hj | hj
      · exact absurd hj e
      · rw [getD_put_other _ _ _ _ (by rw [← hdi]; intro h; exact e (tidy_once htidy h hd))]
        exact hst _ _ hj (hm.new j t hj hd)

theorem any_inv (htidy : Region.tidyB ops a.tmps.size = true)
    (hop : ∀ (i : Nat) (o : Oper) (b : Act) (u : World) (come : Nat → Prop), ops[i]? = some o → ¬ come i → Closed ops come → (∀ e ∈ o.after, Region.binds .any e = true → come e.on) → I come u →
      (∀ t, (∀ i, dstAt ops i ≠ some t) → b.tmps.getD t undef = a.tmps.getD t undef) → (∀ j t, come j → dstAt ops j = some t → F j (b.tmps.getD t undef) u) →
      (Region.wanted o (yielded ops b.tmps) = true ∧ yieldsY P (fun v u' => I (fun j => j = i ∨ come j) u' ∧ F i v u' ∧ ∀ j x, come j → F j x u → F j x u') ((execOp b.eval o).run P u)) ∨
      (Region.wanted o (yielded ops b.tmps) = false ∧ I (fun j => j = i ∨ come j) u ∧ F i undef u))
    (hend : ∀ b u, I (fun i => i < ops.size) u → Met ops F a (fun i => i < ops.size) b u → Q .normal b u) :
    ∀ (fuel : Nat) (listed : Array Bool) (b : Act) (u : World), listed.size = ops.size → (listed.toList.filter (fun x => !x)).length ≤ fuel → Closed ops (fun i => listed.getD i false = true) → I (fun i => listed.getD i false = true) u →
      Met ops F a (fun i => listed.getD i false = true) b u → wpAny P .any ops Q fuel listed b u := by
  have done : ∀ (listed : Array Bool) (b : Act) (u : World), listed.size = ops.size → I (fun i => listed.getD i false = true) u → Met ops F a (fun i => listed.getD i false = true) b u → Region.ready .any ops listed = [] → Q .normal b u := by
    intro listed b u hs hI hm hr
    have all : ∀ i, i < ops.size → listed.getD i false = true := by
      intro i
      induction i using Nat.strongRecOn with
      | _ i ih =>
        intro hi
        rcases hb : listed.getD i false with _ | _
        · exfalso
          obtain ⟨o, ho⟩ : ∃ o, ops[i]? = some o := ⟨_, Array.getElem?_eq_getElem hi⟩
          have hmem : i ∈ Region.ready .any ops listed := by
            unfold Region.ready
            rw [List.mem_filter]
            refine ⟨List.mem_range.2 hi, ?_⟩
            have hl : listed.getD i true = false := by
              rw [Array.getD_eq_getD_getElem?, Array.getElem?_eq_getElem (by omega)] at hb ⊢
              exact hb
            rw [hl, ho]
            simp only [Bool.not_false, Bool.true_and, Option.map_some, Option.getD_some]
            rw [Array.all_eq_true']
            intro e he
            cases hb : Region.binds .any e with
            | false => simp
            | true =>
              have := ih e.on (tidy_after htidy ho e he hb) (Nat.lt_trans (tidy_after htidy ho e he hb) hi)
              rw [this]; simp
          rw [hr] at hmem; cases hmem
        · rfl
    have same : (fun i => listed.getD i false = true) = fun i => i < ops.size := by
      funext i
      refine propext ⟨fun hi => ?_, all i⟩
      rcases Nat.lt_or_ge i ops.size with h | h
      · exact h
      · rw [Array.getD_eq_getD_getElem?, Array.getElem?_eq_none (by omega)] at hi; cases hi
    rw [same] at hI hm
    exact hend b u hI hm
  intro fuel
  induction fuel with
  | zero =>
    intro listed b u hs hf hC hI hm
    have hr : Region.ready .any ops listed = [] := by
      rw [List.eq_nil_iff_forall_not_mem]
      intro i hi
      unfold Region.ready at hi
      rw [List.mem_filter] at hi
      obtain ⟨h1, h2⟩ := hi
      rw [List.mem_range] at h1
      rw [Bool.and_eq_true] at h2
      have hl : listed.getD i true = false := by simpa using h2.1
      rw [Array.getD_eq_getD_getElem?, Array.getElem?_eq_getElem (by omega)] at hl
      have : listed[i]'(by omega) ∈ listed.toList.filter (fun x => !x) := by
        rw [List.mem_filter]; refine ⟨by simp, ?_⟩
        have e : listed[i]'(by omega) = false := hl
        rw [e]; rfl
      have := List.length_pos_of_mem this
      omega
    exact ⟨hr, done listed b u hs hI hm hr⟩
  | succ fuel ih =>
    intro listed b u hs hf hC hI hm
    refine ⟨fun hr => done listed b u hs hI hm hr, fun i hi => ?_⟩
    unfold Region.ready at hi
    rw [List.mem_filter] at hi
    obtain ⟨h1, h2⟩ := hi
    rw [List.mem_range] at h1
    rw [Bool.and_eq_true] at h2
    have hl : listed.getD i true = false := by simpa using h2.1
    rw [Array.getD_eq_getD_getElem?, Array.getElem?_eq_getElem (by omega)] at hl
    have hl' : listed[i]'(by omega) = false := hl
    obtain ⟨o, ho⟩ : ∃ o, ops[i]? = some o := ⟨_, Array.getElem?_eq_getElem h1⟩
    have hdeps := h2.2
    rw [ho] at hdeps
    simp only [Option.map_some, Option.getD_some] at hdeps
    have iff : ∀ j, (listed.setIfInBounds i true).getD j false = true ↔ (j = i ∨ listed.getD j false = true) := by
      intro j
      by_cases e : j = i
      · subst e
        simp [Array.getD_eq_getD_getElem?, show j < listed.size by omega]
      · simp [Array.getD_eq_getD_getElem?, Array.getElem?_setIfInBounds_ne (Ne.symm e), e]
    have same : (fun j => (listed.setIfInBounds i true).getD j false = true) = fun j => j = i ∨ listed.getD j false = true := funext fun j => propext (iff j)
    have hready : ∀ e ∈ o.after, Region.binds .any e = true → listed.getD e.on false = true := fun e he hb => by
      have := Array.all_eq_true'.1 hdeps e he
      rw [hb] at this
      simpa using this
    have hnot : ¬ listed.getD i false = true := by
      rw [Array.getD_eq_getD_getElem?, Array.getElem?_eq_getElem (by omega)]
      simp [hl']
    have next : ∀ v u', I (fun j => j = i ∨ listed.getD j false = true) u' → F i v u' → (∀ j x, listed.getD j false = true → F j x u → F j x u') → wpAny P .any ops Q fuel (listed.setIfInBounds i true) (b.put o.dst v) u' := by
      intro v u' hI' hF hst
      refine ih _ _ _ (by simp [hs]) ?_ ?_ (by rw [same]; exact hI') (by rw [same]; exact met_put_inv htidy hm ho hst hF)
      · have hlen : i < listed.toList.length := by simp; omega
        have hsplit : listed.toList = listed.toList.take i ++ false :: listed.toList.drop (i + 1) := by
          have h := List.take_append_drop i listed.toList
          rw [List.drop_eq_getElem_cons hlen, Array.getElem_toList, hl'] at h
          exact h.symm
        have hset : (listed.setIfInBounds i true).toList = listed.toList.take i ++ true :: listed.toList.drop (i + 1) := by
          rw [Array.toList_setIfInBounds, List.set_eq_take_append_cons_drop, if_pos hlen]
        rw [hsplit] at hf
        rw [hset]
        simp only [List.filter_append, List.filter_cons, List.length_append, Bool.not_false, Bool.not_true, if_true, Bool.false_eq_true, if_false, List.length_cons] at hf ⊢
        omega
      · rw [same]
        intro j o' hj ho' e he hb
        rcases hj with rfl | hj
        · rw [ho] at ho'; cases ho'; exact .inr (hready e he hb)
        · exact .inr (hC j o' hj ho' e he hb)
    have hstep := hop i o b u _ ho hnot hC hready hI (fun t ht => hm.old t fun j _ => ht j) (fun j t hj hd => hm.new j t hj hd)
    unfold wpOp
    rw [ho]
    simp only
    rcases hstep with ⟨hw, hstep⟩ | ⟨hw, h1, h2⟩
    · rw [if_pos hw]
      left
      unfold Oper.wp
      generalize (execOp b.eval o).run P u = r at hstep
      cases r with
      | ok n u' =>
        cases n <;> simp only [yieldsY] at hstep <;> simp only [Oper.upon]
        case value v => exact next v u' hstep.1 hstep.2.1 hstep.2.2
        case skip => exact next undef u' hstep.1 hstep.2.1 hstep.2.2
        case enter f args =>
          exact hstep.mono fun e u'' ⟨v, he, h3, h4, h5⟩ => by subst he; exact next v u'' h3 h4 h5
      | halt x u' => simp only [yieldsY] at hstep
    · rw [if_neg (by rw [hw]; decide)]
      exact next undef u h1 h2 fun _ _ _ h => h
end

/-- **A region that draws its order, by an invariant.** -/
theorem wp_region_inv {P : Program} {id : Nat} {l : List Oper} {Q : Exit → Act → World → Prop} {a : Act} {w : World} (hmix : P.follows .mixedOrders = true) (F : Nat → Value → World → Prop) (I : (Nat → Prop) → World → Prop)
    (htidy : Region.tidyB l.toArray a.tmps.size = true) (h0 : I (fun _ => False) w.drew)
    (hop : ∀ (i : Nat) (o : Oper) (b : Act) (u : World) (come : Nat → Prop), l[i]? = some o → ¬ come i → Closed l.toArray come → (∀ j, (o.after.any fun e => Region.binds .any e && e.on == j) = true → come j) → I come u →
      (∀ t, (∀ i, dstAt l.toArray i ≠ some t) → b.tmps.getD t undef = a.tmps.getD t undef) → (∀ j t, come j → dstAt l.toArray j = some t → F j (b.tmps.getD t undef) u) →
      (Region.wanted o (yielded l.toArray b.tmps) = true ∧ yieldsY P (fun v u' => I (fun j => j = i ∨ come j) u' ∧ F i v u' ∧ ∀ j x, come j → F j x u → F j x u') ((execOp b.eval o).run P u)) ∨
      (Region.wanted o (yielded l.toArray b.tmps) = false ∧ I (fun j => j = i ∨ come j) u ∧ F i undef u))
    (hend : ∀ b u, I (fun i => i < l.length) u → Met l.toArray F a (fun i => i < l.length) b u → Q .normal b u) : (Code.region id l.toArray true).wp P Q a w := by
  refine wp_region_any hmix ?_
  have hnone : (fun i => (Array.replicate l.toArray.size false).getD i false = true) = fun _ => False := by
    funext i
    refine propext ⟨fun hi => ?_, fun h => h.elim⟩
    simp [Array.getD_eq_getD_getElem?, Array.getElem?_replicate] at hi
    split at hi <;> simp at hi
  refine any_inv htidy (fun i o b u come ho hn hC hr hI hold hnew => hop i o b u come (by simpa using ho) hn hC (fun j hj => by
    obtain ⟨e, he, h⟩ := Array.any_eq_true'.1 hj
    rw [Bool.and_eq_true] at h
    have hj' : e.on = j := by simpa using h.2
    subst hj'
    exact hr e he h.1) hI hold hnew) (fun b u hI hm => hend b u (by simpa using hI) (by simpa using hm)) _ _ _ _ (by simp) ?_ ?_ ?_ ?_
  · simp
  · rw [hnone]; intro j o hj; exact hj.elim
  · rw [hnone]; exact h0
  · rw [hnone]; exact ⟨rfl, rfl, fun _ _ => rfl, fun i t hi _ => hi.elim⟩
/-- Operation m waits for operation i, by itself or by one that it waits for. -/
def Region.waitsN (l : List Oper) : Nat → Nat → Nat → Bool
  | 0, _, _ => false
  | f + 1, m, i => match l[m]? with
    | some o => o.after.any fun e => Region.binds .any e && (e.on == i || Region.waitsN l f e.on i)
    | none => false
def Region.waitsB (l : List Oper) (m i : Nat) : Bool := Region.waitsN l l.length m i
theorem not_yetN {l : List Oper} {i : Nat} {come : Nat → Prop} (hC : Closed l.toArray come) (hn : ¬ come i) : ∀ f m, Region.waitsN l f m i = true → ¬ come m
  | 0, m, hw => by unfold Region.waitsN at hw; cases hw
  | f + 1, m, hw => by
    intro hm
    unfold Region.waitsN at hw
    cases ho : l[m]? with
    | none => rw [ho] at hw; cases hw
    | some o =>
      rw [ho] at hw
      obtain ⟨e, he, h⟩ := Array.any_eq_true'.1 hw
      rw [Bool.and_eq_true] at h
      have hc := hC m o hm (by simpa using ho) e he h.1
      rcases Bool.or_eq_true _ _ ▸ h.2 with h1 | h1
      · have hj' : e.on = i := by simpa using h1
        exact hn (hj' ▸ hc)
      · exact not_yetN hC hn f e.on h1 hc
theorem not_yet {l : List Oper} {m i : Nat} {come : Nat → Prop} (hC : Closed l.toArray come) (hw : Region.waitsB l m i = true) (hn : ¬ come i) : ¬ come m := not_yetN hC hn _ m hw
end Go.Proofs.Ytmeafeomfblncaa
