/- Regions whose operations come up in whatever order: an invariant that hangs on the slots, too; regions that make rows, each in a block of its own. Nothing of the program is in here. -/
import Derived.Test.YtckkdgifjgkoaaaSpReg
namespace Go.Proofs.Ytckkdgifjgkoaaa
open Go.RowKit

section
variable {P : Program} {ops : Array Oper} {Q : Exit → Act → World → Prop} {a : Act} {F : Nat → Value → World → Prop} {I : (Nat → Prop) → Act → World → Prop}

theorem any_invb (htidy : Region.tidyB ops a.tmps.size = true)
    (hop : ∀ (i : Nat) (o : Oper) (b : Act) (u : World) (come : Nat → Prop), ops[i]? = some o → ¬ come i → Closed ops come → (∀ e ∈ o.after, Region.binds .any e = true → come e.on) → I come b u →
      (∀ t, (∀ i, dstAt ops i ≠ some t) → b.tmps.getD t undef = a.tmps.getD t undef) → (∀ j t, come j → dstAt ops j = some t → F j (b.tmps.getD t undef) u) →
      (Region.wanted o (yielded ops b.tmps) = true ∧ yieldsY P (fun v u' => I (fun j => j = i ∨ come j) (b.put o.dst v) u' ∧ F i v u' ∧ ∀ j x, come j → F j x u → F j x u') ((execOp b.eval o).run P u)) ∨
      (Region.wanted o (yielded ops b.tmps) = false ∧ I (fun j => j = i ∨ come j) (b.put o.dst undef) u ∧ F i undef u))
    (hend : ∀ b u, I (fun i => i < ops.size) b u → Met ops F a (fun i => i < ops.size) b u → Q .normal b u) :
    ∀ (fuel : Nat) (listed : Array Bool) (b : Act) (u : World), listed.size = ops.size → (listed.toList.filter (fun x => !x)).length ≤ fuel → Closed ops (fun i => listed.getD i false = true) → I (fun i => listed.getD i false = true) b u →
      Met ops F a (fun i => listed.getD i false = true) b u → wpAny P .any ops Q fuel listed b u := by
  have done : ∀ (listed : Array Bool) (b : Act) (u : World), listed.size = ops.size → I (fun i => listed.getD i false = true) b u → Met ops F a (fun i => listed.getD i false = true) b u → Region.ready .any ops listed = [] → Q .normal b u := by
    intro listed b u hs hI hm hr
    have all : ∀ i, i < ops.size → listed.getD i false = true := by
      intro i
      induction i using Nat.strongRecOn with
      | _ i ih =>
        intro hi
        rcases hb : listed.getD i false with _ | _
        · exfalso
          obtain ⟨o, ho⟩ : ∃ o, ops[i]? = some o := ⟨_, Array.getElem?_eq_getElem hi⟩
          have hmem : i ∈ Region.ready .any ops listed := by
            unfold Region.ready
            rw [List.mem_filter]
            refine ⟨List.mem_range.2 hi, ?_⟩
            have hl : listed.getD i true = false := by
              rw [Array.getD_eq_getD_getElem?, Array.getElem?_eq_getElem (by omega)] at hb ⊢
              exact hb
            rw [hl, ho]
            simp only [Bool.not_false, Bool.true_and, Option.map_some, Option.getD_some]
            rw [Array.all_eq_true']
            intro e he
            cases hb : Region.binds .any e with
            | false => simp
            | true =>
              have := ih e.on (tidy_after htidy ho e he hb) (Nat.lt_trans (tidy_after htidy ho e he hb) hi)
              rw [this]; simp
          rw [hr] at hmem; cases hmem
        · rfl
    have same : (fun i => listed.getD i false = true) = fun i => i < ops.size := by
      funext i
      refine propext ⟨fun hi => ?_, all i⟩
      rcases Nat.lt_or_ge i ops.size with h | h
      · exact h
      · rw [Array.getD_eq_getD_getElem?, Array.getElem?_eq_none (by omega)] at hi; cases hi
    rw [same] at hI hm
    exact hend b u hI hm
  intro fuel
  induction fuel with
  | zero =>
    intro listed b u hs hf hC hI hm
    have hr : Region.ready .any ops listed = [] := by
      rw [List.eq_nil_iff_forall_not_mem]
      intro i hi
      unfold Region.ready at hi
      rw [List.mem_filter] at hi
      obtain ⟨h1, h2⟩ := hi
      rw [List.mem_range] at h1
      rw [Bool.and_eq_true] at h2
      have hl : listed.getD i true = false := by simpa using h2.1
      rw [Array.getD_eq_getD_getElem?, Array.getElem?_eq_getElem (by omega)] at hl
      have : listed[i]'(by omega) ∈ listed.toList.filter (fun x => !x) := by
        rw [List.mem_filter]; refine ⟨by simp, ?_⟩
        have e : listed[i]'(by omega) = false := hl
        rw [e]; rfl
      have := List.length_pos_of_mem this
      omega
    exact ⟨hr, done listed b u hs hI hm hr⟩
  | succ fuel ih =>
    intro listed b u hs hf hC hI hm
    refine ⟨fun hr => done listed b u hs hI hm hr, fun i hi => ?_⟩
    unfold Region.ready at hi
    rw [List.mem_filter] at hi
    obtain ⟨h1, h2⟩ := hi
    rw [List.mem_range] at h1
    rw [Bool.and_eq_true] at h2
    have hl : listed.getD i true = false := by simpa using h2.1
    rw [Array.getD_eq_getD_getElem?, Array.getElem?_eq_getElem (by omega)] at hl
    have hl' : listed[i]'(by omega) = false := hl
    obtain ⟨o, ho⟩ : ∃ o, ops[i]? = some o := ⟨_, Array.getElem?_eq_getElem h1⟩
    have hdeps := h2.2
    rw [ho] at hdeps
    simp only [Option.map_some, Option.getD_some] at hdeps
    have iff : ∀ j, (listed.setIfInBounds i true).getD j false = true ↔ (j = i ∨ listed.getD j false = true) := by
      intro j
      by_cases e : j = i
      · subst e
        simp [Array.getD_eq_getD_getElem?, show j < listed.size by omega]
      · simp [Array.getD_eq_getD_getElem?, Array.getElem?_setIfInBounds_ne (Ne.symm e), e]
    have same : (fun j => (listed.setIfInBounds i true).getD j false = true) = fun j => j = i ∨ listed.getD j false = true := funext fun j => propext (iff j)
    have hready : ∀ e ∈ o.after, Region.binds .any e = true → listed.getD e.on false = true := fun e he hb => by
      have := Array.all_eq_true'.1 hdeps e he
      rw [hb] at this
      simpa using this
    have hnot : ¬ listed.getD i false = true := by
      rw [Array.getD_eq_getD_getElem?, Array.getElem?_eq_getElem (by omega)]
      simp [hl']
    have next : ∀ v u', I (fun j => j = i ∨ listed.getD j false = true) (b.put o.dst v) u' → F i v u' → (∀ j x, listed.getD j false = true → F j x u → F j x u') → wpAny P .any ops Q fuel (listed.setIfInBounds i true) (b.put o.dst v) u' := by
      intro v u' hI' hF hst
      refine ih _ _ _ (by simp [hs]) ?_ ?_ (by rw [same]; exact hI') (by rw [same]; exact met_put_inv htidy hm ho hst hF)
      · have hlen : i < listed.toList.length := by simp; omega
        have hsplit : listed.toList = listed.toList.take i ++ false :: listed.toList.drop (i + 1) := by
          have h := List.take_append_drop i listed.toList
          rw [List.drop_eq_getElem_cons hlen, Array.getElem_toList, hl'] at h
          exact h.symm
        have hset : (listed.setIfInBounds i true).toList = listed.toList.take i ++ true :: listed.toList.drop (i + 1) := by
          rw [Array.toList_setIfInBounds, List.set_eq_take_append_cons_drop, if_pos hlen]
        rw [hsplit] at hf
        rw [hset]
        simp only [List.filter_append, List.filter_cons, List.length_append, Bool.not_false, Bool.not_true, if_true, Bool.false_eq_true, if_false, List.length_cons] at hf ⊢
        omega
      · rw [same]
        intro j o' hj ho' e he hb
        rcases hj with rfl | hj
        · rw [ho] at ho'; cases ho'; exact .inr (hready e he hb)
        · exact .inr (hC j o' hj ho' e he hb)
    have hstep := hop i o b u _ ho hnot hC hready hI (fun t ht => hm.old t fun j _ => ht j) (fun j t hj hd => hm.new j t hj hd)
    unfold wpOp
    rw [ho]
    simp only
    rcases hstep with ⟨hw, hstep⟩ | ⟨hw, h1, h2⟩
    · rw [if_pos hw]
      left
      unfold Oper.wp
      generalize (execOp b.eval o).run P u = r at hstep
      cases r with
      | ok n u' =>
        cases n <;> simp only [yieldsY] at hstep <;> simp only [Oper.upon]
        case value v => exact next v u' hstep.1 hstep.2.1 hstep.2.2
        case skip => exact next undef u' hstep.1 hstep.2.1 hstep.2.2
        case enter f args =>
          exact hstep.mono fun e u'' ⟨v, he, h3, h4, h5⟩ => by subst he; exact next v u'' h3 h4 h5
      | halt x u' => simp only [yieldsY] at hstep
    · rw [if_neg (by rw [hw]; decide)]
      exact next undef u h1 h2 fun _ _ _ h => h
end

/-- **A region that draws its order, by an invariant that hangs on the slots, too.** -/
theorem wp_region_invb {P : Program} {id : Nat} {l : List Oper} {Q : Exit → Act → World → Prop} {a : Act} {w : World} (hmix : P.follows .mixedOrders = true) (F : Nat → Value → World → Prop) (I : (Nat → Prop) → Act → World → Prop)
    (htidy : Region.tidyB l.toArray a.tmps.size = true) (h0 : I (fun _ => False) a w.drew)
    (hop : ∀ (i : Nat) (o : Oper) (b : Act) (u : World) (come : Nat → Prop), l[i]? = some o → ¬ come i → Closed l.toArray come → (∀ j, (o.after.any fun e => Region.binds .any e && e.on == j) = true → come j) → I come b u →
      (∀ t, (∀ i, dstAt l.toArray i ≠ some t) → b.tmps.getD t undef = a.tmps.getD t undef) → (∀ j t, come j → dstAt l.toArray j = some t → F j (b.tmps.getD t undef) u) →
      (Region.wanted o (yielded l.toArray b.tmps) = true ∧ yieldsY P (fun v u' => I (fun j => j = i ∨ come j) (b.put o.dst v) u' ∧ F i v u' ∧ ∀ j x, come j → F j x u → F j x u') ((execOp b.eval o).run P u)) ∨
      (Region.wanted o (yielded l.toArray b.tmps) = false ∧ I (fun j => j = i ∨ come j) (b.put o.dst undef) u ∧ F i undef u))
    (hend : ∀ b u, I (fun i => i < l.length) b u → Met l.toArray F a (fun i => i < l.length) b u → Q .normal b u) : (Code.region id l.toArray true).wp P Q a w := by
  refine wp_region_any hmix ?_
  have hnone : (fun i => (Array.replicate l.toArray.size false).getD i false = true) = fun _ => False := by
    funext i
    refine propext ⟨fun hi => ?_, fun h => h.elim⟩
    simp [Array.getD_eq_getD_getElem?, Array.getElem?_replicate] at hi
    split at hi <;> simp at hi
  refine any_invb htidy (fun i o b u come ho hn hC hr hI hold hnew => hop i o b u come (by simpa using ho) hn hC (fun j hj => by
    obtain ⟨e, he, h⟩ := Array.any_eq_true'.1 hj
    rw [Bool.and_eq_true] at h
    have hj' : e.on = j := by simpa using h.2
    subst hj'
    exact hr e he h.1) hI hold hnew) (fun b u hI hm => hend b u (by simpa using hI) (by simpa using hm)) _ _ _ _ (by simp) ?_ ?_ ?_ ?_
  · simp
  · rw [hnone]; intro j o hj; exact hj.elim
  · rw [hnone]; exact h0
  · rw [hnone]; exact ⟨rfl, rfl, fun _ _ => rfl, fun i t hi _ => hi.elim⟩

/-- The same, with what has come up as a list. -/
theorem wp_region_invx {P : Program} {id : Nat} {l : List Oper} {Q : Exit → Act → World → Prop} {a : Act} {w : World} (hmix : P.follows .mixedOrders = true) (F : Nat → Value → World → Prop) (I : (Nat → Prop) → Act → World → Prop)
    (htidy : Region.tidyB l.toArray a.tmps.size = true) (h0 : I (fun _ => False) a w.drew)
    (hop : ∀ (i : Nat) (o : Oper) (b : Act) (u : World) (come : Nat → Prop), l[i]? = some o → ¬ come i → Closed l.toArray come → (∀ j, (o.after.any fun e => Region.binds .any e && e.on == j) = true → come j) → I come b u →
      (∀ t, (∀ i, dstAt l.toArray i ≠ some t) → b.tmps.getD t undef = a.tmps.getD t undef) → (∀ j t, come j → dstAt l.toArray j = some t → F j (b.tmps.getD t undef) u) →
      (Region.wanted o (yielded l.toArray b.tmps) = true ∧ yieldsY P (fun v u' => I (fun j => j = i ∨ come j) (b.put o.dst v) u' ∧ F i v u' ∧ ∀ j x, come j → F j x u → F j x u') ((execOp b.eval o).run P u)) ∨
      (Region.wanted o (yielded l.toArray b.tmps) = false ∧ I (fun j => j = i ∨ come j) (b.put o.dst undef) u ∧ F i undef u))
    (hend : ∀ xs u, xs.length = l.length → I (fun i => i < l.length) (putAll l.toArray xs l.length a) u → (∀ i t, i < l.length → dstAt l.toArray i = some t → F i (xs.getD i undef) u) → Q .normal (putAll l.toArray xs l.length a) u) : (Code.region id l.toArray true).wp P Q a w := by
  refine wp_region_invb hmix F I htidy h0 hop ?_
  intro b u hI hm
  have e : b = putAll l.toArray (upOf l b) l.length a := met_all_list (vs := upOf l b) htidy (u := u) ⟨hm.defers, hm.size, hm.old, fun i t hi hd => (upOf_at hi hd).symm⟩
  rw [e] at hI ⊢
  refine hend _ u (upOf_length l b) hI fun i t hi hd => ?_
  rw [upOf_at hi hd]
  exact hm.new i t hi hd

/-- The region makes rows, each in a block of its own. -/
theorem wp_region_fresh {P : Program} {id : Nat} {l : List Oper} {Q : Exit → Act → World → Prop} {a : Act} {w : World} (hmix : P.follows .mixedOrders = true) (F : Nat → Value → World → Prop) (T : List Nat)
    (htidy : Region.tidyB l.toArray a.tmps.size = true) (hst : ∀ i v u u', F i v u → Below u.heap.size u u' → F i v u')
    (hop : ∀ (i : Nat) (o : Oper) (b : Act) (u : World), l[i]? = some o → Below w.heap.size w.drew u → (∀ t, (∀ i, dstAt l.toArray i ≠ some t) → b.tmps.getD t undef = a.tmps.getD t undef) →
      (∀ j t, (o.after.any fun e => Region.binds .any e && e.on == j) = true → dstAt l.toArray j = some t → F j (b.tmps.getD t undef) u) →
      (∀ j k s t, j ∈ T → k ∈ T → j ≠ k → (o.after.any fun e => Region.binds .any e && e.on == j) = true → (o.after.any fun e => Region.binds .any e && e.on == k) = true → dstAt l.toArray j = some s → dstAt l.toArray k = some t → (b.tmps.getD s undef).ownBlock ≠ (b.tmps.getD t undef).ownBlock) →
      Region.wanted o (yielded l.toArray b.tmps) = true ∧ yieldsY P (fun v u' => Below u.heap.size u u' ∧ F i v u' ∧ (i ∈ T → ∃ g, v.ownBlock = some g ∧ u.heap.size ≤ g ∧ g < u'.heap.size)) ((execOp b.eval o).run P u))
    (hend : ∀ xs u, xs.length = l.length → Below w.heap.size w.drew u → (∀ i t, i < l.length → dstAt l.toArray i = some t → F i (xs.getD i undef) u) → Q .normal (putAll l.toArray xs l.length a) u) : (Code.region id l.toArray true).wp P Q a w := by
  refine wp_region_invx hmix F (fun come b u => Below w.heap.size w.drew u ∧ b.tmps.size = a.tmps.size ∧ (∀ i t, i ∈ T → come i → dstAt l.toArray i = some t → ∃ g, (b.tmps.getD t undef).ownBlock = some g ∧ g < u.heap.size) ∧
    (∀ i j s t, i ∈ T → j ∈ T → i ≠ j → come i → come j → dstAt l.toArray i = some s → dstAt l.toArray j = some t → (b.tmps.getD s undef).ownBlock ≠ (b.tmps.getD t undef).ownBlock)) htidy ⟨Below.refl _ _, rfl, fun _ _ _ h => h.elim, fun _ _ _ _ _ _ _ h => h.elim⟩ ?_ ?_
  · rintro i o b u come ho hn hC hr ⟨hb, hsz, hown, hdis⟩ hold hnew
    obtain ⟨h1, h2⟩ := hop i o b u ho hb hold (fun j t hj hd => hnew j t (hr j hj) hd) (fun j k s t hj hk hjk dj dk hs ht => hdis j k s t hj hk hjk (hr j dj) (hr k dk) hs ht)
    refine .inl ⟨h1, ?_⟩
    have hdi : dstAt l.toArray i = o.dst := by unfold dstAt; rw [show l.toArray[i]? = some o by simpa using ho]; rfl
    have keep : ∀ (v : Value) j t, j ≠ i → dstAt l.toArray j = some t → (b.put o.dst v).tmps.getD t undef = b.tmps.getD t undef := fun v j t hj hd => getD_put_other _ _ _ _ (fun h => hj (tidy_once htidy (hdi.trans h) hd))
    have fin : ∀ v u', (Below u.heap.size u u' ∧ F i v u' ∧ (i ∈ T → ∃ g, v.ownBlock = some g ∧ u.heap.size ≤ g ∧ g < u'.heap.size)) →
        (Below w.heap.size w.drew u' ∧ (b.put o.dst v).tmps.size = a.tmps.size ∧ (∀ j t, j ∈ T → (j = i ∨ come j) → dstAt l.toArray j = some t → ∃ g, ((b.put o.dst v).tmps.getD t undef).ownBlock = some g ∧ g < u'.heap.size) ∧
          (∀ j k s t, j ∈ T → k ∈ T → j ≠ k → (j = i ∨ come j) → (k = i ∨ come k) → dstAt l.toArray j = some s → dstAt l.toArray k = some t → ((b.put o.dst v).tmps.getD s undef).ownBlock ≠ ((b.put o.dst v).tmps.getD t undef).ownBlock)) ∧
        F i v u' ∧ ∀ j x, come j → F j x u → F j x u' := by
      rintro v u' ⟨hg, hF, hT⟩
      have same : ∀ t, dstAt l.toArray i = some t → (b.put o.dst v).tmps.getD t undef = v := fun t ht => by
        rw [show o.dst = some t from hdi.symm.trans ht]
        exact getD_put_same _ _ _ (by rw [hsz]; exact tidy_lt htidy ht)
      refine ⟨⟨hb.trans (hg.mono (by have := hb.size; simpa using this)), (size_put _ _ _).trans hsz, ?_, ?_⟩, hF, fun j x _ h => hst j x u u' h hg⟩
      · intro j t hj hc hd
        by_cases e : j = i
        · subst e
          obtain ⟨g, h3, _, h4⟩ := hT hj
          exact ⟨g, by rw [same t hd]; exact h3, h4⟩
        · obtain ⟨g, h3, h4⟩ := hown j t hj (hc.resolve_left e) hd
          exact ⟨g, by rw [keep v j t e hd]; exact h3, Nat.lt_of_lt_of_le h4 hg.size⟩
      · intro j k s t hj hk hjk cj ck hs ht
        by_cases e : j = i
        · subst e
          have hk' : k ≠ j := fun h => hjk h.symm
          obtain ⟨g, h3, h4, _⟩ := hT hj
          obtain ⟨g', h5, h6⟩ := hown k t hk (ck.resolve_left hk') ht
          rw [same s hs, keep v k t hk' ht, h3, h5]
          intro h
          have := Option.some.inj h
          omega
        · by_cases e2 : k = i
          · subst e2
            obtain ⟨g, h3, h4, _⟩ := hT hk
            obtain ⟨g', h5, h6⟩ := hown j s hj (cj.resolve_left e) hs
            rw [same t ht, keep v j s e hs, h3, h5]
            intro h
            have := Option.some.inj h
            omega
          · rw [keep v j s e hs, keep v k t e2 ht]
            exact hdis j k s t hj hk hjk (cj.resolve_left e) (ck.resolve_left e2) hs ht
    revert h2
    generalize (execOp b.eval o).run P u = r
    intro h2
    cases r with
    | ok n u' =>
      cases n <;> simp only [yieldsY] at h2 ⊢
      all_goals first
        | exact fin _ _ h2
        | exact h2.mono fun e u'' ⟨v, he, h3⟩ => ⟨v, he, fin _ _ h3⟩
    | halt x u' => exact h2
  · rintro xs u hl ⟨hb, _, _, _⟩ hF
    exact hend xs u hl hb hF
end Go.Proofs.Ytckkdgifjgkoaaa
