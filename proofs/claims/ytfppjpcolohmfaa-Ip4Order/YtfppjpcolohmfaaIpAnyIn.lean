/- A region in a round whose operations come up in whatever order: the rule of CkAny within the body of a range over a function. Nothing of the program is in here. -/
import Derived.Test.YtfppjpcolohmfaaCkAny
import Derived.Test.YtfppjpcolohmfaaCkIter
import Derived.OrdersIn
namespace Go.Proofs.Ytfppjpcolohmfaa
open Go.RowKit

def Region.plainB (l : List Oper) : Bool := l.all fun o => match o.op with | .defer _ => false | _ => true
theorem plain_of {l : List Oper} (h : Region.plainB l = true) {i : Nat} {o : Oper} (ho : l[i]? = some o) : ∀ c, o.op ≠ .defer c := by
  intro c hc
  have := List.all_eq_true.1 h o (List.mem_of_getElem? ho)
  rw [hc] at this; cases this

/-- An operation that was carried out in u: a value, nothing (a store), or a call. -/
def yieldsX (P : Program) (G : World → World → Prop) (F : Value → World → Prop) (u : World) : Result Next → Prop
  | .ok (.value v) u' => G u u' ∧ F v u'
  | .ok .skip u' => G u u' ∧ F undef u'
  | .ok (.enter f args) u' => Calls P f args u' fun e u'' => ∃ v, e = .returned v ∧ G u u'' ∧ F v u''
  | _ => False
/-- What has come up holds, also of an operation that writes no slot. -/
def MetX (ops : Array Oper) (F : Nat → Value → World → Prop) (a : Act) (come : Nat → Prop) (b : Act) (u : World) : Prop := Met ops F a come b u ∧ ∀ i, come i → ∃ v, F i v u

section
variable {P : Program} {ops : Array Oper} {Q : Exit → Act → World → Prop} {a : Act} {F : Nat → Value → World → Prop} {G : World → World → Prop} {w0 : World}

theorem any_met_in (l : Nat) (hdef : ∀ (i : Nat) (o : Oper), ops[i]? = some o → ∀ c, o.op ≠ .defer c) (htidy : Region.tidyB ops a.tmps.size = true) (hst : ∀ i v u u', F i v u → G u u' → F i v u') (hGt : ∀ u v z, G u v → G v z → G u z)
    (hop : ∀ (i : Nat) (o : Oper) (b : Act) (u : World), ops[i]? = some o → G w0 u → b.tmps.size = a.tmps.size → (∀ t, (∀ i, dstAt ops i ≠ some t) → b.tmps.getD t undef = a.tmps.getD t undef) →
      (∀ e ∈ o.after, Region.binds .any e = true → ∀ t, dstAt ops e.on = some t → F e.on (b.tmps.getD t undef) u) →
      if Region.wanted o (yielded ops b.tmps) then yieldsX P G (F i) u ((execOp b.eval o).run P u) else F i undef u ∧ G u u)
    (hend : ∀ b u, G w0 u → MetX ops F a (fun i => i < ops.size) b u → Q .normal b u) :
    ∀ (fuel : Nat) (listed : Array Bool) (b : Act) (u : World), listed.size = ops.size → (listed.toList.filter (fun x => !x)).length ≤ fuel → G w0 u → MetX ops F a (fun i => listed.getD i false = true) b u → wpAnyIn (Fence.wide.inRound l) 0 P .any ops Q fuel listed b u := by
  have done : ∀ (listed : Array Bool) (b : Act) (u : World), listed.size = ops.size → G w0 u → MetX ops F a (fun i => listed.getD i false = true) b u → Region.ready .any ops listed = [] → Q .normal b u := by
    intro listed b u hs hG hm hr
    refine hend b u hG ?_
    have all : ∀ i, i < ops.size → listed.getD i false = true := by
      intro i
      induction i using Nat.strongRecOn with
      | _ i ih =>
        intro hi
        rcases hb : listed.getD i false with _ | _
        · exfalso
          obtain ⟨o, ho⟩ : ∃ o, ops[i]? = some o := ⟨_, Array.getElem?_eq_getElem hi⟩
          have hmem : i ∈ Region.ready .any ops listed := by
            unfold Region.ready
            rw [List.mem_filter]
            refine ⟨List.mem_range.2 hi, ?_⟩
            have hl : listed.getD i true = false := by
              rw [Array.getD_eq_getD_getElem?, Array.getElem?_eq_getElem (by omega)] at hb ⊢
              exact hb
            rw [hl, ho]
            simp only [Bool.not_false, Bool.true_and, Option.map_some, Option.getD_some]
            rw [Array.all_eq_true']
            intro e he
            cases hb : Region.binds .any e with
            | false => simp
            | true =>
              have := ih e.on (tidy_after htidy ho e he hb) (Nat.lt_trans (tidy_after htidy ho e he hb) hi)
              rw [this]; simp
          rw [hr] at hmem; cases hmem
        · rfl
    exact ⟨⟨hm.1.defers, hm.1.size, fun t ht => hm.1.old t fun i hi => ht i (by
      rcases Nat.lt_or_ge i ops.size with h | h
      · exact h
      · rw [Array.getD_eq_getD_getElem?, Array.getElem?_eq_none (by omega)] at hi; cases hi), fun i t hi hd => hm.1.new i t (all i hi) hd⟩, fun i hi => hm.2 i (all i hi)⟩
  intro fuel
  induction fuel with
  | zero =>
    intro listed b u hs hf hG hm
    have hr : Region.ready .any ops listed = [] := by
      rw [List.eq_nil_iff_forall_not_mem]
      intro i hi
      unfold Region.ready at hi
      rw [List.mem_filter] at hi
      obtain ⟨h1, h2⟩ := hi
      rw [List.mem_range] at h1
      rw [Bool.and_eq_true] at h2
      have hl : listed.getD i true = false := by simpa using h2.1
      rw [Array.getD_eq_getD_getElem?, Array.getElem?_eq_getElem (by omega)] at hl
      have : listed[i]'(by omega) ∈ listed.toList.filter (fun x => !x) := by
        rw [List.mem_filter]; refine ⟨by simp, ?_⟩
        have e : listed[i]'(by omega) = false := hl
        rw [e]; rfl
      have := List.length_pos_of_mem this
      omega
    exact ⟨hr, done listed b u hs hG hm hr⟩
  | succ fuel ih =>
    intro listed b u hs hf hG hm
    refine ⟨fun hr => done listed b u hs hG hm hr, fun i hi => ?_⟩
    unfold Region.ready at hi
    rw [List.mem_filter] at hi
    obtain ⟨h1, h2⟩ := hi
    rw [List.mem_range] at h1
    rw [Bool.and_eq_true] at h2
    have hl : listed.getD i true = false := by simpa using h2.1
    rw [Array.getD_eq_getD_getElem?, Array.getElem?_eq_getElem (by omega)] at hl
    have hl' : listed[i]'(by omega) = false := hl
    obtain ⟨o, ho⟩ : ∃ o, ops[i]? = some o := ⟨_, Array.getElem?_eq_getElem h1⟩
    have hdeps := h2.2
    rw [ho] at hdeps
    simp only [Option.map_some, Option.getD_some] at hdeps
    have next : ∀ v u', G u u' → F i v u' → wpAnyIn (Fence.wide.inRound l) 0 P .any ops Q fuel (listed.setIfInBounds i true) (b.put o.dst v) u' := by
      intro v u' hG' hF
      refine ih _ _ _ (by simp [hs]) ?_ (hGt _ _ _ hG hG') ?_
      · have hlen : i < listed.toList.length := by simp; omega
        have hsplit : listed.toList = listed.toList.take i ++ false :: listed.toList.drop (i + 1) := by
          have h := List.take_append_drop i listed.toList
          rw [List.drop_eq_getElem_cons hlen, Array.getElem_toList, hl'] at h
          exact h.symm
        have hset : (listed.setIfInBounds i true).toList = listed.toList.take i ++ true :: listed.toList.drop (i + 1) := by
          rw [Array.toList_setIfInBounds, List.set_eq_take_append_cons_drop, if_pos hlen]
        rw [hsplit] at hf
        rw [hset]
        simp only [List.filter_append, List.filter_cons, List.length_append, Bool.not_false, Bool.not_true, if_true, Bool.false_eq_true, if_false, List.length_cons] at hf ⊢
        omega
      · have hm' := met_put htidy hst hm.1 ho hG' hF
        have iff : ∀ j, (listed.setIfInBounds i true).getD j false = true ↔ (j = i ∨ listed.getD j false = true) := by
          intro j
          by_cases e : j = i
          · subst e
            simp [Array.getD_eq_getD_getElem?, show j < listed.size by omega]
          · simp [Array.getD_eq_getD_getElem?, Array.getElem?_setIfInBounds_ne (Ne.symm e), e]
        exact ⟨⟨hm'.defers, hm'.size, fun t ht => hm'.old t fun j hj => ht j ((iff j).2 hj), fun j t hj hd => hm'.new j t ((iff j).1 hj) hd⟩, fun j hj => by
          rcases (iff j).1 hj with e | h
          · rw [e]; exact ⟨v, hF⟩
          · obtain ⟨x, hx⟩ := hm.2 j h
            exact ⟨x, hst _ _ _ _ hx hG'⟩⟩
    have hstep := hop i o b u ho hG hm.1.size (fun t ht => hm.1.old t fun j _ => ht j) (fun e he hb t hd => hm.1.new e.on t (by
      have := Array.all_eq_true'.1 hdeps e he
      rw [hb] at this
      simpa using this) hd)
    unfold wpOpIn
    rw [ho]
    simp only
    split
    · rename_i hw
      rw [if_pos hw] at hstep
      refine ⟨fun _ _ => trivial, ?_⟩
      have hsem : Oper.semAt (Fence.wide.inRound l).round b.eval o = execOp b.eval o := Oper.semAt_some l b.eval o (hdef i o ho)
      rw [hsem]
      generalize (execOp b.eval o).run P u = r at hstep
      cases r with
      | ok n u' =>
        cases n <;> simp only [yieldsX] at hstep <;> simp only [Oper.uponIn]
        case value v => exact next v u' hstep.1 hstep.2
        case skip => exact next undef u' hstep.1 hstep.2
        case enter f args =>
          refine ⟨fun h => (by cases h), ?_⟩
          exact (CallsIn.inRound l (callsIn_wide.2 hstep)).mono fun e u'' ⟨v, he, h3, h4⟩ => by subst he; exact next v u'' h3 h4
      | halt x u' => simp only [yieldsX] at hstep
    · rename_i hw
      rw [if_neg hw] at hstep
      exact ⟨fun _ _ => trivial, next undef u hstep.2 hstep.1⟩
end

/-- **A region that draws its order, by what holds of each value.** -/
theorem wpIn_region_values {l0 : Nat} {P : Program} {id : Nat} {l : List Oper} {Q : Exit → Act → World → Prop} {a : Act} {w : World} (hmix : P.follows .mixedOrders = true) (F : Nat → Value → World → Prop) (G : World → World → Prop)
    (hplain : Region.plainB l = true) (htidy : Region.tidyB l.toArray a.tmps.size = true) (hst : ∀ i v u u', F i v u → G u u' → F i v u') (hGr : ∀ u, G u u) (hGt : ∀ u v z, G u v → G v z → G u z)
    (hop : ∀ (i : Nat) (o : Oper) (b : Act) (u : World), l[i]? = some o → G w.drew u → (∀ t, (∀ i, dstAt l.toArray i ≠ some t) → b.tmps.getD t undef = a.tmps.getD t undef) →
      (∀ j t, (o.after.any fun e => Region.binds .any e && e.on == j) = true → dstAt l.toArray j = some t → F j (b.tmps.getD t undef) u) →
      (Region.wanted o (yielded l.toArray b.tmps) = true ∧ yieldsX P G (F i) u ((execOp b.eval o).run P u)) ∨ (Region.wanted o (yielded l.toArray b.tmps) = false ∧ F i undef u))
    (hend : ∀ b u, G w.drew u → MetX l.toArray F a (fun i => i < l.length) b u → Q .normal b u) : (Code.region id l.toArray true).wpIn (Fence.wide.inRound l0) 0 P Q a w := by
  refine wpIn_region_any hmix ?_
  refine any_met_in l0 (fun i o ho => plain_of hplain (by simpa using ho)) (w0 := w.drew) htidy hst hGt (fun i o b u ho hG _ hold hdeps => either (hGr u) <| hop i o b u (by simpa using ho) hG hold (fun j t hj hd => by
    obtain ⟨e, he, h⟩ := Array.any_eq_true'.1 hj
    rw [Bool.and_eq_true] at h
    have hj' : e.on = j := by simpa using h.2
    subst hj'
    exact hdeps e he h.1 t hd)) (fun b u hG hm => hend b u hG (by simpa using hm)) _ _ _ _ (by simp) ?_ (hGr _) ?_
  · simp
  · refine ⟨⟨rfl, rfl, fun _ _ => rfl, fun i t hi _ => ?_⟩, fun i hi => ?_⟩
    all_goals
      exfalso
      simp [Array.getD_eq_getD_getElem?, Array.getElem?_replicate] at hi
      split at hi <;> simp at hi


/-- What has come up, written out: the operations' values put one behind the other. -/
def putAll (ops : Array Oper) (vs : List Value) : Nat → Act → Act
  | 0, a => a
  | n + 1, a => (putAll ops vs n a).put (dstAt ops n) (vs.getD n undef)
def IsVal (vs : List Value) (i : Nat) (v : Value) (_ : World) : Prop := v = vs.getD i undef
theorem met_unique {ops : Array Oper} {vs : List Value} {a b b' : Act} {u u' : World} (h1 : Met ops (IsVal vs) a (fun i => i < ops.size) b u) (h2 : Met ops (IsVal vs) a (fun i => i < ops.size) b' u') : b = b' := by
  have hd : b.defers = b'.defers := h1.defers.trans h2.defers.symm
  have ht : b.tmps = b'.tmps := by
    refine Array.ext (h1.size.trans h2.size.symm) fun t ht1 ht2 => ?_
    have e : b.tmps.getD t undef = b'.tmps.getD t undef := by
      by_cases hx : ∃ j, dstAt ops j = some t
      · obtain ⟨j, hj⟩ := hx
        have hlt := dst_lt hj
        exact (h1.new j t hlt hj).trans (h2.new j t hlt hj).symm
      · exact (h1.old t fun j _ hj => hx ⟨j, hj⟩).trans (h2.old t fun j _ hj => hx ⟨j, hj⟩).symm
    simpa [Array.getD_eq_getD_getElem?, ht1, ht2] using e
  cases b; cases b'; simp only at hd ht; subst hd; subst ht; rfl
theorem putAll_met {ops : Array Oper} {vs : List Value} {a : Act} (u : World) (htidy : Region.tidyB ops a.tmps.size = true) : ∀ n, n ≤ ops.size → Met ops (IsVal vs) a (fun i => i < n) (putAll ops vs n a) u
  | 0, _ => ⟨rfl, rfl, fun _ _ => rfl, fun i _ hi _ => absurd hi (Nat.not_lt_zero i)⟩
  | n + 1, hn => by
    obtain ⟨o, ho⟩ : ∃ o, ops[n]? = some o := ⟨_, Array.getElem?_eq_getElem hn⟩
    have hdo : dstAt ops n = o.dst := by unfold dstAt; rw [ho]; rfl
    have m := met_put (F := IsVal vs) (G := fun _ _ => True) (u' := u) htidy (fun _ _ _ _ h _ => h) (putAll_met u htidy n (by omega)) ho (v := vs.getD n undef) trivial rfl
    rw [← hdo] at m
    exact ⟨m.defers, m.size, fun t ht => m.old t fun j hj => ht j (by rcases hj with rfl | hj <;> omega), fun j t hj hd => m.new j t (by omega) hd⟩
theorem met_all {ops : Array Oper} {vs : List Value} {a b : Act} {u : World} (htidy : Region.tidyB ops a.tmps.size = true) (h : Met ops (IsVal vs) a (fun i => i < ops.size) b u) : b = putAll ops vs ops.size a :=
  met_unique h (putAll_met u htidy ops.size (Nat.le_refl _))
theorem isVal_of {vs : List Value} {i : Nat} {v c : Value} {u : World} (hv : IsVal vs i v u) (h : vs.getD i undef = c) : v = c := Eq.trans hv h

/-- A region in a round that stores once, at its last operation, and reads no memory. -/
theorem region_store_in {l0 : Nat} {P : Program} {id : Nat} {l : List Oper} {Q : Exit → Act → World → Prop} {a : Act} {w : World} (hmix : P.follows .mixedOrders = true) (vs : List Value) (m : Nat) (u1 : World)
    (hplain : Region.plainB l = true) (htidy : Region.tidyB l.toArray a.tmps.size = true)
    (hop : ∀ (i : Nat) (o : Oper) (b : Act) (u : World), l[i]? = some o → u = w.drew ∨ u = u1 → (∀ t, (∀ i, dstAt l.toArray i ≠ some t) → b.tmps.getD t undef = a.tmps.getD t undef) →
      (∀ j t, (o.after.any fun e => Region.binds .any e && e.on == j) = true → dstAt l.toArray j = some t → b.tmps.getD t undef = vs.getD j undef) →
      Region.wanted o (yielded l.toArray b.tmps) = true ∧ (execOp b.eval o).run P u = if i = m then .ok .skip u1 else .ok (.value (vs.getD i undef)) u)
    (hm : m < l.length) (hvm : vs.getD m undef = undef) (hend : Q .normal (putAll l.toArray vs l.length a) u1) : (Code.region id l.toArray true).wpIn (Fence.wide.inRound l0) 0 P Q a w := by
  refine wpIn_region_values hmix (fun i v u => IsVal vs i v u ∧ (i = m → u = u1)) (fun u u' => u' = u ∨ u' = u1) hplain htidy ?_ (fun u => .inl rfl) ?_ ?_ ?_
  · rintro i v u u' ⟨h1, h2⟩ (rfl | rfl)
    · exact ⟨h1, h2⟩
    · exact ⟨h1, fun _ => rfl⟩
  · rintro u v z (rfl | rfl) (rfl | rfl)
    · exact .inl rfl
    · exact .inr rfl
    · exact .inr rfl
    · exact .inr rfl
  · intro i o b u ho hG hold hdeps
    obtain ⟨h1, h2⟩ := hop i o b u ho hG hold (fun j t hj hd => (hdeps j t hj hd).1)
    refine .inl ⟨h1, ?_⟩
    rw [h2]
    by_cases e : i = m
    · rw [if_pos e]; exact ⟨.inr rfl, by rw [e]; exact hvm.symm, fun _ => rfl⟩
    · rw [if_neg e]; exact ⟨.inl rfl, rfl, fun h => absurd h e⟩
  · intro b u _ hmet
    obtain ⟨h, hx⟩ := hmet
    have e := met_all (vs := vs) htidy (b := b) (u := u) ⟨h.defers, h.size, fun t ht => h.old t fun j hj => ht j (by simpa using hj), fun j t hj hd => (h.new j t (by simpa using hj) hd).1⟩
    obtain ⟨v, _, hu⟩ := hx m hm
    rw [e, hu rfl]
    simpa using hend
end Go.Proofs.Ytfppjpcolohmfaa
