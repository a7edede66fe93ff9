/- Regions within a round that only read; regions that hold two calls, which may come in either order. Nothing of the program is in here. -/
import Derived.Test.YtckkdgifjgkoaaaSpReg
import Derived.Test.YtckkdgifjgkoaaaAnIter
import Derived.OrdersIn
namespace Go.Proofs.Ytckkdgifjgkoaaa
open Go.RowKit

def Region.plainB (l : List Oper) : Bool := l.all fun o => match o.op with | .defer _ => false | _ => true
theorem plain_of {l : List Oper} (h : Region.plainB l = true) {i : Nat} {o : Oper} (ho : l[i]? = some o) : ∀ c, o.op ≠ .defer c := by
  intro c hc
  have := List.all_eq_true.1 h o (List.mem_of_getElem? ho)
  rw [hc] at this; cases this

/-- An operation that was carried out in u: a value, nothing (a store), or a call. -/
def yieldsX (P : Program) (G : World → World → Prop) (F : Value → World → Prop) (u : World) : Result Next → Prop
  | .ok (.value v) u' => G u u' ∧ F v u'
  | .ok .skip u' => G u u' ∧ F undef u'
  | .ok (.enter f args) u' => Calls P f args u' fun e u'' => ∃ v, e = .returned v ∧ G u u'' ∧ F v u''
  | _ => False
/-- What has come up holds, also of an operation that writes no slot. -/
def MetX (ops : Array Oper) (F : Nat → Value → World → Prop) (a : Act) (come : Nat → Prop) (b : Act) (u : World) : Prop := Met ops F a come b u ∧ ∀ i, come i → ∃ v, F i v u

section
variable {P : Program} {ops : Array Oper} {Q : Exit → Act → World → Prop} {a : Act} {F : Nat → Value → World → Prop} {G : World → World → Prop} {w0 : World}

theorem any_met_in (l : Nat) (hdef : ∀ (i : Nat) (o : Oper), ops[i]? = some o → ∀ c, o.op ≠ .defer c) (htidy : Region.tidyB ops a.tmps.size = true) (hst : ∀ i v u u', F i v u → G u u' → F i v u') (hGt : ∀ u v z, G u v → G v z → G u z)
    (hop : ∀ (i : Nat) (o : Oper) (b : Act) (u : World), ops[i]? = some o → G w0 u → b.tmps.size = a.tmps.size → (∀ t, (∀ i, dstAt ops i ≠ some t) → b.tmps.getD t undef = a.tmps.getD t undef) →
      (∀ e ∈ o.after, Region.binds .any e = true → ∀ t, dstAt ops e.on = some t → F e.on (b.tmps.getD t undef) u) →
      if Region.wanted o (yielded ops b.tmps) then yieldsX P G (F i) u ((execOp b.eval o).run P u) else F i undef u ∧ G u u)
    (hend : ∀ b u, G w0 u → MetX ops F a (fun i => i < ops.size) b u → Q .normal b u) :
    ∀ (fuel : Nat) (listed : Array Bool) (b : Act) (u : World), listed.size = ops.size → (listed.toList.filter (fun x => !x)).length ≤ fuel → G w0 u → MetX ops F a (fun i => listed.getD i false = true) b u → wpAnyIn (Fence.wide.inRound l) 0 P .any ops Q fuel listed b u := by
  have done : ∀ (listed : Array Bool) (b : Act) (u : World), listed.size = ops.size → G w0 u → MetX ops F a (fun i => listed.getD i false = true) b u → Region.ready .any ops listed = [] → Q .normal b u := by
    intro listed b u hs hG hm hr
    refine hend b u hG ?_
    have all : ∀ i, i < ops.size → listed.getD i false = true := by
      intro i
      induction i using Nat.strongRecOn with
      | _ i ih =>
        intro hi
        rcases hb : listed.getD i false with _ | _
        · exfalso
          obtain ⟨o, ho⟩ : ∃ o, ops[i]? = some o := ⟨_, Array.getElem?_eq_getElem hi⟩
          have hmem : i ∈ Region.ready .any ops listed := by
            unfold Region.ready
            rw [List.mem_filter]
            refine ⟨List.mem_range.2 hi, ?_⟩
            have hl : listed.getD i true = false := by
              rw [Array.getD_eq_getD_getElem?, Array.getElem?_eq_getElem (by omega)] at hb ⊢
              exact hb
            rw [hl, ho]
            simp only [Bool.not_false, Bool.true_and, Option.map_some, Option.getD_some]
            rw [Array.all_eq_true']
            intro e he
            cases hb : Region.binds .any e with
            | false => simp
            | true =>
              have := ih e.on (tidy_after htidy ho e he hb) (Nat.lt_trans (tidy_after htidy ho e he hb) hi)
              rw [this]; simp
          rw [hr] at hmem; cases hmem
        · rfl
    exact ⟨⟨hm.1.defers, hm.1.size, fun t ht => hm.1.old t fun i hi => ht i (by
      rcases Nat.lt_or_ge i ops.size with h | h
      · exact h
      · rw [Array.getD_eq_getD_getElem?, Array.getElem?_eq_none (by omega)] at hi; cases hi), fun i t hi hd => hm.1.new i t (all i hi) hd⟩, fun i hi => hm.2 i (all i hi)⟩
  intro fuel
  induction fuel with
  | zero =>
    intro listed b u hs hf hG hm
    have hr : Region.ready .any ops listed = [] := by
      rw [List.eq_nil_iff_forall_not_mem]
      intro i hi
      unfold Region.ready at hi
      rw [List.mem_filter] at hi
      obtain ⟨h1, h2⟩ := hi
      rw [List.mem_range] at h1
      rw [Bool.and_eq_true] at h2
      have hl : listed.getD i true = false := by simpa using h2.1
      rw [Array.getD_eq_getD_getElem?, Array.getElem?_eq_getElem (by omega)] at hl
      have : listed[i]'(by omega) ∈ listed.toList.filter (fun x => !x) := by
        rw [List.mem_filter]; refine ⟨by simp, ?_⟩
        have e : listed[i]'(by omega) = false := hl
        rw [e]; rfl
      have := List.length_pos_of_mem this
      omega
    exact ⟨hr, done listed b u hs hG hm hr⟩
  | succ fuel ih =>
    intro listed b u hs hf hG hm
    refine ⟨fun hr => done listed b u hs hG hm hr, fun i hi => ?_⟩
    unfold Region.ready at hi
    rw [List.mem_filter] at hi
    obtain ⟨h1, h2⟩ := hi
    rw [List.mem_range] at h1
    rw [Bool.and_eq_true] at h2
    have hl : listed.getD i true = false := by simpa using h2.1
    rw [Array.getD_eq_getD_getElem?, Array.getElem?_eq_getElem (by omega)] at hl
    have hl' : listed[i]'(by omega) = false := hl
    obtain ⟨o, ho⟩ : ∃ o, ops[i]? = some o := ⟨_, Array.getElem?_eq_getElem h1⟩
    have hdeps := h2.2
    rw [ho] at hdeps
    simp only [Option.map_some, Option.getD_some] at hdeps
    have next : ∀ v u', G u u' → F i v u' → wpAnyIn (Fence.wide.inRound l) 0 P .any ops Q fuel (listed.setIfInBounds i true) (b.put o.dst v) u' := by
      intro v u' hG' hF
      refine ih _ _ _ (by simp [hs]) ?_ (hGt _ _ _ hG hG') ?_
      · have hlen : i < listed.toList.length := by simp; omega
        have hsplit : listed.toList = listed.toList.take i ++ false :: listed.toList.drop (i + 1) := by
          have h := List.take_append_drop i listed.toList
          rw [List.drop_eq_getElem_cons hlen, Array.getElem_toList, hl'] at h
          exact h.symm
        have hset : (listed.setIfInBounds i true).toList = listed.toList.take i ++ true :: listed.toList.drop (i + 1) := by
          rw [Array.toList_setIfInBounds, List.set_eq_take_append_cons_drop, if_pos hlen]
        rw [hsplit] at hf
        rw [hset]
        simp only [List.filter_append, List.filter_cons, List.length_append, Bool.not_false, Bool.not_true, if_true, Bool.false_eq_true, if_false, List.length_cons] at hf ⊢
        omega
      · have hm' := met_put htidy hst hm.1 ho hG' hF
        have iff : ∀ j, (listed.setIfInBounds i true).getD j false = true ↔ (j = i ∨ listed.getD j false = true) := by
          intro j
          by_cases e : j = i
          · subst e
            simp [Array.getD_eq_getD_getElem?, show j < listed.size by omega]
          · simp [Array.getD_eq_getD_getElem?, Array.getElem?_setIfInBounds_ne (Ne.symm e), e]
        exact ⟨⟨hm'.defers, hm'.size, fun t ht => hm'.old t fun j hj => ht j ((iff j).2 hj), fun j t hj hd => hm'.new j t ((iff j).1 hj) hd⟩, fun j hj => by
          rcases (iff j).1 hj with e | h
          · rw [e]; exact ⟨v, hF⟩
          · obtain ⟨x, hx⟩ := hm.2 j h
            exact ⟨x, hst _ _ _ _ hx hG'⟩⟩
    have hstep := hop i o b u ho hG hm.1.size (fun t ht => hm.1.old t fun j _ => ht j) (fun e he hb t hd => hm.1.new e.on t (by
      have := Array.all_eq_true'.1 hdeps e he
      rw [hb] at this
      simpa using this) hd)
    unfold wpOpIn
    rw [ho]
    simp only
    split
    · rename_i hw
      rw [if_pos hw] at hstep
      refine ⟨fun _ _ => trivial, ?_⟩
      have hsem : Oper.semAt (Fence.wide.inRound l).round b.eval o = execOp b.eval o := Oper.semAt_some l b.eval o (hdef i o ho)
      rw [hsem]
      generalize (execOp b.eval o).run P u = r at hstep
      cases r with
      | ok n u' =>
        cases n <;> simp only [yieldsX] at hstep <;> simp only [Oper.uponIn]
        case value v => exact next v u' hstep.1 hstep.2
        case skip => exact next undef u' hstep.1 hstep.2
        case enter f args =>
          refine ⟨fun h => (by cases h), ?_⟩
          exact (CallsIn.inRound l (callsIn_wide.2 hstep)).mono fun e u'' ⟨v, he, h3, h4⟩ => by subst he; exact next v u'' h3 h4
      | halt x u' => simp only [yieldsX] at hstep
    · rename_i hw
      rw [if_neg hw] at hstep
      exact ⟨fun _ _ => trivial, next undef u hstep.2 hstep.1⟩
end

/-- **A region that draws its order, by what holds of each value.** -/
theorem wpIn_region_values {l0 : Nat} {P : Program} {id : Nat} {l : List Oper} {Q : Exit → Act → World → Prop} {a : Act} {w : World} (hmix : P.follows .mixedOrders = true) (F : Nat → Value → World → Prop) (G : World → World → Prop)
    (hplain : Region.plainB l = true) (htidy : Region.tidyB l.toArray a.tmps.size = true) (hst : ∀ i v u u', F i v u → G u u' → F i v u') (hGr : ∀ u, G u u) (hGt : ∀ u v z, G u v → G v z → G u z)
    (hop : ∀ (i : Nat) (o : Oper) (b : Act) (u : World), l[i]? = some o → G w.drew u → (∀ t, (∀ i, dstAt l.toArray i ≠ some t) → b.tmps.getD t undef = a.tmps.getD t undef) →
      (∀ j t, (o.after.any fun e => Region.binds .any e && e.on == j) = true → dstAt l.toArray j = some t → F j (b.tmps.getD t undef) u) →
      (Region.wanted o (yielded l.toArray b.tmps) = true ∧ yieldsX P G (F i) u ((execOp b.eval o).run P u)) ∨ (Region.wanted o (yielded l.toArray b.tmps) = false ∧ F i undef u))
    (hend : ∀ b u, G w.drew u → MetX l.toArray F a (fun i => i < l.length) b u → Q .normal b u) : (Code.region id l.toArray true).wpIn (Fence.wide.inRound l0) 0 P Q a w := by
  refine wpIn_region_any hmix ?_
  refine any_met_in l0 (fun i o ho => plain_of hplain (by simpa using ho)) (w0 := w.drew) htidy hst hGt (fun i o b u ho hG _ hold hdeps => either (hGr u) <| hop i o b u (by simpa using ho) hG hold (fun j t hj hd => by
    obtain ⟨e, he, h⟩ := Array.any_eq_true'.1 hj
    rw [Bool.and_eq_true] at h
    have hj' : e.on = j := by simpa using h.2
    subst hj'
    exact hdeps e he h.1 t hd)) (fun b u hG hm => hend b u hG (by simpa using hm)) _ _ _ _ (by simp) ?_ (hGr _) ?_
  · simp
  · refine ⟨⟨rfl, rfl, fun _ _ => rfl, fun i t hi _ => ?_⟩, fun i hi => ?_⟩
    all_goals
      exfalso
      simp [Array.getD_eq_getD_getElem?, Array.getElem?_replicate] at hi
      split at hi <;> simp at hi



/-- A region in a round that only reads. -/
theorem region_read_in {l0 : Nat} {P : Program} {id : Nat} {l : List Oper} {Q : Exit → Act → World → Prop} {a : Act} {w : World} (hmix : P.follows .mixedOrders = true) (vs : List Value)
    (hplain : Region.plainB l = true) (htidy : Region.tidyB l.toArray a.tmps.size = true)
    (hop : ∀ (i : Nat) (o : Oper) (b : Act), l[i]? = some o → Slots l a vs o b →
      (Region.wanted o (yielded l.toArray b.tmps) = true ∧ (execOp b.eval o).run P w.drew = .ok (.value (vs.getD i undef)) w.drew) ∨ (Region.wanted o (yielded l.toArray b.tmps) = false ∧ vs.getD i undef = undef))
    (hend : Q .normal (putAll l.toArray vs l.length a) w.drew) : (Code.region id l.toArray true).wpIn (Fence.wide.inRound l0) 0 P Q a w := by
  refine wpIn_region_values hmix (IsVal vs) (fun u u' => u' = u) hplain htidy ?_ (fun _ => rfl) ?_ ?_ ?_
  · rintro i v u u' h rfl; exact h
  · rintro u v z rfl rfl; rfl
  · rintro i o b u ho rfl hold hdeps
    have hs : Slots l a vs o b := ⟨fun t ht => hold t (base_of ht), fun j t h1 h2 => hdeps j t h1 h2⟩
    rcases hop i o b ho hs with ⟨h1, h2⟩ | ⟨h1, h2⟩
    · exact .inl ⟨h1, by rw [h2]; exact ⟨rfl, rfl⟩⟩
    · exact .inr ⟨h1, h2.symm⟩
  · rintro b u rfl hmet
    rw [met_all_list htidy hmet.1]
    exact hend

/-- A region that holds two calls, numbers i1 and i2, which may come in either order: J tells how memory is before and behind each. -/
theorem wp_region_two {P : Program} {id : Nat} {l : List Oper} {Q : Exit → Act → World → Prop} {a : Act} {w : World} (hmix : P.follows .mixedOrders = true) (vs : List Value) (i1 i2 : Nat) (J : Bool → Bool → World → Prop) (htidy : Region.tidyB l.toArray a.tmps.size = true)
    (h1 : i1 < l.length) (h2 : i2 < l.length) (hne : i1 ≠ i2) (h0 : J false false w.drew)
    (hop : ∀ (i : Nat) (o : Oper) (b : Act) (u : World) (p q : Bool), l[i]? = some o → i ≠ i1 → i ≠ i2 → J p q u → Slots l a vs o b →
      Region.wanted o (yielded l.toArray b.tmps) = true ∧ yieldsY P (fun v u' => v = vs.getD i undef ∧ u' = u) ((execOp b.eval o).run P u))
    (hop1 : ∀ (o : Oper) (b : Act) (u : World) (q : Bool), l[i1]? = some o → J false q u → Slots l a vs o b →
      Region.wanted o (yielded l.toArray b.tmps) = true ∧ yieldsY P (fun v u' => v = vs.getD i1 undef ∧ J true q u') ((execOp b.eval o).run P u))
    (hop2 : ∀ (o : Oper) (b : Act) (u : World) (p : Bool), l[i2]? = some o → J p false u → Slots l a vs o b →
      Region.wanted o (yielded l.toArray b.tmps) = true ∧ yieldsY P (fun v u' => v = vs.getD i2 undef ∧ J p true u') ((execOp b.eval o).run P u))
    (hend : ∀ u, J true true u → Q .normal (putAll l.toArray vs l.length a) u) : (Code.region id l.toArray true).wp P Q a w := by
  refine wp_region_inv hmix (IsVal vs) (fun come u => ∃ p q : Bool, (p = true ↔ come i1) ∧ (q = true ↔ come i2) ∧ J p q u) htidy ⟨false, false, by simp, by simp, h0⟩ ?_ ?_
  · rintro i o b u come ho hn _ hr ⟨p, q, hp, hq, hJ⟩ hold hnew
    have hs : Slots l a vs o b := ⟨fun t ht => hold t (base_of ht), fun j t k1 k2 => hnew j t (hr j k1) k2⟩
    have go : ∀ (R : Value → World → Prop), (∀ v u', R v u' → (∃ p q : Bool, (p = true ↔ (i1 = i ∨ come i1)) ∧ (q = true ↔ (i2 = i ∨ come i2)) ∧ J p q u') ∧ v = vs.getD i undef) → yieldsY P R ((execOp b.eval o).run P u) →
        yieldsY P (fun v u' => (∃ p q : Bool, (p = true ↔ (i1 = i ∨ come i1)) ∧ (q = true ↔ (i2 = i ∨ come i2)) ∧ J p q u') ∧ IsVal vs i v u' ∧ ∀ j x, come j → IsVal vs j x u → IsVal vs j x u') ((execOp b.eval o).run P u) := by
      intro R hR
      generalize (execOp b.eval o).run P u = r
      intro hy
      have fin : ∀ v u', R v u' → (∃ p q : Bool, (p = true ↔ (i1 = i ∨ come i1)) ∧ (q = true ↔ (i2 = i ∨ come i2)) ∧ J p q u') ∧ IsVal vs i v u' ∧ ∀ j x, come j → IsVal vs j x u → IsVal vs j x u' := fun v u' h => ⟨(hR v u' h).1, (hR v u' h).2, fun _ _ _ h => h⟩
      cases r with
      | ok n u' =>
        cases n <;> simp only [yieldsY] at hy ⊢
        all_goals first
          | exact fin _ _ hy
          | exact hy.mono fun e u'' ⟨v, he, h3⟩ => ⟨v, he, fin _ _ h3⟩
      | halt x u' => exact hy
    by_cases e1 : i = i1
    · subst e1
      have hp0 : p = false := by cases p with | false => rfl | true => exact absurd (hp.1 rfl) hn
      subst hp0
      obtain ⟨k1, k2⟩ := hop1 o b u q ho hJ hs
      refine .inl ⟨k1, go _ ?_ k2⟩
      rintro v u' ⟨rfl, hJ'⟩
      exact ⟨⟨true, q, ⟨fun _ => .inl rfl, fun _ => rfl⟩, ⟨fun h => .inr (hq.1 h), fun h => h.elim (fun h => absurd h.symm hne) hq.2⟩, hJ'⟩, rfl⟩
    · by_cases e2 : i = i2
      · subst e2
        have hq0 : q = false := by cases q with | false => rfl | true => exact absurd (hq.1 rfl) hn
        subst hq0
        obtain ⟨k1, k2⟩ := hop2 o b u p ho hJ hs
        refine .inl ⟨k1, go _ ?_ k2⟩
        rintro v u' ⟨rfl, hJ'⟩
        exact ⟨⟨p, true, ⟨fun h => .inr (hp.1 h), fun h => h.elim (fun h => absurd h hne) hp.2⟩, ⟨fun _ => .inl rfl, fun _ => rfl⟩, hJ'⟩, rfl⟩
      · obtain ⟨k1, k2⟩ := hop i o b u p q ho e1 e2 hJ hs
        refine .inl ⟨k1, go _ ?_ k2⟩
        rintro v u' ⟨rfl, rfl⟩
        exact ⟨⟨p, q, ⟨fun h => .inr (hp.1 h), fun h => h.elim (fun h => absurd h.symm e1) hp.2⟩, ⟨fun h => .inr (hq.1 h), fun h => h.elim (fun h => absurd h.symm e2) hq.2⟩, hJ⟩, rfl⟩
  · rintro b u ⟨p, q, hp, hq, hJ⟩ hmet
    rw [met_all_list htidy hmet]
    have hp1 : p = true := hp.2 h1
    have hq1 : q = true := hq.2 h2
    subst hp1
    subst hq1
    exact hend u hJ
end Go.Proofs.Ytckkdgifjgkoaaa
