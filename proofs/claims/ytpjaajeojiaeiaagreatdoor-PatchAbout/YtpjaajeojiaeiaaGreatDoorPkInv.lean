/- Regions whose operations come up in whatever order: an invariant that hangs on the slots, too; two stores one behind the other. Nothing of the program is in here. -/
import Derived.Test.YtpjaajeojiaeiaaGreatDoorRg
namespace Go.Proofs.YtpjaajeojiaeiaaGreatDoor
open Go.RowKit

section
variable {P : Program} {ops : Array Oper} {Q : Exit → Act → World → Prop} {a : Act} {F : Nat → Value → World → Prop} {I : (Nat → Prop) → Act → World → Prop}

theorem any_invb (htidy : Region.tidyB ops a.tmps.size = true)
  (hop : ∀ (i : Nat) (o : Oper) (b : Act) (u : World) (come : Nat → Prop), ops[i]? = some o → ¬ come i → Closed ops come → (∀ e ∈ o.after, Region.binds .any e = true → come e.on) → I come b u →
   (∀ t, (∀ i, dstAt ops i ≠ some t) → b.tmps.getD t undef = a.tmps.getD t undef) → (∀ j t, come j → dstAt ops j = some t → F j (b.tmps.getD t undef) u) →
   (Region.wanted o (yielded ops b.tmps) = true ∧ yieldsY P (fun v u' => I (fun j => j = i ∨ come j) (b.put o.dst v) u' ∧ F i v u' ∧ ∀ j x, come j → F j x u → F j x u') ((execOp b.eval o).run P u)) ∨
   (Region.wanted o (yielded ops b.tmps) = false ∧ I (fun j => j = i ∨ come j) (b.put o.dst undef) u ∧ F i undef u))
  (hend : ∀ b u, I (fun i => i < ops.size) b u → Met ops F a (fun i => i < ops.size) b u → Q .normal b u) :
  ∀ (fuel : Nat) (listed : Array Bool) (b : Act) (u : World), listed.size = ops.size → (listed.toList.filter (fun x => !x)).length ≤ fuel → Closed ops (fun i => listed.getD i false = true) → I (fun i => listed.getD i false = true) b u →
   Met ops F a (fun i => listed.getD i false = true) b u → wpAny P .any ops Q fuel listed b u := by
 have done : ∀ (listed : Array Bool) (b : Act) (u : World), listed.size = ops.size → I (fun i => listed.getD i false = true) b u → Met ops F a (fun i => listed.getD i false = true) b u → Region.ready .any ops listed = [] → Q .normal b u := by
  intro listed b u hs hI hm hr
  have all : ∀ i, i < ops.size → listed.getD i false = true := by
   intro i
   induction i using Nat.strongRecOn with
   | _ i ih =>
    intro hi
    rcases hb : listed.getD i false with _ | _
    ·exfalso
     obtain ⟨o, ho⟩ : ∃ o, ops[i]? = some o := ⟨_, Array.getElem?_eq_getElem hi⟩
     have hmem : i ∈ Region.ready .any ops listed := by
      unfold Region.ready
      rw [List.mem_filter]
      refine ⟨List.mem_range.2 hi, ?_⟩
      have hl : listed.getD i true = false := by
       rw [Array.getD_eq_getD_getElem?, Array.getElem?_eq_getElem (by omega)] at hb ⊢
       exact hb
      rw [hl, ho]
      simp only [Bool.not_false, Bool.true_and, Option.map_some, Option.getD_some]
      rw [Array.all_eq_true']
      intro e he
      cases hb : Region.binds .any e with
      | false => simp
      | true =>
       have := ih e.on (tidy_after htidy ho e he hb) (Nat.lt_trans (tidy_after htidy ho e he hb) hi)
       rw [this]; simp
     rw [hr] at hmem; cases hmem
    ·rfl
  have same : (fun i => listed.getD i false = true) = fun i => i < ops.size := by
   funext i
   refine propext ⟨fun hi => ?_, all i⟩
   rcases Nat.lt_or_ge i ops.size with h | h
   ·exact h
   ·rw [Array.getD_eq_getD_getElem?, Array.getElem?_eq_none (by omega)] at hi; cases hi
  rw [same] at hI hm
  exact hend b u hI hm
 intro fuel
 induction fuel with
 | zero =>
  intro listed b u hs hf hC hI hm
  have hr : Region.ready .any ops listed = [] := by
   rw [List.eq_nil_iff_forall_not_mem]
   intro i hi
   unfold Region.ready at hi
   rw [List.mem_filter] at hi
   obtain ⟨h1, h2⟩ := hi
   rw [List.mem_range] at h1
   rw [Bool.and_eq_true] at h2
   have hl : listed.getD i true = false := by simpa using h2.1
   rw [Array.getD_eq_getD_getElem?, Array.getElem?_eq_getElem (by omega)] at hl
   have : listed[i]'(by omega) ∈ listed.toList.filter (fun x => !x) := by
    rw [List.mem_filter]; refine ⟨by simp, ?_⟩
    have e : listed[i]'(by omega) = false := hl
    rw [e]; rfl
   have := List.length_pos_of_mem this
   omega
  exact ⟨hr, done listed b u hs hI hm hr⟩
 | succ fuel ih =>
  intro listed b u hs hf hC hI hm
  refine ⟨fun hr => done listed b u hs hI hm hr, fun i hi => ?_⟩
  unfold Region.ready at hi
  rw [List.mem_filter] at hi
  obtain ⟨h1, h2⟩ := hi
  rw [List.mem_range] at h1
  rw [Bool.and_eq_true] at h2
  have hl : listed.getD i true = false := by simpa using h2.1
  rw [Array.getD_eq_getD_getElem?, Array.getElem?_eq_getElem (by omega)] at hl
  have hl' : listed[i]'(by omega) = false := hl
  obtain ⟨o, ho⟩ : ∃ o, ops[i]? = some o := ⟨_, Array.getElem?_eq_getElem h1⟩
  have hdeps := h2.2
  rw [ho] at hdeps
  simp only [Option.map_some, Option.getD_some] at hdeps
  have iff : ∀ j, (listed.setIfInBounds i true).getD j false = true ↔ (j = i ∨ listed.getD j false = true) := by
   intro j
   by_cases e : j = i
   ·subst e
    simp [Array.getD_eq_getD_getElem?, show j < listed.size by omega]
   ·simp [Array.getD_eq_getD_getElem?, Array.getElem?_setIfInBounds_ne (Ne.symm e), e]
  have same : (fun j => (listed.setIfInBounds i true).getD j false = true) = fun j => j = i ∨ listed.getD j false = true := funext fun j => propext (iff j)
  have hready : ∀ e ∈ o.after, Region.binds .any e = true → listed.getD e.on false = true := fun e he hb => by
   have := Array.all_eq_true'.1 hdeps e he
   rw [hb] at this
   simpa using this
  have hnot : ¬ listed.getD i false = true := by
   rw [Array.getD_eq_getD_getElem?, Array.getElem?_eq_getElem (by omega)]
   simp [hl']
  have next : ∀ v u', I (fun j => j = i ∨ listed.getD j false = true) (b.put o.dst v) u' → F i v u' → (∀ j x, listed.getD j false = true → F j x u → F j x u') → wpAny P .any ops Q fuel (listed.setIfInBounds i true) (b.put o.dst v) u' := by
   intro v u' hI' hF hst
   refine ih _ _ _ (by simp [hs]) ?_ ?_ (by rw [same]; exact hI') (by rw [same]; exact met_put_inv htidy hm ho hst hF)
   ·have hlen : i < listed.toList.length := by simp; omega
    have hsplit : listed.toList = listed.toList.take i ++ false :: listed.toList.drop (i + 1) := by
     have h := List.take_append_drop i listed.toList
     rw [List.drop_eq_getElem_cons hlen, Array.getElem_toList, hl'] at h
     exact h.symm
    have hset : (listed.setIfInBounds i true).toList = listed.toList.take i ++ true :: listed.toList.drop (i + 1) := by
     rw [Array.toList_setIfInBounds, List.set_eq_take_append_cons_drop, if_pos hlen]
    rw [hsplit] at hf
    rw [hset]
    simp only [List.filter_append, List.filter_cons, List.length_append, Bool.not_false, Bool.not_true, if_true, Bool.false_eq_true, if_false, List.length_cons] at hf ⊢
    omega
   ·rw [same]
    intro j o' hj ho' e he hb
    rcases hj with rfl | hj
    ·rw [ho] at ho'; cases ho'; exact .inr (hready e he hb)
    ·exact .inr (hC j o' hj ho' e he hb)
  have hstep := hop i o b u _ ho hnot hC hready hI (fun t ht => hm.old t fun j _ => ht j) (fun j t hj hd => hm.new j t hj hd)
  unfold wpOp
  rw [ho]
  simp only
  rcases hstep with ⟨hw, hstep⟩ | ⟨hw, h1, h2⟩
  ·rw [if_pos hw]
   left
   unfold Oper.wp
   generalize (execOp b.eval o).run P u = r at hstep
   cases r with
   | ok n u' =>
    cases n <;> simp only [yieldsY] at hstep <;> simp only [Oper.upon]
    case value v => exact next v u' hstep.1 hstep.2.1 hstep.2.2
    case skip => exact next undef u' hstep.1 hstep.2.1 hstep.2.2
    case enter f args =>
     exact hstep.mono fun e u'' ⟨v, he, h3, h4, h5⟩ => by subst he; exact next v u'' h3 h4 h5
   | halt x u' => simp only [yieldsY] at hstep
  ·rw [if_neg (by rw [hw]; decide)]
   exact next undef u h1 h2 fun _ _ _ h => h
end

/-- **A region that draws its order, by an invariant that hangs on the slots, too.** -/
theorem wp_region_invb {P : Program} {id : Nat} {l : List Oper} {Q : Exit → Act → World → Prop} {a : Act} {w : World} (hmix : P.follows .mixedOrders = true) (F : Nat → Value → World → Prop) (I : (Nat → Prop) → Act → World → Prop)
  (htidy : Region.tidyB l.toArray a.tmps.size = true) (h0 : I (fun _ => False) a w.drew)
  (hop : ∀ (i : Nat) (o : Oper) (b : Act) (u : World) (come : Nat → Prop), l[i]? = some o → ¬ come i → Closed l.toArray come → (∀ j, (o.after.any fun e => Region.binds .any e && e.on == j) = true → come j) → I come b u →
   (∀ t, (∀ i, dstAt l.toArray i ≠ some t) → b.tmps.getD t undef = a.tmps.getD t undef) → (∀ j t, come j → dstAt l.toArray j = some t → F j (b.tmps.getD t undef) u) →
   (Region.wanted o (yielded l.toArray b.tmps) = true ∧ yieldsY P (fun v u' => I (fun j => j = i ∨ come j) (b.put o.dst v) u' ∧ F i v u' ∧ ∀ j x, come j → F j x u → F j x u') ((execOp b.eval o).run P u)) ∨
   (Region.wanted o (yielded l.toArray b.tmps) = false ∧ I (fun j => j = i ∨ come j) (b.put o.dst undef) u ∧ F i undef u))
  (hend : ∀ b u, I (fun i => i < l.length) b u → Met l.toArray F a (fun i => i < l.length) b u → Q .normal b u) : (Code.region id l.toArray true).wp P Q a w := by
 refine wp_region_any hmix ?_
 have hnone : (fun i => (Array.replicate l.toArray.size false).getD i false = true) = fun _ => False := by
  funext i
  refine propext ⟨fun hi => ?_, fun h => h.elim⟩
  simp [Array.getD_eq_getD_getElem?, Array.getElem?_replicate] at hi
  split at hi <;> simp at hi
 refine any_invb htidy (fun i o b u come ho hn hC hr hI hold hnew => hop i o b u come (by simpa using ho) hn hC (fun j hj => by
  obtain ⟨e, he, h⟩ := Array.any_eq_true'.1 hj
  rw [Bool.and_eq_true] at h
  have hj' : e.on = j := by simpa using h.2
  subst hj'
  exact hr e he h.1) hI hold hnew) (fun b u hI hm => hend b u (by simpa using hI) (by simpa using hm)) _ _ _ _ (by simp) ?_ ?_ ?_ ?_
 ·simp
 ·rw [hnone]; intro j o hj; exact hj.elim
 ·rw [hnone]; exact h0
 ·rw [hnone]; exact ⟨rfl, rfl, fun _ _ => rfl, fun i t hi _ => hi.elim⟩

/-- The same, with what has come up as a list. -/
theorem wp_region_invx {P : Program} {id : Nat} {l : List Oper} {Q : Exit → Act → World → Prop} {a : Act} {w : World} (hmix : P.follows .mixedOrders = true) (F : Nat → Value → World → Prop) (I : (Nat → Prop) → Act → World → Prop)
  (htidy : Region.tidyB l.toArray a.tmps.size = true) (h0 : I (fun _ => False) a w.drew)
  (hop : ∀ (i : Nat) (o : Oper) (b : Act) (u : World) (come : Nat → Prop), l[i]? = some o → ¬ come i → Closed l.toArray come → (∀ j, (o.after.any fun e => Region.binds .any e && e.on == j) = true → come j) → I come b u →
   (∀ t, (∀ i, dstAt l.toArray i ≠ some t) → b.tmps.getD t undef = a.tmps.getD t undef) → (∀ j t, come j → dstAt l.toArray j = some t → F j (b.tmps.getD t undef) u) →
   (Region.wanted o (yielded l.toArray b.tmps) = true ∧ yieldsY P (fun v u' => I (fun j => j = i ∨ come j) (b.put o.dst v) u' ∧ F i v u' ∧ ∀ j x, come j → F j x u → F j x u') ((execOp b.eval o).run P u)) ∨
   (Region.wanted o (yielded l.toArray b.tmps) = false ∧ I (fun j => j = i ∨ come j) (b.put o.dst undef) u ∧ F i undef u))
  (hend : ∀ xs u, xs.length = l.length → I (fun i => i < l.length) (putAll l.toArray xs l.length a) u → (∀ i t, i < l.length → dstAt l.toArray i = some t → F i (xs.getD i undef) u) → Q .normal (putAll l.toArray xs l.length a) u) : (Code.region id l.toArray true).wp P Q a w := by
 refine wp_region_invb hmix F I htidy h0 hop ?_
 intro b u hI hm
 have e : b = putAll l.toArray (upOf l b) l.length a := met_all_list (vs := upOf l b) htidy (u := u) ⟨hm.defers, hm.size, hm.old, fun i t hi hd => (upOf_at hi hd).symm⟩
 rw [e] at hI ⊢
 refine hend _ u (upOf_length l b) hI fun i t hi hd => ?_
 rw [upOf_at hi hd]
 exact hm.new i t hi hd

/-- The region stores twice, the second store behind the first one, and leaves memory as it is besides. -/
theorem wp_region_two {P : Program} {id : Nat} {l : List Oper} {Q : Exit → Act → World → Prop} {a : Act} {w : World} (hmix : P.follows .mixedOrders = true) (vs : List Value) (m1 m2 : Nat) (U1 U2 : World) (htidy : Region.tidyB l.toArray a.tmps.size = true)
  (hm2 : m2 < l.length) (hne : m1 ≠ m2) (hd : Region.directB l m2 m1 = true) (hv1 : vs.getD m1 undef = undef) (hv2 : vs.getD m2 undef = undef)
  (hop : ∀ (i : Nat) (o : Oper) (b : Act) (u : World), l[i]? = some o → i ≠ m1 → i ≠ m2 → (Region.waitsB l m1 i = true → u = w.drew) → (Region.waitsB l m2 i = true → u = w.drew ∨ u = U1) → Slots l a vs o b →
   Region.wanted o (yielded l.toArray b.tmps) = true ∧ yieldsY P (fun v u' => v = vs.getD i undef ∧ u' = u) ((execOp b.eval o).run P u))
  (hs1 : ∀ (o : Oper) (b : Act), l[m1]? = some o → Slots l a vs o b → Region.wanted o (yielded l.toArray b.tmps) = true ∧ (execOp b.eval o).run P w.drew = .ok .skip U1)
  (hs2 : ∀ (o : Oper) (b : Act), l[m2]? = some o → Slots l a vs o b → Region.wanted o (yielded l.toArray b.tmps) = true ∧ (execOp b.eval o).run P U1 = .ok .skip U2)
  (hend : Q .normal (putAll l.toArray vs l.length a) U2) : (Code.region id l.toArray true).wp P Q a w := by
 refine wp_region_inv hmix (IsVal vs) (fun come u => (¬ come m1 ∧ ¬ come m2 ∧ u = w.drew) ∨ (come m1 ∧ ¬ come m2 ∧ u = U1) ∨ (come m1 ∧ come m2 ∧ u = U2)) htidy (.inl ⟨fun h => h, fun h => h, rfl⟩) ?_ ?_
 ·rintro i o b u come ho hn hC hr hI hold hnew
  have hs : Slots l a vs o b := ⟨fun t ht => hold t (base_of ht), fun j t h1 h2 => hnew j t (hr j h1) h2⟩
  by_cases e : i = m2
  ·subst e
   have hia : come m1 := by
    unfold Region.directB at hd
    rw [ho] at hd
    exact hr m1 hd
   rcases hI with ⟨h, _, _⟩ | ⟨_, _, rfl⟩ | ⟨_, h, _⟩
   ·exact absurd hia h
   ·obtain ⟨h1, h2⟩ := hs2 o b ho hs
    refine .inl ⟨h1, ?_⟩
    rw [h2]
    exact ⟨.inr (.inr ⟨.inr hia, .inl rfl, rfl⟩), hv2.symm, fun _ _ _ h => h⟩
   ·exact absurd h hn
  ·by_cases e2 : i = m1
   ·subst e2
    rcases hI with ⟨_, h, rfl⟩ | ⟨h, _, _⟩ | ⟨h, _, _⟩
    ·obtain ⟨h1, h2⟩ := hs1 o b ho hs
     refine .inl ⟨h1, ?_⟩
     rw [h2]
     exact ⟨.inr (.inl ⟨.inl rfl, fun h' => h'.elim (fun e' => e e'.symm) h, rfl⟩), hv1.symm, fun _ _ _ h => h⟩
    ·exact absurd h hn
    ·exact absurd h hn
   ·have w1 : Region.waitsB l m1 i = true → u = w.drew := fun h => by
     have := not_yet hC h hn
     rcases hI with ⟨_, _, h'⟩ | ⟨h', _⟩ | ⟨h', _⟩
     ·exact h'
     ·exact absurd h' this
     ·exact absurd h' this
    have w2 : Region.waitsB l m2 i = true → u = w.drew ∨ u = U1 := fun h => by
     have := not_yet hC h hn
     rcases hI with ⟨_, _, h'⟩ | ⟨_, _, h'⟩ | ⟨_, h', _⟩
     ·exact .inl h'
     ·exact .inr h'
     ·exact absurd h' this
    obtain ⟨h1, h2⟩ := hop i o b u ho e2 e w1 w2 hs
    have keep : (¬ (m1 = i ∨ come m1) ∧ ¬ (m2 = i ∨ come m2) ∧ u = w.drew) ∨ ((m1 = i ∨ come m1) ∧ ¬ (m2 = i ∨ come m2) ∧ u = U1) ∨ ((m1 = i ∨ come m1) ∧ (m2 = i ∨ come m2) ∧ u = U2) := by
     have n1 : ¬ m1 = i := fun h => e2 h.symm
     have n2 : ¬ m2 = i := fun h => e h.symm
     simpa [n1, n2] using hI
    refine .inl ⟨h1, ?_⟩
    revert h2
    generalize (execOp b.eval o).run P u = r
    intro h2
    cases r with
    | ok n u' =>
     cases n <;> simp only [yieldsY] at h2 ⊢
     all_goals first
      | (obtain ⟨h3, rfl⟩ := h2; exact ⟨keep, h3, fun _ _ _ h => h⟩)
      | exact h2.mono fun e u'' ⟨v, he, h3, h4⟩ => by subst h4; exact ⟨v, he, keep, h3, fun _ _ _ h => h⟩
    | halt x u' => exact h2
 ·rintro b u hI hmet
  rw [met_all_list htidy hmet]
  rcases hI with ⟨_, h, _⟩ | ⟨_, h, _⟩ | ⟨_, _, rfl⟩
  ·exact absurd hm2 h
  ·exact absurd hm2 h
  ·exact hend
end Go.Proofs.YtpjaajeojiaeiaaGreatDoor
