/- Contracts and mathematics of the layers below (CkAny, IpAny, IpAnyIn, IpGrow, IpAlloc, TcGrow). -/
import Derived.Orders
import Derived.Below
import Derived.WalkKit
import Derived.ProofKit
import Derived.OpenShut
import Derived.WalkSpells
import Derived.WalkLawsBesides
import Derived.Handy
/- A region whose operations come up in whatever order: what holds of each operation's value, once those that it waits for have come up, holds at the end, in every order. Nothing of the program is in here. -/
namespace Go.Proofs.Ytbncjinkojeioaa
open Go.RowKit

theorem hide {p : Prop} (h : p) : Hid p := h
theorem unhide {p : Prop} (h : Hid p) : p := h
/-- One behind the other. -/
theorem Below.then {a b c : World} (h : Below a.heap.size a b) (k : Below b.heap.size b c) : Below a.heap.size a c := h.trans (k.mono h.size)
theorem ret_bool {a b : Bool} (h : a = b) : Ending.returned (.bool a) = .returned (.bool b) := by rw [h]
theorem ret_str {a b : ByteArray} (h : a = b) : Ending.returned (.string a) = .returned (.string b) := by rw [h]

/-- The slot that operation number i writes. -/
def dstAt (ops : Array Oper) (i : Nat) : Option Tmp := (ops[i]?).bind (·.dst)

/-- An operation that was carried out in u has yielded a value of which F holds, and the world has grown by G. -/
def yieldsUpon (P : Program) (G : World → World → Prop) (F : Value → World → Prop) (u : World) : Result Next → Prop
  | .ok (.value v) u' => G u u' ∧ F v u'
  | .ok (.enter f args) u' => Calls P f args u' fun e u'' => ∃ v, e = .returned v ∧ G u u'' ∧ F v u''
  | _ => False

/-- What has come up holds; all else is as it was. -/
structure Met (ops : Array Oper) (F : Nat → Value → World → Prop) (a : Act) (come : Nat → Prop) (b : Act) (u : World) : Prop where
  defers : b.defers = a.defers
  size : b.tmps.size = a.tmps.size
  old : ∀ t, (∀ i, come i → dstAt ops i ≠ some t) → b.tmps.getD t undef = a.tmps.getD t undef
  new : ∀ i t, come i → dstAt ops i = some t → F i (b.tmps.getD t undef) u

theorem getD_put_same (b : Act) (t : Tmp) (v : Value) (h : t < b.tmps.size) : (b.put (some t) v).tmps.getD t undef = v := by
  simp [Act.put, Array.getD_eq_getD_getElem?, h]
theorem getD_put_other (b : Act) (d : Option Tmp) (t : Tmp) (v : Value) (h : d ≠ some t) : (b.put d v).tmps.getD t undef = b.tmps.getD t undef := by
  cases d with
  | none => rfl
  | some d =>
    have hne : d ≠ t := fun e => h (by rw [e])
    simp [Act.put, Array.getD_eq_getD_getElem?, Array.getElem?_setIfInBounds_ne hne]
theorem size_put (b : Act) (d : Option Tmp) (v : Value) : (b.put d v).tmps.size = b.tmps.size := by
  cases d <;> simp [Act.put]
theorem defers_put (b : Act) (d : Option Tmp) (v : Value) : (b.put d v).defers = b.defers := by
  cases d <;> rfl

/-- Each operation waits for elder ones alone, and each slot is written once. -/
def Region.tidyB (ops : Array Oper) (n : Nat) : Bool :=
  ((List.range ops.size).all fun i => match ops[i]? with
    | some o => o.after.all fun e => !Region.binds .any e || decide (e.on < i)
    | none => true) &&
  ((List.range ops.size).all fun i => match dstAt ops i with
    | some t => decide (t < n) && (List.range ops.size).all fun j => j == i || dstAt ops j != some t
    | none => true)

theorem dst_lt {ops : Array Oper} {i : Nat} {t : Tmp} (h : dstAt ops i = some t) : i < ops.size := by
  unfold dstAt at h
  rcases Nat.lt_or_ge i ops.size with hl | hl
  · exact hl
  · rw [Array.getElem?_eq_none hl] at h; cases h
theorem tidy_after {ops : Array Oper} {n i : Nat} {o : Oper} (h : Region.tidyB ops n = true) (ho : ops[i]? = some o) : ∀ e ∈ o.after, Region.binds .any e = true → e.on < i := by
  unfold Region.tidyB at h
  rw [Bool.and_eq_true] at h
  have hi : i < ops.size := (Array.getElem?_eq_some_iff.1 ho).1
  have h1 := List.all_eq_true.1 h.1 i (List.mem_range.2 hi)
  simp only [ho] at h1
  intro e he hb
  have := Array.all_eq_true'.1 h1 e he
  rw [hb] at this
  simpa using this
theorem tidy_lt {ops : Array Oper} {n i : Nat} {t : Tmp} (h : Region.tidyB ops n = true) (hd : dstAt ops i = some t) : t < n := by
  unfold Region.tidyB at h
  rw [Bool.and_eq_true] at h
  have h1 := List.all_eq_true.1 h.2 i (List.mem_range.2 (dst_lt hd))
  simp only [hd, Bool.and_eq_true] at h1
  simpa using h1.1
theorem tidy_once {ops : Array Oper} {n i j : Nat} {t : Tmp} (h : Region.tidyB ops n = true) (hd : dstAt ops i = some t) (hj : dstAt ops j = some t) : j = i := by
  unfold Region.tidyB at h
  rw [Bool.and_eq_true] at h
  have h1 := List.all_eq_true.1 h.2 i (List.mem_range.2 (dst_lt hd))
  simp only [hd, Bool.and_eq_true] at h1
  have h2 := List.all_eq_true.1 h1.2 j (List.mem_range.2 (dst_lt hj))
  simp [hj] at h2
  exact h2

theorem yielded_of {ops : Array Oper} {b : Act} {j : Nat} {t : Tmp} {c : Bool} (hd : dstAt ops j = some t) (h : b.tmps.getD t undef = .bool c) : yielded ops b.tmps j = some c := by
  unfold dstAt at hd
  unfold yielded
  rw [hd]
  rw [Array.getD_eq_getD_getElem?] at h
  simp only [Option.bind_some]
  cases hx : b.tmps[t]? with
  | none => rw [hx] at h; simp [undef] at h
  | some x => rw [hx] at h; simp at h; rw [h]

section
variable {P : Program} {ops : Array Oper} {Q : Exit → Act → World → Prop} {a : Act} {F : Nat → Value → World → Prop} {G : World → World → Prop} {w0 : World}

theorem met_put (htidy : Region.tidyB ops a.tmps.size = true) (hst : ∀ i v u u', F i v u → G u u' → F i v u') {come : Nat → Prop} {b : Act} {u u' : World} (hm : Met ops F a come b u) {i : Nat} {o : Oper} (ho : ops[i]? = some o) {v : Value} (hG : G u u') (hF : F i v u') :
    Met ops F a (fun j => j = i ∨ come j) (b.put o.dst v) u' := by
  have hdi : dstAt ops i = o.dst := by unfold dstAt; rw [ho]; rfl
  refine ⟨(defers_put _ _ _).trans hm.defers, (size_put _ _ _).trans hm.size, fun t ht => ?_, fun j t hj hd => ?_⟩
  · rw [getD_put_other _ _ _ _ (by rw [← hdi]; exact ht i (.inl rfl))]
    exact hm.old t fun j hj => ht j (.inr hj)
  · by_cases e : j = i
    · subst e
      rw [hdi] at hd
      rw [hd, getD_put_same _ _ _ (by rw [hm.size]; exact tidy_lt htidy (hdi.trans hd))]
      exact hF
    · rcases hj with hj | hj
      · exact absurd hj e
      · rw [getD_put_other _ _ _ _ (by rw [← hdi]; intro h; exact e (tidy_once htidy h hd))]
        exact hst _ _ _ _ (hm.new j t hj hd) hG

theorem any_met (htidy : Region.tidyB ops a.tmps.size = true) (hst : ∀ i v u u', F i v u → G u u' → F i v u') (hGt : ∀ u v z, G u v → G v z → G u z)
    (hop : ∀ (i : Nat) (o : Oper) (b : Act) (u : World), ops[i]? = some o → G w0 u → b.tmps.size = a.tmps.size → (∀ t, (∀ i, dstAt ops i ≠ some t) → b.tmps.getD t undef = a.tmps.getD t undef) →
      (∀ e ∈ o.after, Region.binds .any e = true → ∀ t, dstAt ops e.on = some t → F e.on (b.tmps.getD t undef) u) →
      if Region.wanted o (yielded ops b.tmps) then yieldsUpon P G (F i) u ((execOp b.eval o).run P u) else F i undef u ∧ G u u)
    (hend : ∀ b u, G w0 u → Met ops F a (fun i => i < ops.size) b u → Q .normal b u) :
    ∀ (fuel : Nat) (listed : Array Bool) (b : Act) (u : World), listed.size = ops.size → (listed.toList.filter (fun x => !x)).length ≤ fuel → G w0 u → Met ops F a (fun i => listed.getD i false = true) b u → wpAny P .any ops Q fuel listed b u := by
  have done : ∀ (listed : Array Bool) (b : Act) (u : World), listed.size = ops.size → G w0 u → Met ops F a (fun i => listed.getD i false = true) b u → Region.ready .any ops listed = [] → Q .normal b u := by
    intro listed b u hs hG hm hr
    refine hend b u hG ?_
    have all : ∀ i, i < ops.size → listed.getD i false = true := by
      intro i
      induction i using Nat.strongRecOn with
      | _ i ih =>
        intro hi
        rcases hb : listed.getD i false with _ | _
        · exfalso
          obtain ⟨o, ho⟩ : ∃ o, ops[i]? = some o := ⟨_, Array.getElem?_eq_getElem hi⟩
          have hmem : i ∈ Region.ready .any ops listed := by
            unfold Region.ready
            rw [List.mem_filter]
            refine ⟨List.mem_range.2 hi, ?_⟩
            have hl : listed.getD i true = false := by
              rw [Array.getD_eq_getD_getElem?, Array.getElem?_eq_getElem (by omega)] at hb ⊢
              exact hb
            rw [hl, ho]
            simp only [Bool.not_false, Bool.true_and, Option.map_some, Option.getD_some]
            rw [Array.all_eq_true']
            intro e he
            cases hb : Region.binds .any e with
            | false => simp
            | true =>
              have := ih e.on (tidy_after htidy ho e he hb) (Nat.lt_trans (tidy_after htidy ho e he hb) hi)
              rw [this]; simp
          rw [hr] at hmem; cases hmem
        · rfl
    exact ⟨hm.defers, hm.size, fun t ht => hm.old t fun i hi => ht i (by
      rcases Nat.lt_or_ge i ops.size with h | h
      · exact h
      · rw [Array.getD_eq_getD_getElem?, Array.getElem?_eq_none (by omega)] at hi; cases hi), fun i t hi hd => hm.new i t (all i hi) hd⟩
  intro fuel
  induction fuel with
  | zero =>
    intro listed b u hs hf hG hm
    have hr : Region.ready .any ops listed = [] := by
      rw [List.eq_nil_iff_forall_not_mem]
      intro i hi
      unfold Region.ready at hi
      rw [List.mem_filter] at hi
      obtain ⟨h1, h2⟩ := hi
      rw [List.mem_range] at h1
      rw [Bool.and_eq_true] at h2
      have hl : listed.getD i true = false := by simpa using h2.1
      rw [Array.getD_eq_getD_getElem?, Array.getElem?_eq_getElem (by omega)] at hl
      have : listed[i]'(by omega) ∈ listed.toList.filter (fun x => !x) := by
        rw [List.mem_filter]; refine ⟨by simp, ?_⟩
        have e : listed[i]'(by omega) = false := hl
        rw [e]; rfl
      have := List.length_pos_of_mem this
      omega
    exact ⟨hr, done listed b u hs hG hm hr⟩
  | succ fuel ih =>
    intro listed b u hs hf hG hm
    refine ⟨fun hr => done listed b u hs hG hm hr, fun i hi => ?_⟩
    unfold Region.ready at hi
    rw [List.mem_filter] at hi
    obtain ⟨h1, h2⟩ := hi
    rw [List.mem_range] at h1
    rw [Bool.and_eq_true] at h2
    have hl : listed.getD i true = false := by simpa using h2.1
    rw [Array.getD_eq_getD_getElem?, Array.getElem?_eq_getElem (by omega)] at hl
    have hl' : listed[i]'(by omega) = false := hl
    obtain ⟨o, ho⟩ : ∃ o, ops[i]? = some o := ⟨_, Array.getElem?_eq_getElem h1⟩
    have hdeps := h2.2
    rw [ho] at hdeps
    simp only [Option.map_some, Option.getD_some] at hdeps
    have next : ∀ v u', G u u' → F i v u' → wpAny P .any ops Q fuel (listed.setIfInBounds i true) (b.put o.dst v) u' := by
      intro v u' hG' hF
      refine ih _ _ _ (by simp [hs]) ?_ (hGt _ _ _ hG hG') ?_
      · have hlen : i < listed.toList.length := by simp; omega
        have hsplit : listed.toList = listed.toList.take i ++ false :: listed.toList.drop (i + 1) := by
          have h := List.take_append_drop i listed.toList
          rw [List.drop_eq_getElem_cons hlen, Array.getElem_toList, hl'] at h
          exact h.symm
        have hset : (listed.setIfInBounds i true).toList = listed.toList.take i ++ true :: listed.toList.drop (i + 1) := by
          rw [Array.toList_setIfInBounds, List.set_eq_take_append_cons_drop, if_pos hlen]
        rw [hsplit] at hf
        rw [hset]
        simp only [List.filter_append, List.filter_cons, List.length_append, Bool.not_false, Bool.not_true, if_true, Bool.false_eq_true, if_false, List.length_cons] at hf ⊢
        omega
      · have hm' := met_put htidy hst hm ho hG' hF
        have iff : ∀ j, (listed.setIfInBounds i true).getD j false = true ↔ (j = i ∨ listed.getD j false = true) := by
          intro j
          by_cases e : j = i
          · subst e
            simp [Array.getD_eq_getD_getElem?, show j < listed.size by omega]
          · simp [Array.getD_eq_getD_getElem?, Array.getElem?_setIfInBounds_ne (Ne.symm e), e]
        exact ⟨hm'.defers, hm'.size, fun t ht => hm'.old t fun j hj => ht j ((iff j).2 hj), fun j t hj hd => hm'.new j t ((iff j).1 hj) hd⟩
    have hstep := hop i o b u ho hG hm.size (fun t ht => hm.old t fun j _ => ht j) (fun e he hb t hd => hm.new e.on t (by
      have := Array.all_eq_true'.1 hdeps e he
      rw [hb] at this
      simpa using this) hd)
    unfold wpOp
    rw [ho]
    simp only
    split
    · rename_i hw
      rw [if_pos hw] at hstep
      left
      unfold Oper.wp
      generalize (execOp b.eval o).run P u = r at hstep
      cases r with
      | ok n u' =>
        cases n <;> simp only [yieldsUpon] at hstep <;> simp only [Oper.upon]
        case value v => exact next v u' hstep.1 hstep.2
        case enter f args =>
          exact hstep.mono fun e u'' ⟨v, he, h3, h4⟩ => by subst he; exact next v u'' h3 h4
      | halt x u' => simp only [yieldsUpon] at hstep
    · rename_i hw
      rw [if_neg hw] at hstep
      exact next undef u hstep.2 hstep.1
end

theorem either {b : Bool} {p q r : Prop} (hr : r) (h : (b = true ∧ p) ∨ (b = false ∧ q)) : if b then p else q ∧ r := by
  rcases h with ⟨rfl, h⟩ | ⟨rfl, h⟩
  · exact h
  · exact ⟨h, hr⟩
theorem wanted_yes {o : Oper} {ops : Array Oper} {b : Act} {j : Nat} {t : Tmp} {c : Bool} (hg : o.guard = some (j, c)) (hd : dstAt ops j = some t) (h : b.tmps.getD t undef = .bool c) : Region.wanted o (yielded ops b.tmps) = true := by
  unfold Region.wanted
  rw [hg]
  simp only
  rw [yielded_of hd h]; simp
theorem wanted_no {o : Oper} {ops : Array Oper} {b : Act} {j : Nat} {t : Tmp} {c : Bool} (hg : o.guard = some (j, c)) (hd : dstAt ops j = some t) (h : b.tmps.getD t undef = .bool (!c)) : Region.wanted o (yielded ops b.tmps) = false := by
  unfold Region.wanted
  rw [hg]
  simp only
  rw [yielded_of hd h]; cases c <;> rfl

/-- **A region that draws its order, by what holds of each value.** -/
theorem wp_region_values {P : Program} {id : Nat} {l : List Oper} {Q : Exit → Act → World → Prop} {a : Act} {w : World} (hmix : P.follows .mixedOrders = true) (F : Nat → Value → World → Prop) (G : World → World → Prop)
    (htidy : Region.tidyB l.toArray a.tmps.size = true) (hst : ∀ i v u u', F i v u → G u u' → F i v u') (hGr : ∀ u, G u u) (hGt : ∀ u v z, G u v → G v z → G u z)
    (hop : ∀ (i : Nat) (o : Oper) (b : Act) (u : World), l[i]? = some o → G w.drew u → (∀ t, (∀ i, dstAt l.toArray i ≠ some t) → b.tmps.getD t undef = a.tmps.getD t undef) →
      (∀ j t, (o.after.any fun e => Region.binds .any e && e.on == j) = true → dstAt l.toArray j = some t → F j (b.tmps.getD t undef) u) →
      (Region.wanted o (yielded l.toArray b.tmps) = true ∧ yieldsUpon P G (F i) u ((execOp b.eval o).run P u)) ∨ (Region.wanted o (yielded l.toArray b.tmps) = false ∧ F i undef u))
    (hend : ∀ b u, G w.drew u → Met l.toArray F a (fun i => i < l.length) b u → Q .normal b u) : (Code.region id l.toArray true).wp P Q a w := by
  refine wp_region_any hmix ?_
  refine any_met (w0 := w.drew) htidy hst hGt (fun i o b u ho hG _ hold hdeps => either (hGr u) <| hop i o b u (by simpa using ho) hG hold (fun j t hj hd => by
    obtain ⟨e, he, h⟩ := Array.any_eq_true'.1 hj
    rw [Bool.and_eq_true] at h
    have hj' : e.on = j := by simpa using h.2
    subst hj'
    exact hdeps e he h.1 t hd)) (fun b u hG hm => hend b u hG (by simpa using hm)) _ _ _ _ (by simp) ?_ (hGr _) ?_
  · simp
  · refine ⟨rfl, rfl, fun _ _ => rfl, fun i t hi _ => ?_⟩
    exfalso
    simp [Array.getD_eq_getD_getElem?, Array.getElem?_replicate] at hi
    split at hi <;> simp at hi

/-- What an operation yields: this value; or a slice that was made, with these cells. -/
def ValIs (vs : List (Value ⊕ List Value)) (i : Nat) (v : Value) (u : World) : Prop :=
  match vs[i]? with
  | some (.inl c) => v = c
  | some (.inr cs) => ∃ g, v = .slice (some ⟨g, 0, none⟩) cs.length cs.length ∧ ∀ j x, cs[j]? = some x → u.cell? ⟨g, j, none⟩ = some x
  | none => False
theorem valIs_on (vs : List (Value ⊕ List Value)) (i : Nat) (v : Value) (u u' : World) (h : ValIs vs i v u) (hb : Below u.heap.size u u') : ValIs vs i v u' := by
  unfold ValIs at h ⊢
  cases hx : vs[i]? with
  | none => rw [hx] at h; exact h
  | some x =>
    rw [hx] at h
    cases x with
    | inl c => exact h
    | inr cs =>
      obtain ⟨g, h1, h2⟩ := h
      exact ⟨g, h1, fun j x hj => by rw [hb.cell (block_lt_of_cell (h2 j x hj))]; exact h2 j x hj⟩
theorem valIs_inl {vs : List (Value ⊕ List Value)} {i : Nat} {c : Value} {u : World} (h : vs[i]? = some (.inl c)) : ValIs vs i c u := by unfold ValIs; rw [h]
theorem valIs_inr {vs : List (Value ⊕ List Value)} {i g : Nat} {cs : List Value} {u : World} (h : vs[i]? = some (.inr cs)) (hc : ∀ j x, cs[j]? = some x → u.cell? ⟨g, j, none⟩ = some x) : ValIs vs i (.slice (some ⟨g, 0, none⟩) cs.length cs.length) u := by unfold ValIs; rw [h]; exact ⟨g, rfl, hc⟩
theorem of_inl {vs : List (Value ⊕ List Value)} {i : Nat} {v c : Value} {u : World} (hv : ValIs vs i v u) (h : vs[i]? = some (.inl c)) : v = c := by unfold ValIs at hv; rw [h] at hv; exact hv
theorem of_inr {vs : List (Value ⊕ List Value)} {i : Nat} {v : Value} {cs : List Value} {u : World} (hv : ValIs vs i v u) (h : vs[i]? = some (.inr cs)) : ∃ g, v = .slice (some ⟨g, 0, none⟩) cs.length cs.length ∧ ∀ j x, cs[j]? = some x → u.cell? ⟨g, j, none⟩ = some x := by unfold ValIs at hv; rw [h] at hv; exact hv
def Region.baseB (l : List Oper) (t : Tmp) : Bool := (List.range l.length).all fun i => dstAt l.toArray i != some t
theorem base_of {l : List Oper} {t : Tmp} (h : Region.baseB l t = true) : ∀ i, dstAt l.toArray i ≠ some t := by
  intro i hd
  have hi := dst_lt hd
  have := List.all_eq_true.1 h i (List.mem_range.2 (by simpa using hi))
  simp [hd] at this
theorem yields_value {P : Program} {G : World → World → Prop} {F : Value → World → Prop} {u u' : World} {v : Value} {r : Result Next} (hr : r = .ok (.value v) u') (h1 : G u u') (h2 : F v u') : yieldsUpon P G F u r := by rw [hr]; exact ⟨h1, h2⟩
theorem yields_call {P : Program} {F : Value → World → Prop} {u : World} {f : FuncId} {args : Array Value} {r : Result Next} {v : Value} (hr : r = .ok (.enter f args) u)
    (h : Calls P f args u fun e u' => e = .returned v ∧ Below u.heap.size u u') (h2 : ∀ u', F v u') : yieldsUpon P (fun u u' => Below u.heap.size u u') F u r := by
  rw [hr]
  exact h.mono fun e u' ⟨he, hb⟩ => ⟨v, he, hb, h2 u'⟩
end Go.Proofs.Ytbncjinkojeioaa

/- A region whose operations come up in whatever order, where what lies in memory hangs on which of them have come up: the rule of CkAny with an invariant. Nothing of the program is in here. -/
namespace Go.Proofs.Ytbncjinkojeioaa
open Go.RowKit

/-- An operation that was carried out: a value, nothing (a store), or a call. -/
def yieldsY (P : Program) (R : Value → World → Prop) : Result Next → Prop
  | .ok (.value v) u' => R v u'
  | .ok .skip u' => R undef u'
  | .ok (.enter f args) u' => Calls P f args u' fun e u'' => ∃ v, e = .returned v ∧ R v u''
  | _ => False
theorem yieldsY_value {P : Program} {R : Value → World → Prop} {u' : World} {v : Value} {r : Result Next} (hr : r = .ok (.value v) u') (h : R v u') : yieldsY P R r := by rw [hr]; exact h
theorem yieldsY_skip {P : Program} {R : Value → World → Prop} {u' : World} {r : Result Next} (hr : r = .ok .skip u') (h : R undef u') : yieldsY P R r := by rw [hr]; exact h
theorem yieldsY_call {P : Program} {R : Value → World → Prop} {u : World} {f : FuncId} {args : Array Value} {r : Result Next} {K : Value → World → Prop} (hr : r = .ok (.enter f args) u)
    (h : Calls P f args u fun e u' => ∃ v, e = .returned v ∧ K v u') (h2 : ∀ v u', K v u' → R v u') : yieldsY P R r := by
  rw [hr]; exact h.mono fun e u' ⟨v, he, hk⟩ => ⟨v, he, h2 v u' hk⟩

section
variable {P : Program} {ops : Array Oper} {Q : Exit → Act → World → Prop} {a : Act} {F : Nat → Value → World → Prop} {I : (Nat → Prop) → World → Prop}

/-- What has come up is closed under what it waits for. -/
def Closed (ops : Array Oper) (come : Nat → Prop) : Prop := ∀ j o, come j → ops[j]? = some o → ∀ e ∈ o.after, Region.binds .any e = true → come e.on

theorem met_put_inv (htidy : Region.tidyB ops a.tmps.size = true) {come : Nat → Prop} {b : Act} {u u' : World} (hm : Met ops F a come b u) {i : Nat} {o : Oper} (ho : ops[i]? = some o) {v : Value} (hst : ∀ j x, come j → F j x u → F j x u') (hF : F i v u') :
    Met ops F a (fun j => j = i ∨ come j) (b.put o.dst v) u' := by
  have hdi : dstAt ops i = o.dst := by unfold dstAt; rw [ho]; rfl
  refine ⟨(defers_put _ _ _).trans hm.defers, (size_put _ _ _).trans hm.size, fun t ht => ?_, fun j t hj hd => ?_⟩
  · rw [getD_put_other _ _ _ _ (by rw [← hdi]; exact ht i (.inl rfl))]
    exact hm.old t fun j hj => ht j (.inr hj)
  · by_cases e : j = i
    · subst e
      rw [hdi] at hd
      rw [hd, getD_put_same _ _ _ (by rw [hm.size]; exact tidy_lt htidy (hdi.trans hd))]
      exact hF
    · rcases hj with hj | hj
      · exact absurd hj e
      · rw [getD_put_other _ _ _ _ (by rw [← hdi]; intro h; exact e (tidy_once htidy h hd))]
        exact hst _ _ hj (hm.new j t hj hd)

theorem any_inv (htidy : Region.tidyB ops a.tmps.size = true)
    (hop : ∀ (i : Nat) (o : Oper) (b : Act) (u : World) (come : Nat → Prop), ops[i]? = some o → ¬ come i → Closed ops come → (∀ e ∈ o.after, Region.binds .any e = true → come e.on) → I come u →
      (∀ t, (∀ i, dstAt ops i ≠ some t) → b.tmps.getD t undef = a.tmps.getD t undef) → (∀ j t, come j → dstAt ops j = some t → F j (b.tmps.getD t undef) u) →
      (Region.wanted o (yielded ops b.tmps) = true ∧ yieldsY P (fun v u' => I (fun j => j = i ∨ come j) u' ∧ F i v u' ∧ ∀ j x, come j → F j x u → F j x u') ((execOp b.eval o).run P u)) ∨
      (Region.wanted o (yielded ops b.tmps) = false ∧ I (fun j => j = i ∨ come j) u ∧ F i undef u))
    (hend : ∀ b u, I (fun i => i < ops.size) u → Met ops F a (fun i => i < ops.size) b u → Q .normal b u) :
    ∀ (fuel : Nat) (listed : Array Bool) (b : Act) (u : World), listed.size = ops.size → (listed.toList.filter (fun x => !x)).length ≤ fuel → Closed ops (fun i => listed.getD i false = true) → I (fun i => listed.getD i false = true) u →
      Met ops F a (fun i => listed.getD i false = true) b u → wpAny P .any ops Q fuel listed b u := by
  have done : ∀ (listed : Array Bool) (b : Act) (u : World), listed.size = ops.size → I (fun i => listed.getD i false = true) u → Met ops F a (fun i => listed.getD i false = true) b u → Region.ready .any ops listed = [] → Q .normal b u := by
    intro listed b u hs hI hm hr
    have all : ∀ i, i < ops.size → listed.getD i false = true := by
      intro i
      induction i using Nat.strongRecOn with
      | _ i ih =>
        intro hi
        rcases hb : listed.getD i false with _ | _
        · exfalso
          obtain ⟨o, ho⟩ : ∃ o, ops[i]? = some o := ⟨_, Array.getElem?_eq_getElem hi⟩
          have hmem : i ∈ Region.ready .any ops listed := by
            unfold Region.ready
            rw [List.mem_filter]
            refine ⟨List.mem_range.2 hi, ?_⟩
            have hl : listed.getD i true = false := by
              rw [Array.getD_eq_getD_getElem?, Array.getElem?_eq_getElem (by omega)] at hb ⊢
              exact hb
            rw [hl, ho]
            simp only [Bool.not_false, Bool.true_and, Option.map_some, Option.getD_some]
            rw [Array.all_eq_true']
            intro e he
            cases hb : Region.binds .any e with
            | false => simp
            | true =>
              have := ih e.on (tidy_after htidy ho e he hb) (Nat.lt_trans (tidy_after htidy ho e he hb) hi)
              rw [this]; simp
          rw [hr] at hmem; cases hmem
        · rfl
    have same : (fun i => listed.getD i false = true) = fun i => i < ops.size := by
      funext i
      refine propext ⟨fun hi => ?_, all i⟩
      rcases Nat.lt_or_ge i ops.size with h | h
      · exact h
      · rw [Array.getD_eq_getD_getElem?, Array.getElem?_eq_none (by omega)] at hi; cases hi
    rw [same] at hI hm
    exact hend b u hI hm
  intro fuel
  induction fuel with
  | zero =>
    intro listed b u hs hf hC hI hm
    have hr : Region.ready .any ops listed = [] := by
      rw [List.eq_nil_iff_forall_not_mem]
      intro i hi
      unfold Region.ready at hi
      rw [List.mem_filter] at hi
      obtain ⟨h1, h2⟩ := hi
      rw [List.mem_range] at h1
      rw [Bool.and_eq_true] at h2
      have hl : listed.getD i true = false := by simpa using h2.1
      rw [Array.getD_eq_getD_getElem?, Array.getElem?_eq_getElem (by omega)] at hl
      have : listed[i]'(by omega) ∈ listed.toList.filter (fun x => !x) := by
        rw [List.mem_filter]; refine ⟨by simp, ?_⟩
        have e : listed[i]'(by omega) = false := hl
        rw [e]; rfl
      have := List.length_pos_of_mem this
      omega
    exact ⟨hr, done listed b u hs hI hm hr⟩
  | succ fuel ih =>
    intro listed b u hs hf hC hI hm
    refine ⟨fun hr => done listed b u hs hI hm hr, fun i hi => ?_⟩
    unfold Region.ready at hi
    rw [List.mem_filter] at hi
    obtain ⟨h1, h2⟩ := hi
    rw [List.mem_range] at h1
    rw [Bool.and_eq_true] at h2
    have hl : listed.getD i true = false := by simpa using h2.1
    rw [Array.getD_eq_getD_getElem?, Array.getElem?_eq_getElem (by omega)] at hl
    have hl' : listed[i]'(by omega) = false := hl
    obtain ⟨o, ho⟩ : ∃ o, ops[i]? = some o := ⟨_, Array.getElem?_eq_getElem h1⟩
    have hdeps := h2.2
    rw [ho] at hdeps
    simp only [Option.map_some, Option.getD_some] at hdeps
    have iff : ∀ j, (listed.setIfInBounds i true).getD j false = true ↔ (j = i ∨ listed.getD j false = true) := by
      intro j
      by_cases e : j = i
      · subst e
        simp [Array.getD_eq_getD_getElem?, show j < listed.size by omega]
      · simp [Array.getD_eq_getD_getElem?, Array.getElem?_setIfInBounds_ne (Ne.symm e), e]
    have same : (fun j => (listed.setIfInBounds i true).getD j false = true) = fun j => j = i ∨ listed.getD j false = true := funext fun j => propext (iff j)
    have hready : ∀ e ∈ o.after, Region.binds .any e = true → listed.getD e.on false = true := fun e he hb => by
      have := Array.all_eq_true'.1 hdeps e he
      rw [hb] at this
      simpa using this
    have hnot : ¬ listed.getD i false = true := by
      rw [Array.getD_eq_getD_getElem?, Array.getElem?_eq_getElem (by omega)]
      simp [hl']
    have next : ∀ v u', I (fun j => j = i ∨ listed.getD j false = true) u' → F i v u' → (∀ j x, listed.getD j false = true → F j x u → F j x u') → wpAny P .any ops Q fuel (listed.setIfInBounds i true) (b.put o.dst v) u' := by
      intro v u' hI' hF hst
      refine ih _ _ _ (by simp [hs]) ?_ ?_ (by rw [same]; exact hI') (by rw [same]; exact met_put_inv htidy hm ho hst hF)
      · have hlen : i < listed.toList.length := by simp; omega
        have hsplit : listed.toList = listed.toList.take i ++ false :: listed.toList.drop (i + 1) := by
          have h := List.take_append_drop i listed.toList
          rw [List.drop_eq_getElem_cons hlen, Array.getElem_toList, hl'] at h
          exact h.symm
        have hset : (listed.setIfInBounds i true).toList = listed.toList.take i ++ true :: listed.toList.drop (i + 1) := by
          rw [Array.toList_setIfInBounds, List.set_eq_take_append_cons_drop, if_pos hlen]
        rw [hsplit] at hf
        rw [hset]
        simp only [List.filter_append, List.filter_cons, List.length_append, Bool.not_false, Bool.not_true, if_true, Bool.false_eq_true, if_false, List.length_cons] at hf ⊢
        omega
      · rw [same]
        intro j o' hj ho' e he hb
        rcases hj with rfl | hj
        · rw [ho] at ho'; cases ho'; exact .inr (hready e he hb)
        · exact .inr (hC j o' hj ho' e he hb)
    have hstep := hop i o b u _ ho hnot hC hready hI (fun t ht => hm.old t fun j _ => ht j) (fun j t hj hd => hm.new j t hj hd)
    unfold wpOp
    rw [ho]
    simp only
    rcases hstep with ⟨hw, hstep⟩ | ⟨hw, h1, h2⟩
    · rw [if_pos hw]
      left
      unfold Oper.wp
      generalize (execOp b.eval o).run P u = r at hstep
      cases r with
      | ok n u' =>
        cases n <;> simp only [yieldsY] at hstep <;> simp only [Oper.upon]
        case value v => exact next v u' hstep.1 hstep.2.1 hstep.2.2
        case skip => exact next undef u' hstep.1 hstep.2.1 hstep.2.2
        case enter f args =>
          exact hstep.mono fun e u'' ⟨v, he, h3, h4, h5⟩ => by subst he; exact next v u'' h3 h4 h5
      | halt x u' => simp only [yieldsY] at hstep
    · rw [if_neg (by rw [hw]; decide)]
      exact next undef u h1 h2 fun _ _ _ h => h
end

/-- **A region that draws its order, by an invariant.** -/
theorem wp_region_inv {P : Program} {id : Nat} {l : List Oper} {Q : Exit → Act → World → Prop} {a : Act} {w : World} (hmix : P.follows .mixedOrders = true) (F : Nat → Value → World → Prop) (I : (Nat → Prop) → World → Prop)
    (htidy : Region.tidyB l.toArray a.tmps.size = true) (h0 : I (fun _ => False) w.drew)
    (hop : ∀ (i : Nat) (o : Oper) (b : Act) (u : World) (come : Nat → Prop), l[i]? = some o → ¬ come i → Closed l.toArray come → (∀ j, (o.after.any fun e => Region.binds .any e && e.on == j) = true → come j) → I come u →
      (∀ t, (∀ i, dstAt l.toArray i ≠ some t) → b.tmps.getD t undef = a.tmps.getD t undef) → (∀ j t, come j → dstAt l.toArray j = some t → F j (b.tmps.getD t undef) u) →
      (Region.wanted o (yielded l.toArray b.tmps) = true ∧ yieldsY P (fun v u' => I (fun j => j = i ∨ come j) u' ∧ F i v u' ∧ ∀ j x, come j → F j x u → F j x u') ((execOp b.eval o).run P u)) ∨
      (Region.wanted o (yielded l.toArray b.tmps) = false ∧ I (fun j => j = i ∨ come j) u ∧ F i undef u))
    (hend : ∀ b u, I (fun i => i < l.length) u → Met l.toArray F a (fun i => i < l.length) b u → Q .normal b u) : (Code.region id l.toArray true).wp P Q a w := by
  refine wp_region_any hmix ?_
  have hnone : (fun i => (Array.replicate l.toArray.size false).getD i false = true) = fun _ => False := by
    funext i
    refine propext ⟨fun hi => ?_, fun h => h.elim⟩
    simp [Array.getD_eq_getD_getElem?, Array.getElem?_replicate] at hi
    split at hi <;> simp at hi
  refine any_inv htidy (fun i o b u come ho hn hC hr hI hold hnew => hop i o b u come (by simpa using ho) hn hC (fun j hj => by
    obtain ⟨e, he, h⟩ := Array.any_eq_true'.1 hj
    rw [Bool.and_eq_true] at h
    have hj' : e.on = j := by simpa using h.2
    subst hj'
    exact hr e he h.1) hI hold hnew) (fun b u hI hm => hend b u (by simpa using hI) (by simpa using hm)) _ _ _ _ (by simp) ?_ ?_ ?_ ?_
  · simp
  · rw [hnone]; intro j o hj; exact hj.elim
  · rw [hnone]; exact h0
  · rw [hnone]; exact ⟨rfl, rfl, fun _ _ => rfl, fun i t hi _ => hi.elim⟩
/-- Operation m waits for operation i, by itself or by one that it waits for. -/
def Region.waitsN (l : List Oper) : Nat → Nat → Nat → Bool
  | 0, _, _ => false
  | f + 1, m, i => match l[m]? with
    | some o => o.after.any fun e => Region.binds .any e && (e.on == i || Region.waitsN l f e.on i)
    | none => false
def Region.waitsB (l : List Oper) (m i : Nat) : Bool := Region.waitsN l l.length m i
theorem not_yetN {l : List Oper} {i : Nat} {come : Nat → Prop} (hC : Closed l.toArray come) (hn : ¬ come i) : ∀ f m, Region.waitsN l f m i = true → ¬ come m
  | 0, m, hw => by unfold Region.waitsN at hw; cases hw
  | f + 1, m, hw => by
    intro hm
    unfold Region.waitsN at hw
    cases ho : l[m]? with
    | none => rw [ho] at hw; cases hw
    | some o =>
      rw [ho] at hw
      obtain ⟨e, he, h⟩ := Array.any_eq_true'.1 hw
      rw [Bool.and_eq_true] at h
      have hc := hC m o hm (by simpa using ho) e he h.1
      rcases Bool.or_eq_true _ _ ▸ h.2 with h1 | h1
      · have hj' : e.on = i := by simpa using h1
        exact hn (hj' ▸ hc)
      · exact not_yetN hC hn f e.on h1 hc
theorem not_yet {l : List Oper} {m i : Nat} {come : Nat → Prop} (hC : Closed l.toArray come) (hw : Region.waitsB l m i = true) (hn : ¬ come i) : ¬ come m := not_yetN hC hn _ m hw
end Go.Proofs.Ytbncjinkojeioaa

namespace Go.Proofs.Ytbncjinkojeioaa
open Go.RowKit

/-- What has come up, written out: the operations' values put one behind the other. -/
def putAll (ops : Array Oper) (vs : List Value) : Nat → Act → Act
  | 0, a => a
  | n + 1, a => (putAll ops vs n a).put (dstAt ops n) (vs.getD n undef)
def IsVal (vs : List Value) (i : Nat) (v : Value) (_ : World) : Prop := v = vs.getD i undef
theorem met_unique {ops : Array Oper} {vs : List Value} {a b b' : Act} {u u' : World} (h1 : Met ops (IsVal vs) a (fun i => i < ops.size) b u) (h2 : Met ops (IsVal vs) a (fun i => i < ops.size) b' u') : b = b' := by
  have hd : b.defers = b'.defers := h1.defers.trans h2.defers.symm
  have ht : b.tmps = b'.tmps := by
    refine Array.ext (h1.size.trans h2.size.symm) fun t ht1 ht2 => ?_
    have e : b.tmps.getD t undef = b'.tmps.getD t undef := by
      by_cases hx : ∃ j, dstAt ops j = some t
      · obtain ⟨j, hj⟩ := hx
        have hlt := dst_lt hj
        exact (h1.new j t hlt hj).trans (h2.new j t hlt hj).symm
      · exact (h1.old t fun j _ hj => hx ⟨j, hj⟩).trans (h2.old t fun j _ hj => hx ⟨j, hj⟩).symm
    simpa [Array.getD_eq_getD_getElem?, ht1, ht2] using e
  cases b; cases b'; simp only at hd ht; subst hd; subst ht; rfl
theorem putAll_met {ops : Array Oper} {vs : List Value} {a : Act} (u : World) (htidy : Region.tidyB ops a.tmps.size = true) : ∀ n, n ≤ ops.size → Met ops (IsVal vs) a (fun i => i < n) (putAll ops vs n a) u
  | 0, _ => ⟨rfl, rfl, fun _ _ => rfl, fun i _ hi _ => absurd hi (Nat.not_lt_zero i)⟩
  | n + 1, hn => by
    obtain ⟨o, ho⟩ : ∃ o, ops[n]? = some o := ⟨_, Array.getElem?_eq_getElem hn⟩
    have hdo : dstAt ops n = o.dst := by unfold dstAt; rw [ho]; rfl
    have m := met_put (F := IsVal vs) (G := fun _ _ => True) (u' := u) htidy (fun _ _ _ _ h _ => h) (putAll_met u htidy n (by omega)) ho (v := vs.getD n undef) trivial rfl
    rw [← hdo] at m
    exact ⟨m.defers, m.size, fun t ht => m.old t fun j hj => ht j (by rcases hj with rfl | hj <;> omega), fun j t hj hd => m.new j t (by omega) hd⟩
theorem met_all {ops : Array Oper} {vs : List Value} {a b : Act} {u : World} (htidy : Region.tidyB ops a.tmps.size = true) (h : Met ops (IsVal vs) a (fun i => i < ops.size) b u) : b = putAll ops vs ops.size a :=
  met_unique h (putAll_met u htidy ops.size (Nat.le_refl _))
theorem isVal_of {vs : List Value} {i : Nat} {v c : Value} {u : World} (hv : IsVal vs i v u) (h : vs.getD i undef = c) : v = c := Eq.trans hv h

end Go.Proofs.Ytbncjinkojeioaa

/- Two rules for a region that draws its order: its operations yield these values, and at most make new memory; at its end one of them may store. Nothing of the program is in here. -/
namespace Go.Proofs.Ytbncjinkojeioaa
open Go.RowKit

theorem met_all_list {l : List Oper} {vs : List Value} {a b : Act} {u : World} (htidy : Region.tidyB l.toArray a.tmps.size = true) (h : Met l.toArray (IsVal vs) a (fun i => i < l.length) b u) : b = putAll l.toArray vs l.length a := by
  have := met_all (vs := vs) htidy (b := b) (u := u) (by simpa using h)
  simpa using this

/-- What an operation is told of the slots that it reads. -/
def Slots (l : List Oper) (a : Act) (vs : List Value) (o : Oper) (b : Act) : Prop :=
  (∀ t, Region.baseB l t = true → b.tmps.getD t undef = a.tmps.getD t undef) ∧ ∀ j t, (o.after.any fun e => Region.binds .any e && e.on == j) = true → dstAt l.toArray j = some t → b.tmps.getD t undef = vs.getD j undef
theorem Slots.base {l : List Oper} {a : Act} {vs : List Value} {o : Oper} {b : Act} (h : Slots l a vs o b) (t : Tmp) (ht : Region.baseB l t = true) : b.tmps.getD t undef = a.tmps.getD t undef := h.1 t ht
theorem Slots.dep {l : List Oper} {a : Act} {vs : List Value} {o : Oper} {b : Act} (h : Slots l a vs o b) (j : Nat) (t : Tmp) (h1 : (o.after.any fun e => Region.binds .any e && e.on == j) = true) (h2 : dstAt l.toArray j = some t) : b.tmps.getD t undef = vs.getD j undef := h.2 j t h1 h2

/-- The region makes new memory at most. -/
theorem wp_region_grow {P : Program} {id : Nat} {l : List Oper} {Q : Exit → Act → World → Prop} {a : Act} {w : World} (hmix : P.follows .mixedOrders = true) (vs : List Value) (htidy : Region.tidyB l.toArray a.tmps.size = true)
    (hop : ∀ (i : Nat) (o : Oper) (b : Act) (u : World), l[i]? = some o → Below w.heap.size w.drew u → Slots l a vs o b →
      Region.wanted o (yielded l.toArray b.tmps) = true ∧ yieldsY P (fun v u' => v = vs.getD i undef ∧ Below u.heap.size u u') ((execOp b.eval o).run P u) ∨ Region.wanted o (yielded l.toArray b.tmps) = false ∧ vs.getD i undef = undef)
    (hend : ∀ u, Below w.heap.size w.drew u → Q .normal (putAll l.toArray vs l.length a) u) : (Code.region id l.toArray true).wp P Q a w := by
  refine wp_region_inv hmix (IsVal vs) (fun _ u => Below w.heap.size w.drew u) htidy (Below.refl _ _) ?_ ?_
  · intro i o b u come ho _ _ hr hI hold hnew
    have hb : w.heap.size ≤ u.heap.size := hI.size
    rcases hop i o b u ho hI ⟨fun t ht => hold t (base_of ht), fun j t h1 h2 => hnew j t (hr j h1) h2⟩ with ⟨h1, h2⟩ | ⟨h1, h2⟩
    · refine .inl ⟨h1, ?_⟩
      revert h2
      generalize (execOp b.eval o).run P u = r
      intro h2
      cases r with
      | ok n u' =>
        cases n <;> simp only [yieldsY] at h2 ⊢
        · exact ⟨hI.trans (h2.2.mono hb), h2.1, fun _ _ _ h => h⟩
        all_goals first
          | exact ⟨hI.trans (h2.2.mono hb), h2.1, fun _ _ _ h => h⟩
          | exact h2.mono fun e u'' ⟨v, he, h3, h4⟩ => ⟨v, he, hI.trans (h4.mono hb), h3, fun _ _ _ h => h⟩
      | halt x u' => exact h2
    · exact .inr ⟨h1, hI, h2.symm⟩
  · intro b u hI hm
    rw [met_all_list htidy hm]
    exact hend u hI

/-- The region makes new memory at most, and stores once. -/
theorem wp_region_grow_store {P : Program} {id : Nat} {l : List Oper} {Q : Exit → Act → World → Prop} {a : Act} {w : World} (hmix : P.follows .mixedOrders = true) (vs : List Value) (m : Nat) (st : World → World) (htidy : Region.tidyB l.toArray a.tmps.size = true)
    (hm : m < l.length) (hvm : vs.getD m undef = undef)
    (hop : ∀ (i : Nat) (o : Oper) (b : Act) (u : World), l[i]? = some o → i ≠ m → (Region.waitsB l m i = true → Below w.heap.size w.drew u) → Slots l a vs o b →
      Region.wanted o (yielded l.toArray b.tmps) = true ∧ yieldsY P (fun v u' => v = vs.getD i undef ∧ ((Region.waitsB l m i = true ∧ Below u.heap.size u u') ∨ u' = u)) ((execOp b.eval o).run P u) ∨ Region.wanted o (yielded l.toArray b.tmps) = false ∧ vs.getD i undef = undef)
    (hstore : ∀ (o : Oper) (b : Act) (u : World), l[m]? = some o → Below w.heap.size w.drew u → Slots l a vs o b → Region.wanted o (yielded l.toArray b.tmps) = true ∧ (execOp b.eval o).run P u = .ok .skip (st u))
    (hend : ∀ u, Below w.heap.size w.drew u → Q .normal (putAll l.toArray vs l.length a) (st u)) : (Code.region id l.toArray true).wp P Q a w := by
  refine wp_region_inv hmix (IsVal vs) (fun come u => ∃ v, Below w.heap.size w.drew v ∧ ((¬ come m ∧ u = v) ∨ (come m ∧ u = st v))) htidy ⟨w.drew, Below.refl _ _, .inl ⟨fun h => h, rfl⟩⟩ ?_ ?_
  · rintro i o b u come ho hn hC hr ⟨v0, hv0, hI⟩ hold hnew
    have hs : Slots l a vs o b := ⟨fun t ht => hold t (base_of ht), fun j t h1 h2 => hnew j t (hr j h1) h2⟩
    by_cases e : i = m
    · subst e
      rcases hI with ⟨_, rfl⟩ | ⟨h, _⟩
      · obtain ⟨h1, h2⟩ := hstore o b u ho hv0 hs
        refine .inl ⟨h1, ?_⟩
        rw [h2]
        exact ⟨⟨u, hv0, .inr ⟨.inl rfl, rfl⟩⟩, hvm.symm, fun _ _ _ h => h⟩
      · exact absurd h hn
    · have hpre : Region.waitsB l m i = true → ¬ come m := fun h => not_yet hC h hn
      have keep : ∃ v, Below w.heap.size w.drew v ∧ ((¬ (m = i ∨ come m) ∧ u = v) ∨ ((m = i ∨ come m) ∧ u = st v)) := by
        rcases hI with ⟨h, rfl⟩ | ⟨h, rfl⟩
        · exact ⟨_, hv0, .inl ⟨fun h' => h'.elim (fun e' => e e'.symm) h, rfl⟩⟩
        · exact ⟨_, hv0, .inr ⟨.inr h, rfl⟩⟩
      have grown : ∀ u', Region.waitsB l m i = true → Below u.heap.size u u' → ∃ v, Below w.heap.size w.drew v ∧ ((¬ (m = i ∨ come m) ∧ u' = v) ∨ ((m = i ∨ come m) ∧ u' = st v)) := by
        intro u' h hb
        have hcm := hpre h
        rcases hI with ⟨_, rfl⟩ | ⟨h', _⟩
        · have hsz : w.heap.size ≤ u.heap.size := hv0.size
          exact ⟨u', hv0.trans (hb.mono hsz), .inl ⟨fun h' => h'.elim (fun e' => e e'.symm) hcm, rfl⟩⟩
        · exact absurd h' hcm
      have hgo := hop i o b u ho e (fun h => by
        rcases hI with ⟨_, rfl⟩ | ⟨h', _⟩
        · exact hv0
        · exact absurd h' (hpre h)) hs
      rcases hgo with ⟨h1, h2⟩ | ⟨h1, h2⟩
      · refine .inl ⟨h1, ?_⟩
        revert h2
        generalize (execOp b.eval o).run P u = r
        intro h2
        have fin : ∀ v u', v = vs.getD i undef ∧ ((Region.waitsB l m i = true ∧ Below u.heap.size u u') ∨ u' = u) → (∃ v, Below w.heap.size w.drew v ∧ ((¬ (m = i ∨ come m) ∧ u' = v) ∨ ((m = i ∨ come m) ∧ u' = st v))) ∧ IsVal vs i v u' ∧ ∀ j x, come j → IsVal vs j x u → IsVal vs j x u' := by
          rintro v u' ⟨h3, h4 | rfl⟩
          · exact ⟨grown u' h4.1 h4.2, h3, fun _ _ _ h => h⟩
          · exact ⟨keep, h3, fun _ _ _ h => h⟩
        cases r with
        | ok n u' =>
          cases n <;> simp only [yieldsY] at h2 ⊢
          all_goals first
            | exact fin _ _ h2
            | exact h2.mono fun e u'' ⟨v, he, h3⟩ => ⟨v, he, fin _ _ h3⟩
        | halt x u' => exact h2
      · exact .inr ⟨h1, keep, h2.symm⟩
  · rintro b u ⟨v, hv, hI⟩ hmet
    rw [met_all_list htidy hmet]
    rcases hI with ⟨h, _⟩ | ⟨_, rfl⟩
    · exact absurd hm h
    · exact hend v hv
/-- How an operation ends: a value in the same world; a call that makes new memory at most. -/
theorem ends_value {P : Program} {c : Value} {A : World → Prop} {u : World} {r : Result Next} (hr : r = .ok (.value c) u) : yieldsY P (fun v u' => v = c ∧ (A u' ∨ u' = u)) r := by rw [hr]; exact ⟨rfl, .inr rfl⟩
theorem ends_value' {P : Program} {c : Value} {u : World} {r : Result Next} (hr : r = .ok (.value c) u) : yieldsY P (fun v u' => v = c ∧ Below u.heap.size u u') r := by rw [hr]; exact ⟨rfl, Below.refl _ _⟩
theorem ends_call {P : Program} {c : Value} {A : Prop} (hA : A) {u : World} {f : FuncId} {args : Array Value} {r : Result Next} (hr : r = .ok (.enter f args) u)
    (h : Calls P f args u fun e u' => e = .returned c ∧ Below u.heap.size u u') : yieldsY P (fun v u' => v = c ∧ ((A ∧ Below u.heap.size u u') ∨ u' = u)) r := by
  rw [hr]; exact h.mono fun e u' ⟨he, hb⟩ => ⟨c, he, rfl, .inl ⟨hA, hb⟩⟩
theorem ends_call' {P : Program} {c : Value} {u : World} {f : FuncId} {args : Array Value} {r : Result Next} (hr : r = .ok (.enter f args) u)
    (h : Calls P f args u fun e u' => e = .returned c ∧ Below u.heap.size u u') : yieldsY P (fun v u' => v = c ∧ Below u.heap.size u u') r := by
  rw [hr]; exact h.mono fun e u' ⟨he, hb⟩ => ⟨c, he, rfl, hb⟩
end Go.Proofs.Ytbncjinkojeioaa

/- A region that draws its order, makes one variable and stores into it, and else leaves memory as it is. Nothing of the program is in here. -/
namespace Go.Proofs.Ytbncjinkojeioaa
open Go.RowKit

def Region.directB (l : List Oper) (m i : Nat) : Bool := match l[m]? with
  | some o => o.after.any fun e => Region.binds .any e && e.on == i
  | none => false
theorem wp_region_alloc {P : Program} {id : Nat} {l : List Oper} {Q : Exit → Act → World → Prop} {a : Act} {w : World} (hmix : P.follows .mixedOrders = true) (vs : List Value) (ia m : Nat) (u1 u2 : World) (htidy : Region.tidyB l.toArray a.tmps.size = true)
    (hm : m < l.length) (hne : ia ≠ m) (hw : Region.directB l m ia = true) (hvm : vs.getD m undef = undef)
    (hop : ∀ (i : Nat) (o : Oper) (b : Act) (u : World), l[i]? = some o → i ≠ ia → i ≠ m → Slots l a vs o b →
      Region.wanted o (yielded l.toArray b.tmps) = true ∧ yieldsY P (fun v u' => v = vs.getD i undef ∧ u' = u) ((execOp b.eval o).run P u))
    (halloc : ∀ (o : Oper) (b : Act), l[ia]? = some o → Slots l a vs o b → Region.wanted o (yielded l.toArray b.tmps) = true ∧ (execOp b.eval o).run P w.drew = .ok (.value (vs.getD ia undef)) u1)
    (hstore : ∀ (o : Oper) (b : Act), l[m]? = some o → Slots l a vs o b → Region.wanted o (yielded l.toArray b.tmps) = true ∧ (execOp b.eval o).run P u1 = .ok .skip u2)
    (hend : Q .normal (putAll l.toArray vs l.length a) u2) : (Code.region id l.toArray true).wp P Q a w := by
  refine wp_region_inv hmix (IsVal vs) (fun come u => (¬ come ia ∧ ¬ come m ∧ u = w.drew) ∨ (come ia ∧ ¬ come m ∧ u = u1) ∨ (come ia ∧ come m ∧ u = u2)) htidy (.inl ⟨fun h => h, fun h => h, rfl⟩) ?_ ?_
  · rintro i o b u come ho hn _ hr hI hold hnew
    have hs : Slots l a vs o b := ⟨fun t ht => hold t (base_of ht), fun j t h1 h2 => hnew j t (hr j h1) h2⟩
    by_cases e : i = m
    · subst e
      have hia : come ia := by
        unfold Region.directB at hw
        rw [ho] at hw
        exact hr ia hw
      rcases hI with ⟨h, _, _⟩ | ⟨_, _, rfl⟩ | ⟨_, h, _⟩
      · exact absurd hia h
      · obtain ⟨h1, h2⟩ := hstore o b ho hs
        refine .inl ⟨h1, ?_⟩
        rw [h2]
        exact ⟨.inr (.inr ⟨.inr hia, .inl rfl, rfl⟩), hvm.symm, fun _ _ _ h => h⟩
      · exact absurd h hn
    · by_cases e2 : i = ia
      · subst e2
        rcases hI with ⟨_, hc, rfl⟩ | ⟨h, _, _⟩ | ⟨h, _, _⟩
        · obtain ⟨h1, h2⟩ := halloc o b ho hs
          refine .inl ⟨h1, ?_⟩
          rw [h2]
          exact ⟨.inr (.inl ⟨.inl rfl, fun h => h.elim (fun x => e x.symm) hc, rfl⟩), rfl, fun _ _ _ h => h⟩
        · exact absurd h hn
        · exact absurd h hn
      · obtain ⟨h1, h2⟩ := hop i o b u ho e2 e hs
        have keep : (¬ (ia = i ∨ come ia) ∧ ¬ (m = i ∨ come m) ∧ u = w.drew) ∨ ((ia = i ∨ come ia) ∧ ¬ (m = i ∨ come m) ∧ u = u1) ∨ ((ia = i ∨ come ia) ∧ (m = i ∨ come m) ∧ u = u2) := by
          rcases hI with ⟨h3, h4, h5⟩ | ⟨h3, h4, h5⟩ | ⟨h3, h4, h5⟩
          · exact .inl ⟨fun h => h.elim (fun x => e2 x.symm) h3, fun h => h.elim (fun x => e x.symm) h4, h5⟩
          · exact .inr (.inl ⟨.inr h3, fun h => h.elim (fun x => e x.symm) h4, h5⟩)
          · exact .inr (.inr ⟨.inr h3, .inr h4, h5⟩)
        refine .inl ⟨h1, ?_⟩
        revert h2
        generalize (execOp b.eval o).run P u = r
        intro h2
        have fin : ∀ v u', v = vs.getD i undef ∧ u' = u → ((¬ (ia = i ∨ come ia) ∧ ¬ (m = i ∨ come m) ∧ u' = w.drew) ∨ ((ia = i ∨ come ia) ∧ ¬ (m = i ∨ come m) ∧ u' = u1) ∨ ((ia = i ∨ come ia) ∧ (m = i ∨ come m) ∧ u' = u2)) ∧ IsVal vs i v u' ∧ ∀ j x, come j → IsVal vs j x u → IsVal vs j x u' := by
          rintro v u' ⟨h3, rfl⟩
          exact ⟨keep, h3, fun _ _ _ h => h⟩
        cases r with
        | ok n u' =>
          cases n <;> simp only [yieldsY] at h2 ⊢
          all_goals first
            | exact fin _ _ h2
            | exact h2.mono fun e u'' ⟨v, he, h3⟩ => ⟨v, he, fin _ _ h3⟩
        | halt x u' => exact h2
  · rintro b u hI hmet
    rw [met_all_list htidy hmet]
    rcases hI with ⟨_, h, _⟩ | ⟨_, h, _⟩ | ⟨_, _, rfl⟩
    · exact absurd hm h
    · exact absurd hm h
    · exact hend
theorem rests_value {P : Program} {c : Value} {u : World} {r : Result Next} (hr : r = .ok (.value c) u) : yieldsY P (fun v u' => v = c ∧ u' = u) r := by rw [hr]; exact ⟨rfl, rfl⟩
theorem rests_call {P : Program} {c : Value} {u : World} {f : FuncId} {args : Array Value} {r : Result Next} (hr : r = .ok (.enter f args) u)
    (h : Calls P f args u fun e u' => e = .returned c ∧ u' = u) : yieldsY P (fun v u' => v = c ∧ u' = u) r := by
  rw [hr]; exact h.mono fun e u' ⟨he, hb⟩ => ⟨c, he, rfl, hb⟩
end Go.Proofs.Ytbncjinkojeioaa

/- A region that draws its order and makes rows: the frame behind it, with the values that came up. Nothing of the program is in here. -/
namespace Go.Proofs.Ytbncjinkojeioaa
open Go.RowKit

/-- What came up in each slot. -/
def upOf (l : List Oper) (b : Act) : List Value := (List.range l.length).map fun i => match dstAt l.toArray i with | some t => b.tmps.getD t undef | none => undef
theorem upOf_length (l : List Oper) (b : Act) : (upOf l b).length = l.length := by unfold upOf; rw [List.length_map, List.length_range]
theorem upOf_at {l : List Oper} {b : Act} {i : Nat} {t : Tmp} (hi : i < l.length) (hd : dstAt l.toArray i = some t) : (upOf l b).getD i undef = b.tmps.getD t undef := by
  unfold upOf
  rw [List.getD_eq_getElem?_getD, List.getElem?_map, List.getElem?_range hi]
  simp [hd]
theorem wp_region_vals {P : Program} {id : Nat} {l : List Oper} {Q : Exit → Act → World → Prop} {a : Act} {w : World} (hmix : P.follows .mixedOrders = true) (vs : List (Value ⊕ List Value))
    (htidy : Region.tidyB l.toArray a.tmps.size = true)
    (hop : ∀ (i : Nat) (o : Oper) (b : Act) (u : World), l[i]? = some o → Below w.heap.size w.drew u → (∀ t, (∀ i, dstAt l.toArray i ≠ some t) → b.tmps.getD t undef = a.tmps.getD t undef) →
      (∀ j t, (o.after.any fun e => Region.binds .any e && e.on == j) = true → dstAt l.toArray j = some t → ValIs vs j (b.tmps.getD t undef) u) →
      (Region.wanted o (yielded l.toArray b.tmps) = true ∧ yieldsUpon P (fun u u' => Below u.heap.size u u') (ValIs vs i) u ((execOp b.eval o).run P u)) ∨ (Region.wanted o (yielded l.toArray b.tmps) = false ∧ ValIs vs i undef u))
    (hend : ∀ xs u, xs.length = l.length → Below w.heap.size w.drew u → (∀ i t, i < l.length → dstAt l.toArray i = some t → ValIs vs i (xs.getD i undef) u) → Q .normal (putAll l.toArray xs l.length a) u) : (Code.region id l.toArray true).wp P Q a w := by
  refine wp_region_values hmix (ValIs vs) (fun u u' => Below u.heap.size u u') htidy (fun i v u u' h hb => valIs_on _ i v u u' h hb) (fun u => Below.refl _ _) (fun a b c h h' => h.trans (h'.mono h.size)) (fun i o b u ho hG => hop i o b u ho hG) ?_
  intro b u hG hm
  have e : b = putAll l.toArray (upOf l b) l.length a := met_all_list (vs := upOf l b) htidy (u := u) ⟨hm.defers, hm.size, hm.old, fun i t hi hd => (upOf_at hi hd).symm⟩
  rw [e]
  refine hend _ u (upOf_length l b) hG fun i t hi hd => ?_
  rw [upOf_at hi hd]
  exact hm.new i t hi hd
end Go.Proofs.Ytbncjinkojeioaa
