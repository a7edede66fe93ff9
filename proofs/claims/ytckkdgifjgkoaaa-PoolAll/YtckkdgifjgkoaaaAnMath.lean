/- Buckets that come and go, as the chapter has them: the four lists as functions, the stack, how many work; what is reached by removing; a key's bucket. Nothing of the program is in here. -/
import Derived.WalkKit
import Derived.ProofKit
namespace Go.Proofs.Ytckkdgifjgkoaaa.An

/-- A function that is another one's at one place. -/
def upd (f : Nat → Nat) (i v : Nat) : Nat → Nat := fun j => if j = i then v else f j
theorem upd_same (f : Nat → Nat) (i v : Nat) : upd f i v i = v := if_pos rfl
theorem upd_other (f : Nat → Nat) (i v j : Nat) (h : j ≠ i) : upd f i v j = f j := if_neg h
theorem upd_self (f : Nat → Nat) (i v : Nat) (h : f i = v) : upd f i v = f := by
  funext j
  by_cases e : j = i
  · rw [e, upd_same, h]
  · rw [upd_other _ _ _ _ e]
theorem upd_twice (f : Nat → Nat) (i v u : Nat) : upd (upd f i v) i u = upd f i u := by
  funext j
  by_cases e : j = i
  · rw [e, upd_same, upd_same]
  · rw [upd_other _ _ _ _ e, upd_other _ _ _ _ e, upd_other _ _ _ _ e]

structure An where
  r : Nat
  n : Nat
  A : Nat → Nat
  W : Nat → Nat
  L : Nat → Nat
  K : Nat → Nat
  S : List Nat
/-- All work. -/
def allAn (r : Nat) : An := ⟨r, r, fun _ => 0, id, id, id, []⟩
/-- A bucket that works goes. -/
def remove (s : An) (b : Nat) : An :=
  { s with n := s.n - 1, A := upd s.A b (s.n - 1), W := upd s.W (s.L b) (s.W (s.n - 1)), K := upd s.K b (s.W (s.n - 1)), L := upd s.L (s.W (s.n - 1)) (s.L b), S := b :: s.S }
/-- The last one that went, b, comes back. -/
def back (s : An) (b : Nat) : An :=
  { s with n := s.n + 1, A := upd s.A b 0, L := upd s.L (s.W s.n) s.n, W := upd s.W (upd s.L (s.W s.n) s.n b) b, K := upd s.K b b, S := s.S.tail }
def Works (s : An) (b : Nat) : Prop := b < s.r ∧ s.A b = 0
instance (s : An) (b : Nat) : Decidable (Works s b) := by unfold Works; infer_instance
/-- What is come to by removing, from all. -/
inductive Reach (r : Nat) : An → Prop
  | full : 1 ≤ r → Reach r (allAn r)
  | rem (s : An) (b : Nat) : Reach r s → Works s b → 2 ≤ s.n → Reach r (remove s b)

/-- What holds of all that is reached. -/
structure WF (s : An) : Prop where
  n1 : 1 ≤ s.n
  nr : s.n ≤ s.r
  /-- Who works stands among the first n, at its place. -/
  lw : ∀ b, Works s b → s.L b < s.n ∧ s.W (s.L b) = b
  wl : ∀ i, i < s.n → Works s (s.W i) ∧ s.L (s.W i) = i
  kw : ∀ b, Works s b → s.K b = b
  /-- Who has gone. -/
  gone : ∀ b, b < s.r → s.A b ≠ 0 → s.n ≤ s.A b ∧ s.A b < s.r
  kr : ∀ b, b < s.r → s.K b < s.r
  down : ∀ b, b < s.r → s.A b ≠ 0 → s.L b < s.A b → s.A (s.K b) < s.A b
  same : ∀ b, b < s.r → s.A b ≠ 0 → s.L b < s.A b → (s.A (s.K b) ≠ 0 → s.L b < s.A (s.K b) → s.L (s.K b) = s.L b) ∧ (s.A (s.K b) = 0 → s.L b < s.n → s.L (s.K b) = s.L b)
  first : ∀ b, b < s.r → (s.A b ≠ 0 → b < s.A b → s.L b = b) ∧ (s.A b = 0 → b < s.n → s.L b = b)
  idle : ∀ b, s.r ≤ b → s.A b = 0

theorem wf_full (r : Nat) (h : 1 ≤ r) : WF (allAn r) :=
  ⟨h, Nat.le_refl _, fun _ hb => ⟨hb.1, rfl⟩, fun _ hi => ⟨⟨hi, rfl⟩, rfl⟩, fun _ _ => rfl, fun _ _ h => absurd rfl h, fun _ hb => hb, fun _ _ h => absurd rfl h, fun _ _ h => absurd rfl h, fun _ _ => ⟨fun h => absurd rfl h, fun _ _ => rfl⟩, fun _ _ => rfl⟩

section
variable {s : An} {k : Nat}
theorem wf_remove (h : WF s) (hk : Works s k) (h2 : 2 ≤ s.n) : WF (remove s k) := by
  obtain ⟨hkr, hkA⟩ := hk
  have hn1 : s.n - 1 < s.n := by omega
  obtain ⟨⟨hwr, hwA⟩, hwL⟩ := h.wl (s.n - 1) hn1
  obtain ⟨hkL, hkW⟩ := h.lw k ⟨hkr, hkA⟩
  have hkK := h.kw k ⟨hkr, hkA⟩
  obtain ⟨w, hw⟩ : ∃ w, s.W (s.n - 1) = w := ⟨_, rfl⟩
  obtain ⟨n, hn⟩ : ∃ n, s.n - 1 = n := ⟨_, rfl⟩
  rw [hw] at hwr hwA hwL
  rw [hn] at hn1 hwL hw
  have hsn : s.n = n + 1 := by omega
  have eA : (remove s k).A = upd s.A k n := by unfold remove; rw [hn]
  have eW : (remove s k).W = upd s.W (s.L k) w := by unfold remove; rw [hn, hw]
  have eK : (remove s k).K = upd s.K k w := by unfold remove; rw [hn, hw]
  have eL : (remove s k).L = upd s.L w (s.L k) := by unfold remove; rw [hn, hw]
  have en : (remove s k).n = n := by unfold remove; rw [hn]
  have er : (remove s k).r = s.r := rfl
  -- who works now worked, and is not k
  have wk : ∀ b, Works (remove s k) b ↔ Works s b ∧ b ≠ k := by
    intro b
    unfold Works
    rw [eA, er]
    by_cases e : b = k
    · subst e; rw [upd_same]; constructor
      · intro hh; omega
      · intro hh; exact absurd rfl hh.2
    · rw [upd_other _ _ _ _ e]; exact ⟨fun hh => ⟨hh, e⟩, fun hh => hh.1⟩
  have hLw : ∀ b, b ≠ w → (remove s k).L b = s.L b := fun b hb => by rw [eL, upd_other _ _ _ _ hb]
  have hLk : (remove s k).L k = s.L k := by
    rw [eL]
    by_cases e : k = w
    · rw [e, upd_same]
    · rw [upd_other _ _ _ _ e]
  have hAo : ∀ b, b ≠ k → (remove s k).A b = s.A b := fun b hb => by rw [eA, upd_other _ _ _ _ hb]
  have hAk : (remove s k).A k = n := by rw [eA, upd_same]
  have hKo : ∀ b, b ≠ k → (remove s k).K b = s.K b := fun b hb => by rw [eK, upd_other _ _ _ _ hb]
  have hKk : (remove s k).K k = w := by rw [eK, upd_same]
  have wne : s.L k < n → w ≠ k := fun hlt e => by rw [← e, hwL] at hlt; omega
  refine ⟨by rw [en]; omega, by rw [en, er]; have := h.nr; omega, ?_, ?_, ?_, ?_, ?_, ?_, ?_, ?_, ?_⟩
  · -- lw
    intro b hb
    obtain ⟨hbw, hbk⟩ := (wk b).1 hb
    obtain ⟨hbL, hbW⟩ := h.lw b hbw
    rw [en, eW]
    by_cases e : b = w
    · subst e
      have hne : s.L k ≠ n := fun e2 => hbk (by rw [← hkW, e2, ← hwL, hbW])
      rw [show (remove s k).L b = s.L k by rw [eL, upd_same], upd_same]
      exact ⟨by omega, rfl⟩
    · have hbn : s.L b ≠ n := fun e2 => e (by rw [← hbW, e2, hw])
      have hbl : s.L b ≠ s.L k := fun e2 => hbk (by rw [← hbW, e2, hkW])
      rw [hLw b e, upd_other _ _ _ _ hbl]
      exact ⟨by omega, hbW⟩
  · -- wl
    intro i hi
    rw [en] at hi
    rw [eW]
    by_cases e : i = s.L k
    · subst e
      rw [upd_same]
      refine ⟨(wk w).2 ⟨⟨hwr, hwA⟩, wne hi⟩, by rw [eL, upd_same]⟩
    · rw [upd_other _ _ _ _ e]
      obtain ⟨h1, h2'⟩ := h.wl i (by omega)
      have hik : s.W i ≠ k := fun e2 => e (by rw [← h2', e2])
      have hiw : s.W i ≠ w := fun e2 => by rw [e2, hwL] at h2'; omega
      exact ⟨(wk _).2 ⟨h1, hik⟩, by rw [hLw _ hiw]; exact h2'⟩
  · -- kw
    intro b hb
    obtain ⟨hbw, hbk⟩ := (wk b).1 hb
    rw [hKo b hbk]
    exact h.kw b hbw
  · -- gone
    intro b hb hA
    rw [er] at hb
    rw [en, er]
    by_cases e : b = k
    · subst e; rw [hAk]; have := h.nr; exact ⟨Nat.le_refl _, by omega⟩
    · rw [hAo b e] at hA ⊢
      have := h.gone b hb hA
      exact ⟨by omega, this.2⟩
  · -- kr
    intro b hb
    rw [er] at hb ⊢
    by_cases e : b = k
    · subst e; rw [hKk]; exact hwr
    · rw [hKo b e]; exact h.kr b hb
  · -- down
    intro b hb hA hL
    rw [er] at hb
    by_cases e : b = k
    · subst e
      rw [hAk, hLk] at hL
      rw [hKk, hAk, hAo w (wne hL), hwA]
      omega
    · rw [hAo b e] at hA hL ⊢
      rw [hKo b e]
      have hbw : b ≠ w := fun e2 => hA (by rw [e2, hwA])
      rw [hLw b hbw] at hL
      have hd := h.down b hb hA hL
      have hg := (h.gone b hb hA).1
      by_cases e2 : s.K b = k
      · rw [e2, hAk]; omega
      · rw [hAo _ e2]; exact hd
  · -- same
    intro b hb hA hL
    rw [er] at hb
    by_cases e : b = k
    · subst e
      rw [hAk, hLk] at hL
      rw [hKk, hLk, en, hAo w (wne hL), hwA]
      exact ⟨fun hh => absurd rfl hh, fun _ _ => by rw [eL, upd_same]⟩
    · rw [hAo b e] at hA hL
      have hbw : b ≠ w := fun e2 => hA (by rw [e2, hwA])
      rw [hLw b hbw] at hL ⊢
      rw [hKo b e, en]
      obtain ⟨s1, s2⟩ := h.same b hb hA hL
      by_cases e2 : s.K b = k
      · rw [e2] at s1 s2 ⊢
        rw [hAk, hLk]
        exact ⟨fun _ hlt => s2 hkA (by omega), fun hh => by omega⟩
      · rw [hAo _ e2]
        refine ⟨fun hne hlt => ?_, fun hz hlt => ?_⟩
        · have hKw : s.K b ≠ w := fun e3 => hne (by rw [e3, hwA])
          rw [hLw _ hKw]
          exact s1 hne hlt
        · have := s2 hz (by omega)
          by_cases e3 : s.K b = w
          · rw [e3, hwL] at this; omega
          · rw [hLw _ e3]; exact this
  · -- first
    intro b hb
    rw [er] at hb
    obtain ⟨f1, f2⟩ := h.first b hb
    by_cases e : b = k
    · subst e
      rw [hAk, hLk, en]
      exact ⟨fun _ hlt => f2 hkA (by omega), fun hz => by omega⟩
    · rw [hAo b e, en]
      refine ⟨fun hne hlt => ?_, fun hz hlt => ?_⟩
      · have hbw : b ≠ w := fun e2 => hne (by rw [e2, hwA])
        rw [hLw b hbw]; exact f1 hne hlt
      · have := f2 hz (by omega)
        by_cases e2 : b = w
        · rw [e2, hwL] at this; omega
        · rw [hLw b e2]; exact this
  · intro b hb
    rw [er] at hb
    rw [hAo b (by omega)]
    exact h.idle b hb

/-- Who has gone and comes back at once leaves all as it was. -/
theorem back_remove (h : WF s) (hk : Works s k) (h2 : 2 ≤ s.n) : back (remove s k) k = s := by
  have hn1 : s.n - 1 < s.n := by omega
  obtain ⟨hww, hwL⟩ := h.wl (s.n - 1) hn1
  obtain ⟨hkL, hkW⟩ := h.lw k hk
  have hkK := h.kw k hk
  obtain ⟨w, hw⟩ : ∃ w, s.W (s.n - 1) = w := ⟨_, rfl⟩
  rw [hw] at hwL hww
  have hWn : upd s.W (s.L k) w (s.n - 1) = w := by
    by_cases e : s.n - 1 = s.L k
    · rw [e, upd_same]
    · rw [upd_other _ _ _ _ e, hw]
  have hL2 : upd (upd s.L w (s.L k)) w (s.n - 1) = s.L := by rw [upd_twice, upd_self _ _ _ hwL]
  unfold back remove
  simp only [hw, hWn, hL2, upd_twice]
  rw [upd_self s.A k 0 hk.2, upd_self s.W (s.L k) k hkW, upd_self s.K k k hkK]
  have e : s.n - 1 + 1 = s.n := by omega
  rw [e]
  rfl
end

theorem Reach.wf {r : Nat} {s : An} (h : Reach r s) : WF s := by
  induction h with
  | full h => exact wf_full r h
  | rem s b _ hb h2 ih => exact wf_remove ih hb h2
theorem Reach.room {r : Nat} {s : An} (h : Reach r s) : s.r = r := by
  induction h with
  | full h => rfl
  | rem s b _ hb h2 ih => exact ih
/-- Whoever was removed last: what is reached is what it was removed from, and that. -/
theorem Reach.last {r : Nat} {s : An} (h : Reach r s) : (s.S = [] ∧ s = allAn r) ∨ ∃ t b, s.S = b :: t.S ∧ s = remove t b ∧ Reach r t ∧ Works t b ∧ 2 ≤ t.n ∧ back s b = t := by
  cases h with
  | full h => exact .inl ⟨rfl, rfl⟩
  | rem t b ht hb h2 => exact .inr ⟨t, b, rfl, rfl, ht, hb, h2, back_remove ht.wf hb h2⟩
theorem Reach.stack {r : Nat} {s : An} (h : Reach r s) : s.S.length + s.n = r := by
  induction h with
  | full h => show 0 + r = r; omega
  | rem s b _ hb h2 ih => show (b :: s.S).length + (s.n - 1) = r; rw [List.length_cons]; omega

/-! ### Which bucket a key is told. -/
def chase (s : An) (m : Nat) : Nat → Nat → Nat
  | 0, h => h
  | f + 1, h => if m ≤ s.A h then chase s m f (s.K h) else h
/-- h is on the way to who stands at place p, in the lists of m. -/
def On (s : An) (m p h : Nat) : Prop := h < s.r ∧ p < m ∧ (m ≤ s.A h → s.L h = p)
section
variable {s : An}
theorem on_start (w : WF s) {m h : Nat} (hm : h < m) (hr : m ≤ s.r) : On s m h h :=
  ⟨by omega, hm, fun ha => ((w.first h (by omega)).1 (by omega) (by omega))⟩
theorem on_step (w : WF s) {m p h : Nat} (o : On s m p h) (ha : m ≤ s.A h) : On s m p (s.K h) ∧ s.A (s.K h) < s.A h := by
  obtain ⟨h1, h2, h3⟩ := o
  have hL := h3 ha
  have hne : s.A h ≠ 0 := by omega
  have hlt : s.L h < s.A h := by omega
  refine ⟨⟨w.kr h h1, h2, fun hk => ?_⟩, w.down h h1 hne hlt⟩
  have := (w.same h h1 hne hlt).1 (by omega) (by omega)
  omega
theorem chase_fuel (w : WF s) (m p : Nat) : ∀ (f g h : Nat), On s m p h → s.A h < f → s.A h < g → chase s m f h = chase s m g h
  | 0, _, _, _, hf, _ => by omega
  | _, 0, _, _, _, hg => by omega
  | f + 1, g + 1, h, o, hf, hg => by
    unfold chase
    by_cases ha : m ≤ s.A h
    · obtain ⟨o2, hd⟩ := on_step w o ha
      rw [if_pos ha, if_pos ha]
      exact chase_fuel w m p f g _ o2 (by omega) (by omega)
    · rw [if_neg ha, if_neg ha]
theorem chase_end (w : WF s) (m p : Nat) : ∀ (f h : Nat), On s m p h → s.A h < f → s.A (chase s m f h) < m ∧ chase s m f h < s.r
  | 0, _, _, hf => by omega
  | f + 1, h, o, hf => by
    unfold chase
    by_cases ha : m ≤ s.A h
    · obtain ⟨o2, hd⟩ := on_step w o ha
      rw [if_pos ha]
      exact chase_end w m p f _ o2 (by omega)
    · rw [if_neg ha]
      exact ⟨by omega, o.1⟩
theorem a_lt (w : WF s) {h : Nat} (hh : h < s.r) : s.A h < s.r := by
  by_cases e : s.A h = 0
  · omega
  · exact (w.gone h hh e).2
/-- Who stands there. -/
def found (s : An) (m h : Nat) : Nat := chase s m s.r h
theorem found_step (w : WF s) {m p h : Nat} (o : On s m p h) (ha : m ≤ s.A h) : found s m h = found s m (s.K h) := by
  obtain ⟨o2, hd⟩ := on_step w o ha
  have h1 := a_lt w o.1
  have e : found s m h = chase s m (s.r + 1) h := chase_fuel w m p _ _ h o h1 (by omega)
  rw [e]
  show (if m ≤ s.A h then chase s m s.r (s.K h) else h) = _
  rw [if_pos ha]; rfl
theorem found_here {m h : Nat} (hh : h < s.r) (ha : ¬ m ≤ s.A h) : found s m h = h := by
  obtain ⟨r, hr⟩ : ∃ r, s.r = r + 1 := ⟨s.r - 1, by omega⟩
  unfold found
  rw [hr]
  show (if m ≤ s.A h then _ else h) = h
  rw [if_neg ha]
theorem found_lt (w : WF s) {m p h : Nat} (o : On s m p h) : s.A (found s m h) < m ∧ found s m h < s.r := chase_end w m p _ h o (a_lt w o.1)

/-- g is what a key is mixed to with each number. -/
def next (s : An) (g : Nat → Nat) (b : Nat) : Nat := found s (s.A b) (g b % s.A b)
theorem next_ok (w : WF s) (g : Nat → Nat) {b : Nat} (hb : b < s.r) (ha : s.A b ≠ 0) : s.A (next s g b) < s.A b ∧ next s g b < s.r :=
  found_lt w (on_start w (Nat.mod_lt _ (by omega)) (Nat.le_of_lt (a_lt w hb)))
def walk (s : An) (g : Nat → Nat) : Nat → Nat → Nat
  | 0, b => b
  | f + 1, b => if s.A b = 0 then b else walk s g f (next s g b)
theorem walk_fuel (w : WF s) (g : Nat → Nat) : ∀ (f h b : Nat), b < s.r → s.A b < f → s.A b < h → walk s g f b = walk s g h b
  | 0, _, _, _, hf, _ => by omega
  | _, 0, _, _, _, hg => by omega
  | f + 1, h + 1, b, hb, hf, hg => by
    unfold walk
    by_cases ha : s.A b = 0
    · rw [if_pos ha, if_pos ha]
    · obtain ⟨h1, h2⟩ := next_ok w g hb ha
      rw [if_neg ha, if_neg ha]
      exact walk_fuel w g f h _ h2 (by omega) (by omega)
theorem walk_end (w : WF s) (g : Nat → Nat) : ∀ (f b : Nat), b < s.r → s.A b < f → Works s (walk s g f b)
  | 0, _, _, hf => by omega
  | f + 1, b, hb, hf => by
    unfold walk
    by_cases ha : s.A b = 0
    · rw [if_pos ha]; exact ⟨hb, ha⟩
    · obtain ⟨h1, h2⟩ := next_ok w g hb ha
      rw [if_neg ha]
      exact walk_end w g f _ h2 (by omega)
/-- The bucket that is come to from b. -/
def told (s : An) (g : Nat → Nat) (b : Nat) : Nat := walk s g s.r b
theorem told_step (w : WF s) (g : Nat → Nat) {b : Nat} (hb : b < s.r) (ha : s.A b ≠ 0) : told s g b = told s g (next s g b) := by
  obtain ⟨h1, h2⟩ := next_ok w g hb ha
  have h3 := a_lt w hb
  have e : told s g b = walk s g (s.r + 1) b := walk_fuel w g _ _ b hb h3 (by omega)
  rw [e]
  show (if s.A b = 0 then b else walk s g s.r (next s g b)) = _
  rw [if_neg ha]; rfl
theorem told_here (g : Nat → Nat) {b : Nat} (hb : b < s.r) (ha : s.A b = 0) : told s g b = b := by
  obtain ⟨r, hr⟩ : ∃ r, s.r = r + 1 := ⟨s.r - 1, by omega⟩
  unfold told
  rw [hr]
  show (if s.A b = 0 then b else _) = b
  rw [if_pos ha]
theorem told_works (w : WF s) (g : Nat → Nat) {b : Nat} (hb : b < s.r) : Works s (told s g b) := walk_end w g _ b hb (a_lt w hb)
/-- A key's bucket. -/
def bucket (s : An) (g : Nat → Nat) : Nat := told s g (g s.r % s.r)
theorem bucket_works (w : WF s) (g : Nat → Nat) : Works s (bucket s g) := told_works w g (Nat.mod_lt _ (by have := w.n1; have := w.nr; omega))

/-! ### Where one is removed. -/
variable {k : Nat}
theorem chase_remove (w : WF s) (hk : Works s k) (h2 : 2 ≤ s.n) (m p : Nat) (hm : s.n ≤ m) : ∀ f h, On s m p h → chase (remove s k) m f h = chase s m f h
  | 0, _, _ => rfl
  | f + 1, h, o => by
    unfold chase
    by_cases e : h = k
    · have h1 : ¬ m ≤ s.A h := by rw [e, hk.2]; omega
      have h3 : ¬ m ≤ (remove s k).A h := by rw [e]; show ¬ m ≤ upd s.A k (s.n - 1) k; rw [upd_same]; omega
      rw [if_neg h1, if_neg h3]
    · have hA : (remove s k).A h = s.A h := upd_other _ _ _ _ e
      have hK : (remove s k).K h = s.K h := upd_other _ _ _ _ e
      rw [hA, hK]
      by_cases ha : m ≤ s.A h
      · rw [if_pos ha, if_pos ha]
        exact chase_remove w hk h2 m p hm f _ (on_step w o ha).1
      · rw [if_neg ha, if_neg ha]
theorem next_remove (w : WF s) (hk : Works s k) (h2 : 2 ≤ s.n) (g : Nat → Nat) {b : Nat} (hb : b < s.r) (ha : s.A b ≠ 0) : next (remove s k) g b = next s g b := by
  have hbk : b ≠ k := fun e => ha (by rw [e]; exact hk.2)
  have hA : (remove s k).A b = s.A b := upd_other _ _ _ _ hbk
  unfold next found
  rw [hA]
  exact chase_remove w hk h2 _ _ (w.gone b hb ha).1 _ _ (on_start w (Nat.mod_lt _ (by omega)) (Nat.le_of_lt (a_lt w hb)))
theorem told_remove (w : WF s) (hk : Works s k) (h2 : 2 ≤ s.n) (g : Nat → Nat) : ∀ (j b : Nat), b < s.r → s.A b ≤ j → told s g b ≠ k → told (remove s k) g b = told s g b
  | j, b, hb, hj, hne => by
    have w' := wf_remove w hk h2
    by_cases ha : s.A b = 0
    · rw [told_here g hb ha] at hne ⊢
      exact told_here (s := remove s k) g hb ((upd_other _ _ _ _ hne).trans ha)
    · match j, hj with
      | 0, hj => omega
      | j + 1, hj =>
        obtain ⟨h1, h3⟩ := next_ok w g hb ha
        have hbk : b ≠ k := fun e => ha (by rw [e]; exact hk.2)
        have hA : (remove s k).A b = s.A b := upd_other _ _ _ _ hbk
        rw [told_step w g hb ha] at hne ⊢
        rw [told_step w' g hb (by rw [hA]; exact ha), next_remove w hk h2 g hb ha]
        exact told_remove w hk h2 g j _ h3 (by omega) hne
/-- Who was told another one is told it still. -/
theorem bucket_remove (w : WF s) (hk : Works s k) (h2 : 2 ≤ s.n) (g : Nat → Nat) (hne : bucket s g ≠ k) : bucket (remove s k) g = bucket s g :=
  told_remove w hk h2 g (s.A (g s.r % s.r)) (g s.r % s.r) (Nat.mod_lt _ (by have := w.n1; have := w.nr; omega)) (Nat.le_refl _) hne
/-- Nobody is told who has gone. -/
theorem bucket_gone (w : WF s) (hk : Works s k) (h2 : 2 ≤ s.n) (g : Nat → Nat) : bucket (remove s k) g ≠ k := fun e => by
  have h := bucket_works (wf_remove w hk h2) g
  rw [e] at h
  have h1 : (remove s k).A k = s.n - 1 := upd_same _ _ _
  have h3 := h.2
  omega
end

/-! ### At first; how many work; who works alone. -/
/-- At first the first w of r work. -/
def start (r w : Nat) : An := ⟨r, w, fun b => if w ≤ b ∧ b < r then b else 0, id, id, id, (List.range (r - w)).map (w + ·)⟩
theorem start_all (r : Nat) : start r r = allAn r := by
  unfold start allAn
  congr 1
  · funext b; rw [if_neg (by omega)]
  · rw [Nat.sub_self]; rfl
theorem start_remove (r w : Nat) (h : w < r) : start r w = remove (start r (w + 1)) w := by
  unfold start remove
  simp only [Nat.add_sub_cancel, id]
  congr 1
  · funext b
    by_cases e : b = w
    · rw [e, upd_same, if_pos (by omega)]
    · rw [upd_other _ _ _ _ e]
      by_cases h1 : w ≤ b ∧ b < r
      · rw [if_pos h1, if_pos (by omega)]
      · rw [if_neg h1, if_neg (by omega)]
  · exact (upd_self _ _ _ rfl).symm
  · exact (upd_self _ _ _ rfl).symm
  · exact (upd_self _ _ _ rfl).symm
  · obtain ⟨d, hd⟩ : ∃ d, r - w = d + 1 := ⟨r - w - 1, by omega⟩
    rw [show r - (w + 1) = d by omega, hd, List.range_succ_eq_map, List.map_cons, List.map_map]
    congr 1
    apply List.map_congr_left
    intro a _
    show w + (a + 1) = w + 1 + a
    omega
theorem start_works (r w b : Nat) (h : w ≤ r) (h0 : 1 ≤ w) : Works (start r w) b ↔ b < w := by
  unfold Works start
  simp only
  by_cases h1 : w ≤ b ∧ b < r
  · rw [if_pos h1]; omega
  · rw [if_neg h1]; omega
theorem reach_start (r : Nat) : ∀ d w, r - w = d → 1 ≤ w → w ≤ r → Reach r (start r w)
  | 0, w, hd, h1, hr => by rw [show w = r by omega, start_all]; exact .full (by omega)
  | d + 1, w, hd, h1, hr => by
    rw [start_remove r w (by omega)]
    exact .rem _ _ (reach_start r d (w + 1) (by omega) (by omega) (by omega)) ((start_works r (w + 1) w (by omega) (by omega)).2 (by omega)) (by show 2 ≤ w + 1; omega)

/-- How many of the first r have a 0. -/
def cnt (A : Nat → Nat) : Nat → Nat
  | 0 => 0
  | r + 1 => cnt A r + if A r = 0 then 1 else 0
theorem cnt_upd (A : Nat → Nat) (k v : Nat) (hk : A k = 0) (hv : v ≠ 0) : ∀ r, cnt (upd A k v) r + (if k < r then 1 else 0) = cnt A r
  | 0 => rfl
  | r + 1 => by
    have ih := cnt_upd A k v hk hv r
    unfold cnt
    by_cases e : r = k
    · subst e
      rw [upd_same, if_neg hv, hk, if_pos rfl, if_pos (by omega)]
      rw [if_neg (by omega)] at ih
      omega
    · rw [upd_other _ _ _ _ e]
      by_cases h : k < r
      · have h' : k < r + 1 := by omega
        rw [if_pos h] at ih; rw [if_pos h']; omega
      · have h' : ¬ k < r + 1 := by omega
        rw [if_neg h] at ih; rw [if_neg h']; omega
theorem cnt_zero (r : Nat) : cnt (fun _ => 0) r = r := by
  induction r with
  | zero => rfl
  | succ r ih => unfold cnt; rw [ih, if_pos rfl]
theorem Reach.count {r : Nat} {s : An} (h : Reach r s) : cnt s.A r = s.n := by
  induction h with
  | full h => exact cnt_zero r
  | rem s b hs hb h2 ih =>
    have e := cnt_upd s.A b (s.n - 1) hb.2 (by omega) r
    rw [if_pos (by have := hs.room; have := hb.1; omega), ih] at e
    show cnt (upd s.A b (s.n - 1)) r = s.n - 1
    omega
/-- Where one alone works, no other one does. -/
theorem alone {s : An} (w : WF s) (h1 : s.n = 1) {a b : Nat} (ha : Works s a) (hb : Works s b) : a = b := by
  obtain ⟨l1, e1⟩ := w.lw a ha
  obtain ⟨l2, e2⟩ := w.lw b hb
  rw [← e1, ← e2, show s.L a = s.L b by omega]
end Go.Proofs.Ytckkdgifjgkoaaa.An
