/- A range over a function, where the function that is ranged over may itself range over another one and hand on out of that loop's body: what each side promises the other, and the rule for the loop. Whoever hands on keeps all blocks that lay when it was called; a round keeps all blocks that were laid since then, and, where it goes on, those from some block B0 on, too (what the one that hands on has captured lies there). Nothing of the program is in here. -/
import Derived.RangeFuncNested
import Derived.RangeFuncBound
import Derived.RangeFuncCalls
import Derived.RangeFuncLeaves
import Derived.Shelf.Abstract
import Derived.WalkKit
import Derived.OwnWalkIn
import Derived.TacticsInMore
import Derived.LoopNIn
import Derived.LoopIn
namespace Go.Proofs.Ytckkdgifjgkoaaa
open Go.RowKit

/-- From block number B on the world W' is as W was. -/
structure Above (B : Nat) (W W' : World) : Prop where
  size : W.heap.size ≤ W'.heap.size
  block : ∀ k, B ≤ k → k < W.heap.size → W'.heap[k]? = W.heap[k]?

theorem Above.refl (B : Nat) (W : World) : Above B W W := ⟨Nat.le_refl _, fun _ _ _ => rfl⟩
theorem Above.trans {B : Nat} {U V W : World} (h : Above B U V) (k : Above B V W) : Above B U W :=
  ⟨Nat.le_trans h.size k.size, fun i h1 h2 => (k.block i h1 (Nat.lt_of_lt_of_le h2 h.size)).trans (h.block i h1 h2)⟩
theorem Above.mono {B C : Nat} {W W' : World} (h : Above B W W') (hB : B ≤ C) : Above C W W' := ⟨h.size, fun k h1 h2 => h.block k (Nat.le_trans hB h1) h2⟩
theorem Above.drew {B : Nat} {U W : World} (h : Above B U W) : Above B U W.drew := ⟨h.size, h.block⟩
theorem Above.setCell {B : Nat} {U W : World} (h : Above B U W) {p : Addr} (hp : p.block < B) (u : Value) : Above B U (W.setCell p u) :=
  h.trans ⟨by simp [World.setCell], fun k h1 _ => Below.heap_setCell _ _ _ _ (by omega)⟩
theorem Above.putObj {B : Nat} {U W : World} (h : Above B U W) {l : Nat} (hl : l < B) (o : Obj) : Above B U (W.putObj l o) :=
  h.trans ⟨by simp, fun k h1 _ => World.putObj_heap_other (by omega)⟩
theorem Above.cell {B : Nat} {W W' : World} (h : Above B W W') {p : Addr} {v : Value} (hp : B ≤ p.block) (hc : W.cell? p = some v) : W'.cell? p = some v := by
  rw [World.cell?_of_block (w := W) (h.block p.block hp (block_lt_of_cell hc))]; exact hc
/-- The blocks of S are as they were. -/
structure Keeps (S : Nat → Prop) (W W' : World) : Prop where
  size : W.heap.size ≤ W'.heap.size
  block : ∀ k, S k → k < W.heap.size → W'.heap[k]? = W.heap[k]?
theorem Keeps.refl (S : Nat → Prop) (W : World) : Keeps S W W := ⟨Nat.le_refl _, fun _ _ _ => rfl⟩
theorem Keeps.trans {S : Nat → Prop} {U V W : World} (h : Keeps S U V) (k : Keeps S V W) : Keeps S U W :=
  ⟨Nat.le_trans h.size k.size, fun i h1 h2 => (k.block i h1 (Nat.lt_of_lt_of_le h2 h.size)).trans (h.block i h1 h2)⟩
theorem Keeps.above {S : Nat → Prop} {B : Nat} {U V : World} (h : Keeps S U V) (hS : ∀ k, B ≤ k → S k) : Above B U V := ⟨h.size, fun k hk hl => h.block k (hS k hk) hl⟩
theorem Keeps.mono {S T : Nat → Prop} {U V : World} (h : Keeps S U V) (hS : ∀ k, T k → S k) : Keeps T U V := ⟨h.size, fun k hk hl => h.block k (hS k hk) hl⟩
theorem Keeps.drew {S : Nat → Prop} {U W : World} (h : Keeps S U W) : Keeps S U W.drew := ⟨h.size, h.block⟩
theorem Keeps.setCell {S : Nat → Prop} {U W : World} (h : Keeps S U W) {p : Addr} (hp : ¬ S p.block) (u : Value) : Keeps S U (W.setCell p u) :=
  h.trans ⟨by simp [World.setCell], fun k h1 _ => Below.heap_setCell _ _ _ _ (fun e => hp (e ▸ h1))⟩
theorem below_put {B l : Nat} {U W : World} (h : Below B U W) (hl : B ≤ l) (o : Obj) : Below B U (W.putObj l o) :=
  h.trans ⟨rfl, rfl, rfl, by simp, fun k hk => World.putObj_heap_other (by omega)⟩

/-- The function value (g, lb), called in W0, hands on enc 0, enc 1, .. to enc (N - 1), those that on has, and stops where it is told to. -/
def Gives (P : Program) (g : Nat) (lb : Array Value) (on : Nat → Bool) (enc : Nat → Array Value) (N : Nat) (S : Nat → Prop) (W0 : World) : Prop :=
  ∀ (l : Nat) (J Jx : Nat → World → Prop), l < W0.heap.size →
    (∀ k W W', J k W → Below W0.heap.size W W' → J k W') → (∀ k W W', Jx k W → Below W0.heap.size W W' → Jx k W') →
    (∀ k W, k < N → on k = false → J k W → J (k + 1) W) →
    (∀ k W, k < N → on k = true → J k W → YieldAt Fence.wide 0 P l (enc k) W fun e W' =>
      (e = .returned (.bool true) ∧ J (k + 1) W' ∧ Keeps S W W') ∨ (e = .returned (.bool false) ∧ Jx (k + 1) W' ∧ Above W0.heap.size W W')) →
    J 0 W0 →
    CallsIn Fence.wide 0 P g (#[.func (.yield l) #[] #[]] ++ lb) W0 fun e W' => (∃ v, e = .returned v) ∧ (J N W' ∨ ∃ k, k ≤ N ∧ Jx k W')

/-- How a round's body is left. -/
def givesPost (S : Nat → Prop) (B : Nat) (I : Nat → World → Prop) (Ix : Code → Nat → World → Prop) (k : Nat) (W : World) : Exit → Act → World → Prop
  | .normal, _, W' => Keeps S W W' ∧ I (k + 1) W'
  | .ret, _, W' => Above B W W' ∧ Ix .ret (k + 1) W'
  | .exit id, _, W' => Above B W W' ∧ Ix (.exit id) (k + 1) W'
  | .goto t, _, W' => Above B W W' ∧ Ix (.goto t) (k + 1) W'
  | .panic _, _, _ => False
  | .outgrown, _, _ => False

theorem wpIn_gives {P : Program} {g : Operand} {ps : Array Tmp} {assign body : Code} {Q : Exit → Act → World → Prop} {a : Act} {w : World} {gf : Nat} {lb : Array Value} {on : Nat → Bool} {enc : Nat → Array Value} {N : Nat} {S : Nat → Prop}
    (hg : a.eval g = .func (.func gf) #[] lb) (eg : ∀ args u, (callFunc gf args).run P u = .ok (.enter gf args) u)
    (hseq : ∀ W1, Below w.heap.size w W1 → W1.heap.size = w.heap.size + 2 → Gives P gf lb on enc N S W1) (hB0 : ∀ k, w.heap.size ≤ k → S k) (hps : ∀ k, (enc k).size = ps.size)
    (I : Nat → World → Prop) (Ix : Code → Nat → World → Prop) (hI : ∀ k W W', I k W → Below w.heap.size W W' → I k W') (hIx : ∀ c k W W', Ix c k W → Below w.heap.size W W' → Ix c k W')
    (h0 : I 0 w) (hskip : ∀ k W, k < N → on k = false → I k W → I (k + 1) W) (a₁ : Nat → Act)
    (hassign : ∀ (l k : Nat) (W : World) (K : Act → World → Prop), K (a₁ k) W →
      assign.wpIn (Fence.wide.inRound l) 0 P (Exit.then K (fun _ _ _ => False)) { tmps := (ps.zip (enc k)).foldl (fun t (p, v) => t.setIfInBounds p v) a.tmps, defers := [] } W)
    (hbody : ∀ (l k : Nat) (W : World), k < N → on k = true → I k W → body.wpIn (Fence.wide.inRound l) 0 P (givesPost S w.heap.size I Ix k W) (a₁ k) W)
    (hdone : ∀ W, I N W → W.heap[w.heap.size]? = some (.deferred (some [])) → Q .normal { a with defers := { target := .collected w.heap.size, args := #[] } :: a.defers } W)
    (hstop : ∀ c k W, k ≤ N → Ix c k W → W.heap[w.heap.size]? = some (.deferred (some [])) → c.wpIn Fence.wide 0 P Q { a with defers := { target := .collected w.heap.size, args := #[] } :: a.defers } W) :
    (Code.rangeFunc g ps assign body).wpIn Fence.wide 0 P Q a w := by
  refine wpIn_rangeFunc fun fn hfn => ?_
  obtain ⟨r, hr⟩ : ∃ r : LoopState → Option Code → Loop, r = fun st pe => { state := st, pending := pe, fn, tmps := a.tmps, params := ps, assign, body, defers := w.heap.size } := ⟨_, rfl⟩
  obtain ⟨W1, hW1⟩ : ∃ W1, (w.alloc (.deferred (some []))).alloc (.loop (r .ready none)) = W1 := ⟨_, rfl⟩
  have hB1 : Below w.heap.size w W1 := by rw [← hW1]; exact ((Below.refl _ _).alloc (Nat.le_refl _) _).alloc (by simp) _
  have hS1 : W1.heap.size = w.heap.size + 2 := by rw [← hW1]; simp
  have hL1 : W1.heap[w.heap.size + 1]? = some (.loop (r .ready none)) := by
    have e := World.alloc_heap_new (w.alloc (.deferred (some []))) (.loop (r .ready none))
    rw [World.size_alloc] at e
    rw [← hW1]; exact e
  have hD1 : W1.heap[w.heap.size]? = some (.deferred (some [])) := by
    rw [← hW1, Below.heap_alloc _ _ _ (by simp)]; exact World.alloc_heap_new _ _
  have below_at : ∀ {W W' : World} {i : Nat} {o : Obj}, Below W1.heap.size W W' → i < w.heap.size + 2 → W.heap[i]? = some o → W'.heap[i]? = some o := fun hb hi ho => (hb.block _ (by omega)).trans ho
  refine ⟨w.heap.size + 1, [{ target := .collected w.heap.size, args := #[] }], W1, { target := .fn (.func gf) lb, args := #[.func (.yield (w.heap.size + 1)) #[] #[]] }, W1, gf,
    #[.func (.yield (w.heap.size + 1)) #[] #[]] ++ lb, W1, ?_, ?_, fun _ _ => trivial, ?_, fun h => (by cases h), ?_⟩
  · rw [← hW1, hr]; exact run_enterLoop_outer _ _ _ _ _
  · simp only [resolve, hg]
    simp [go_sem]
  · simp [invoke, go_sem, eg]
  refine (hseq W1 hB1 hS1 (w.heap.size + 1)
    (fun k W => I k W ∧ W.heap[w.heap.size + 1]? = some (.loop (r .ready none)) ∧ W.heap[w.heap.size]? = some (.deferred (some [])))
    (fun k W => ∃ c, Ix c k W ∧ W.heap[w.heap.size + 1]? = some (.loop (r .done (some c))) ∧ W.heap[w.heap.size]? = some (.deferred (some [])))
    (by omega)
    (fun k W W' h hb => ⟨hI k W W' h.1 (hb.mono (by omega)), below_at hb (by omega) h.2.1, below_at hb (by omega) h.2.2⟩)
    (fun k W W' h hb => by
      obtain ⟨c, h1, h2, h3⟩ := h
      exact ⟨c, hIx c k W W' h1 (hb.mono (by omega)), below_at hb (by omega) h2, below_at hb (by omega) h3⟩)
    (fun k W hk ho h => ⟨hskip k W hk ho h.1, h.2.1, h.2.2⟩) ?round ⟨hI 0 w W1 h0 hB1, hL1, hD1⟩).mono ?behind
  case round =>
    rintro k W hk hon ⟨hi, hl, hd⟩
    have hlt : w.heap.size + 1 < W.heap.size := (Array.getElem?_eq_some_iff.1 hl).1
    have hy := run_yield (P := P) (args := enc k) hl (by rw [hr]; exact hps k)
    rw [hr] at hy
    refine ⟨fn, _, assign, body, hy, roundIn_of_wpIn hfn (hassign _ k W _ ⟨_, run_beginRound hl (by rw [hr]), ?_⟩)⟩
    clear hy
    obtain ⟨V, hV⟩ : ∃ V, W.putObj (w.heap.size + 1) (.loop { r .ready none with state := .busy }) = V := ⟨_, rfl⟩
    have hlV : V.heap[w.heap.size + 1]? = some (.loop { r .ready none with state := .busy }) := by rw [← hV]; exact World.putObj_heap_same hlt
    have hdV : V.heap[w.heap.size]? = some (.deferred (some [])) := by rw [← hV]; exact (World.putObj_heap_other (by omega)).trans hd
    have hAV : Above W1.heap.size W V := by rw [← hV]; exact (Above.refl _ _).putObj (by omega) _
    have hiV : I k V := by rw [← hV]; exact hI k _ _ hi (below_put (Below.refl _ _) (by omega) _)
    rw [hV]
    have fin : ∀ (jump : Option Code) (U : World), Above w.heap.size V U → ∃ U', (Instr.endRound (w.heap.size + 1) jump).run P U = .ok (.bool jump.isNone) U' ∧ Below w.heap.size U U' ∧ Above W1.heap.size W U' ∧
        U'.heap[w.heap.size + 1]? = some (.loop (r (if jump.isNone then .ready else .done) jump)) ∧ U'.heap[w.heap.size]? = some (.deferred (some [])) ∧ ∀ i, i ≠ w.heap.size + 1 → U'.heap[i]? = U.heap[i]? := by
      intro jump U hU
      have hs : W.heap.size ≤ V.heap.size := hAV.size
      have hlU : U.heap[w.heap.size + 1]? = some (.loop { r .ready none with state := .busy }) := (hU.block _ (by omega) (by omega)).trans hlV
      have hdU : U.heap[w.heap.size]? = some (.deferred (some [])) := (hU.block _ (by omega) (by omega)).trans hdV
      refine ⟨_, run_endRound (P := P) jump hlU, below_put (Below.refl _ _) (by omega) _, (hAV.trans (hU.mono (by omega))).putObj (by omega) _, ?_, (World.putObj_heap_other (by omega)).trans hdU, fun i h => World.putObj_heap_other h⟩
      rw [World.putObj_heap_same (Array.getElem?_eq_some_iff.1 hlU).1, hr]
    refine wpIn_mono (hbody _ k V hk hon hiV) ?_
    rintro e a3 U hp
    have stop : ∀ c, Above w.heap.size V U → Ix c (k + 1) U → ∃ v U', (Instr.endRound (w.heap.size + 1) (some c)).run P U = .ok v U' ∧
        ((Ending.returned v = .returned (.bool true) ∧ (I (k + 1) U' ∧ U'.heap[w.heap.size + 1]? = some (.loop (r .ready none)) ∧ U'.heap[w.heap.size]? = some (.deferred (some []))) ∧ Keeps S W U') ∨
        (Ending.returned v = .returned (.bool false) ∧ (∃ c, Ix c (k + 1) U' ∧ U'.heap[w.heap.size + 1]? = some (.loop (r .done (some c))) ∧ U'.heap[w.heap.size]? = some (.deferred (some []))) ∧ Above W1.heap.size W U')) := by
      intro c hA hx
      obtain ⟨U', h1, h2, h3, h4, h5, _⟩ := fin (some c) U hA
      exact ⟨_, _, h1, .inr ⟨rfl, ⟨c, hIx c _ _ _ hx h2, h4, h5⟩, h3⟩⟩
    cases e with
    | normal =>
      obtain ⟨U', h1, h2, h3, h4, h5, h6⟩ := fin none U (hp.1.above hB0)
      refine ⟨_, _, h1, .inl ⟨rfl, ⟨hI _ _ _ hp.2 h2, h4, h5⟩, h3.size, fun i i1 i2 => ?_⟩⟩
      by_cases hi' : i = w.heap.size + 1
      · rw [hi', h4, hl]; rfl
      · rw [h6 i hi', hp.1.block i i1 (Nat.lt_of_lt_of_le i2 hAV.size), ← hV]; exact World.putObj_heap_other hi'
    | ret => exact stop _ hp.1 hp.2
    | exit id => exact stop _ hp.1 hp.2
    | goto t => exact stop _ hp.1 hp.2
    | panic ch => exact hp.elim
    | outgrown => exact hp.elim
  case behind =>
    rintro e U ⟨⟨v, rfl⟩, (⟨hi, hl, hd⟩ | ⟨k, hk, c, hx, hl, hd⟩)⟩
    · refine ⟨none, _, (by have e := run_endLoop (P := P) hl (by rw [hr]; simp); rw [hr] at e; exact e), hdone _ (hI _ _ _ hi (below_put (Below.refl _ _) (by omega) _)) ((World.putObj_heap_other (by omega)).trans hd)⟩
    · refine ⟨some c, _, (by have e := run_endLoop (P := P) hl (by rw [hr]; simp); rw [hr] at e; exact e), hstop c k _ hk (hIx _ _ _ _ hx (below_put (Below.refl _ _) (by omega) _)) ((World.putObj_heap_other (by omega)).trans hd)⟩
end Go.Proofs.Ytckkdgifjgkoaaa
