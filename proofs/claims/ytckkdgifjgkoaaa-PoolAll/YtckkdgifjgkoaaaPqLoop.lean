/- A loop that ranges over Working. -/
import Derived.Test.YtckkdgifjgkoaaaAnWork
namespace Go.Proofs.Ytckkdgifjgkoaaa
open Go.ChangeShapes Go.WideShapes Go.ChangeAt Go.RowKit An

/-- The frame of a round: what was handed on, and the loop's variable. -/
def roundAct (a : Act) (p d : Tmp) (x : Value) : Act := { tmps := (a.tmps.setIfInBounds p x).setIfInBounds d x, defers := [] }
theorem wp_working {Q : Exit → Act → World → Prop} {a : Act} {w : World} {g : Operand} {p d : Tmp} {assign body : Code} {b : Bk} {s : An} {B : Nat}
    (hg : a.eval g = .func (.func 69) #[] #[.pointer (some ⟨B, 0, none⟩)]) (hr : s.r ≤ 65536) (hZ : w.cell? ⟨B, 0, none⟩ = some (.pointer (some ⟨b.p, 0, none⟩))) (hrd : Reads w b.p b.a s.r b.ca s.A)
    (S : Nat → Prop) (hSn : ∀ k, w.heap.size ≤ k → S k) (hSa : S b.a)
    (I : Nat → World → Prop) (Ix : Code → Nat → World → Prop) (hI : ∀ k W W', I k W → Below w.heap.size W W' → I k W') (hIx : ∀ c k W W', Ix c k W → Below w.heap.size W W' → Ix c k W')
    (h0 : I 0 w) (hskip : ∀ k W, k < s.r → s.A k ≠ 0 → I k W → I (k + 1) W)
    (hassign : ∀ (l k : Nat) (W : World) (K : Act → World → Prop), K (roundAct a p d (.int .i64 (k : Int))) W →
      assign.wpIn (Fence.wide.inRound l) 0 Try.prog (Exit.then K (fun _ _ _ => False)) { tmps := a.tmps.setIfInBounds p (.int .i64 (k : Int)), defers := [] } W)
    (hbody : ∀ (l k : Nat) (W : World), k < s.r → s.A k = 0 → I k W → body.wpIn (Fence.wide.inRound l) 0 Try.prog (givesPost S w.heap.size I Ix k W) (roundAct a p d (.int .i64 (k : Int))) W)
    (hdone : ∀ W, I s.r W → W.heap[w.heap.size]? = some (.deferred (some [])) → Q .normal { a with defers := { target := .collected w.heap.size, args := #[] } :: a.defers } W)
    (hstop : ∀ c k W, Ix c k W → W.heap[w.heap.size]? = some (.deferred (some [])) → c.wp Try.prog Q { a with defers := { target := .collected w.heap.size, args := #[] } :: a.defers } W) :
    (Code.rangeFunc g #[p] assign body).wp Try.prog Q a w := by
  refine (wpIn_wide (n := 0)).1 ?_
  refine wpIn_gives (gf := 69) (lb := #[.pointer (some ⟨B, 0, none⟩)]) (on := fun k => decide (s.A k = 0)) (enc := fun k => #[.int .i64 (k : Int)]) (N := s.r) (S := S) hg (enters_of Try.func69 (by kernel_rfl) rfl)
    (fun W1 hb1 _ => working1_gives b.p b.a s.r b.ca s.A hr B S W1 (fun k hk => hSn k (Nat.le_trans hb1.size hk)) hSa ((hb1.cell (block_lt_of_cell hZ)).trans hZ) (hrd.on hb1)) hSn (fun _ => rfl)
    I Ix hI hIx h0 (fun k W hk ho h => hskip k W hk (of_decide_eq_false ho) h) (fun k => roundAct a p d (.int .i64 (k : Int)))
    (fun l k W K hK => by simpa using hassign l k W K hK) (fun l k W hk ho hi => hbody l k W hk (of_decide_eq_true ho) hi) hdone (fun c k W _ hx hK => wpIn_wide.2 (hstop c k W hx hK))
end Go.Proofs.Ytckkdgifjgkoaaa
