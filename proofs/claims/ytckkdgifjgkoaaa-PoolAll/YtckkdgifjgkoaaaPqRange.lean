/- A loop that ranges over All. -/
import Derived.Test.YtckkdgifjgkoaaaPqAll
import Derived.Test.YtckkdgifjgkoaaaPqFor
namespace Go.Proofs.Ytckkdgifjgkoaaa
open Go.ChangeShapes Go.WideShapes Go.ChangeAt Go.RowKit An
theorem QAt.lk {base : Nat} {W : World} {key : ByteArray} {room : Nat} {b : QBk} {v : Value} {a : An} {L : List Mem} {own : Nat → Nat} {n : Nat} (h : QAt base W key room b v a L own n) : Lk W b L := ⟨h.cells.2.2.1, h.mem⟩
theorem Run.keep {w W W' : World} {base room B : Nat} {key : ByteArray} {b : QBk} {v : Value} {p : Pl} (h : Run w base key room W b v p) (hlt : ∀ x ∈ qfeet b v, x < B) (hw : w.heap.size ≤ B) (hb : Below B W W') : Run w base key room W' b v p :=
  ⟨h.at_.of_blocks fun x hx => hb.block x (hlt x hx), h.inv, Below.trans h.below (hb.mono hw), h.wb, h.hr, h.hk⟩
/-- The frame of a round: what was handed on. -/
def allAct (a : Act) (p1 p2 : Tmp) (L : List Mem) (k : Nat) : Act := { tmps := (a.tmps.setIfInBounds p1 (.agg #[.int .i64 ((L.getD k noMem).id : Int), .int .u32 ((L.getD k noMem).addr : Int), .int .i64 ((L.getD k noMem).port : Int)])).setIfInBounds p2 (.int .i64 ((L.getD k noMem).st : Int)), defers := [] }
theorem wp_all {Q : Exit → Act → World → Prop} {a : Act} {w : World} {g : Operand} {p1 p2 : Tmp} {assign body : Code} {b : QBk} {L : List Mem} {B : Nat}
    (hg : a.eval g = .func (.func 30) #[] #[.pointer (some ⟨B, 0, none⟩)]) (hs : Po.Rises L) (hId : ∀ m ∈ L, 1 ≤ m.id ∧ m.id ≤ 65535) (hl : L.length ≤ 1000000) (hZ : w.cell? ⟨B, 0, none⟩ = some (.pointer (some ⟨b.p, 0, none⟩))) (hL : Lk w b L)
    (S : Nat → Prop) (hSn : ∀ k, w.heap.size ≤ k → S k) (hSB : S B) (hSp : S b.p) (hSm : S b.m)
    (I : Nat → World → Prop) (Ix : Code → Nat → World → Prop) (hI : ∀ k W W', I k W → Below w.heap.size W W' → I k W') (hIx : ∀ c k W W', Ix c k W → Below w.heap.size W W' → Ix c k W')
    (h0 : I 0 w) (a₁ : Nat → Nat → Act) (A : Nat → Nat → World → Prop) (hA : ∀ k x W W', A k x W → W'.heap[x]? = W.heap[x]? → A k x W')
    (hassign : ∀ (l k : Nat) (W : World) (K : Act → World → Prop), w.heap.size ≤ W.heap.size → (∀ x W', Below W.heap.size W W' → W.heap.size ≤ x → A k x W' → K (a₁ k x) W') →
      assign.wpIn (Fence.wide.inRound l) 0 Try.prog (Exit.then K (fun _ _ _ => False)) (allAct a p1 p2 L k) W)
    (hbody : ∀ (l k x : Nat) (W : World), k < L.length → I k W → w.heap.size + 2 ≤ x → A k x W → body.wpIn (Fence.wide.inRound l) 0 Try.prog (givesPost S w.heap.size I Ix k W) (a₁ k x) W)
    (hdone : ∀ W, I L.length W → W.heap[w.heap.size]? = some (.deferred (some [])) → Q .normal { a with defers := { target := .collected w.heap.size, args := #[] } :: a.defers } W)
    (hstop : ∀ c k W, Ix c k W → W.heap[w.heap.size]? = some (.deferred (some [])) → c.wp Try.prog Q { a with defers := { target := .collected w.heap.size, args := #[] } :: a.defers } W) :
    (Code.rangeFunc g #[p1, p2] assign body).wp Try.prog Q a w := by
  refine (wpIn_wide (n := 0)).1 ?_
  refine wpIn_givesA (gf := 30) (lb := #[.pointer (some ⟨B, 0, none⟩)]) (on := fun _ => true) (enc := allE L) (N := L.length) (S := S) hg (enters_of Try.func30 (by kernel_rfl) rfl)
    (fun W1 hb1 _ => qall_gives b L hs hId hl B S W1 (fun k hk => hSn k (Nat.le_trans hb1.size hk)) hSB hSp hSm ((hb1.cell (block_lt_of_cell hZ)).trans hZ) (hL.on hb1)) hSn (fun _ => rfl)
    I Ix hI hIx h0 (fun k W _ h _ => absurd h (by simp)) a₁ A hA
    (fun l k W K h1 h2 => by simpa [allAct, allE] using hassign l k W K h1 h2) (fun l k x W hk _ hi hx ha => hbody l k x W hk hi hx ha) hdone (fun c k W _ hx hK => wpIn_wide.2 (hstop c k W hx hK))
theorem wp_all0 {Q : Exit → Act → World → Prop} {a : Act} {w : World} {g : Operand} {p1 p2 : Tmp} {body : Code} {b : QBk} {L : List Mem} {B : Nat}
    (hg : a.eval g = .func (.func 30) #[] #[.pointer (some ⟨B, 0, none⟩)]) (hs : Po.Rises L) (hId : ∀ m ∈ L, 1 ≤ m.id ∧ m.id ≤ 65535) (hl : L.length ≤ 1000000) (hZ : w.cell? ⟨B, 0, none⟩ = some (.pointer (some ⟨b.p, 0, none⟩))) (hL : Lk w b L)
    (S : Nat → Prop) (hSn : ∀ k, w.heap.size ≤ k → S k) (hSB : S B) (hSp : S b.p) (hSm : S b.m)
    (I : Nat → World → Prop) (Ix : Code → Nat → World → Prop) (hI : ∀ k W W', I k W → Below w.heap.size W W' → I k W') (hIx : ∀ c k W W', Ix c k W → Below w.heap.size W W' → Ix c k W')
    (h0 : I 0 w)
    (hbody : ∀ (l k : Nat) (W : World), k < L.length → I k W → body.wpIn (Fence.wide.inRound l) 0 Try.prog (givesPost S w.heap.size I Ix k W) (allAct a p1 p2 L k) W)
    (hdone : ∀ W, I L.length W → W.heap[w.heap.size]? = some (.deferred (some [])) → Q .normal { a with defers := { target := .collected w.heap.size, args := #[] } :: a.defers } W)
    (hstop : ∀ c k W, Ix c k W → W.heap[w.heap.size]? = some (.deferred (some [])) → c.wp Try.prog Q { a with defers := { target := .collected w.heap.size, args := #[] } :: a.defers } W) :
    (Code.rangeFunc g #[p1, p2] Code.skip body).wp Try.prog Q a w := by
  refine wp_all hg hs hId hl hZ hL S hSn hSB hSp hSm I Ix hI hIx h0 (fun k _ => allAct a p1 p2 L k) (fun _ _ _ => True) (fun _ _ _ _ _ _ => trivial) (fun l k W K _ hK => ?_) (fun l k x W hk hi _ _ => hbody l k W hk hi) hdone hstop
  gi_wp2
  exact hK W.heap.size W (Below.refl _ _) (Nat.le_refl _) trivial
/-- .. and the loop's variables: the backend in a block of its own, the state in a slot. -/
def varAct (a : Act) (p1 p2 d1 d2 : Tmp) (L : List Mem) (k x : Nat) : Act := { tmps := ((allAct a p1 p2 L k).tmps.setIfInBounds d1 (.pointer (some ⟨x, 0, none⟩))).setIfInBounds d2 (.int .i64 ((L.getD k noMem).st : Int)), defers := [] }
theorem wp_all1 {Q : Exit → Act → World → Prop} {a : Act} {w : World} {g : Operand} (d1 d2 : Tmp) {p1 p2 : Tmp} {assign body : Code} {b : QBk} {L : List Mem} {B : Nat}
    (hg : a.eval g = .func (.func 30) #[] #[.pointer (some ⟨B, 0, none⟩)]) (hs : Po.Rises L) (hId : ∀ m ∈ L, 1 ≤ m.id ∧ m.id ≤ 65535) (hl : L.length ≤ 1000000) (hZ : w.cell? ⟨B, 0, none⟩ = some (.pointer (some ⟨b.p, 0, none⟩))) (hL : Lk w b L)
    (S : Nat → Prop) (hSn : ∀ k, w.heap.size ≤ k → S k) (hSB : S B) (hSp : S b.p) (hSm : S b.m)
    (I : Nat → World → Prop) (Ix : Code → Nat → World → Prop) (hI : ∀ k W W', I k W → Below w.heap.size W W' → I k W') (hIx : ∀ c k W W', Ix c k W → Below w.heap.size W W' → Ix c k W')
    (h0 : I 0 w)
    (hassign : ∀ (l k : Nat) (W : World) (K : Act → World → Prop), K (varAct a p1 p2 d1 d2 L k W.heap.size) (W.alloc (.cells #[.int .i64 ((L.getD k noMem).id : Int), .int .u32 ((L.getD k noMem).addr : Int), .int .i64 ((L.getD k noMem).port : Int)] 33)) →
      assign.wpIn (Fence.wide.inRound l) 0 Try.prog (Exit.then K (fun _ _ _ => False)) (allAct a p1 p2 L k) W)
    (hbody : ∀ (l k x : Nat) (W : World), k < L.length → I k W → w.heap.size + 2 ≤ x → Row W x [.int .i64 ((L.getD k noMem).id : Int), .int .u32 ((L.getD k noMem).addr : Int), .int .i64 ((L.getD k noMem).port : Int)] → body.wpIn (Fence.wide.inRound l) 0 Try.prog (givesPost S w.heap.size I Ix k W) (varAct a p1 p2 d1 d2 L k x) W)
    (hdone : ∀ W, I L.length W → W.heap[w.heap.size]? = some (.deferred (some [])) → Q .normal { a with defers := { target := .collected w.heap.size, args := #[] } :: a.defers } W)
    (hstop : ∀ c k W, Ix c k W → W.heap[w.heap.size]? = some (.deferred (some [])) → c.wp Try.prog Q { a with defers := { target := .collected w.heap.size, args := #[] } :: a.defers } W) :
    (Code.rangeFunc g #[p1, p2] assign body).wp Try.prog Q a w :=
  wp_all hg hs hId hl hZ hL S hSn hSB hSp hSm I Ix hI hIx h0 (fun k x => varAct a p1 p2 d1 d2 L k x) (fun k x W => Row W x [.int .i64 ((L.getD k noMem).id : Int), .int .u32 ((L.getD k noMem).addr : Int), .int .i64 ((L.getD k noMem).port : Int)])
    (fun _ _ _ _ h e => h.of_block e) (fun l k W K _ hK => hassign l k W K (hK _ _ (alloc_on W _) (Nat.le_refl _) (row_new W _ 33))) (fun l k x W hk hi hx ha => hbody l k x W hk hi hx ha) hdone hstop
end Go.Proofs.Ytckkdgifjgkoaaa
