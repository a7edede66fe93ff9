/- Two anchors that are changed side by side, that of the package and that of the reference. -/
import Derived.Test.YtmmaglhilghofaaAnDeed
import Derived.Test.YtmmaglhilghofaaAnRTell
import Derived.Test.YtmmaglhilghofaaAnRNew
import Derived.Test.YtmmaglhilghofaaAnAny
namespace Go.Proofs.Ytmmaglhilghofaa
open Go.ChangeShapes Go.WideShapes Go.ChangeAt Go.RowKit An

theorem AnAt.weaken {hd : Bk → Value → An → List Value} {base c : Nat} {W : World} {b : Bk} {v : Value} {s : An} (h : AnAt hd base W b v s) (hc : c ≤ base) : AnAt hd c W b v s := by
  refine ⟨h.head, h.la, h.lo, h.ll, h.lk, ⟨h.st.1, ?_⟩, h.nod, fun x hx => Nat.le_trans hc (h.ge x hx), h.off⟩
  rcases h.st.2 with h | ⟨g, cap, cur, h1, h2, h3⟩
  · exact .inl h
  · exact .inr ⟨g, cap, cur, h1, Nat.le_trans hc h2, h3⟩
namespace An
theorem lastW_gap (A : Nat → Nat) : ∀ (k i : Nat), lastW A k < i → i < k → A i ≠ 0
  | 0, i, _, h => by omega
  | k + 1, i, h1, h2 => by
    unfold lastW at h1
    split at h1
    · omega
    · rename_i hk
      by_cases e : i = k
      · rw [e]; exact hk
      · exact lastW_gap A k i h1 (by omega)
end An
/-- The number that stands in block B. -/
def numIn (B : Nat) (W : World) : Nat := match W.cell? ⟨B, 0, none⟩ with | some (.int _ z) => z.toNat | _ => 0
theorem numIn_row {W : World} {B j : Nat} (h : Row W B [.int .i64 (j : Int)]) : numIn B W = j := by
  unfold numIn
  rw [h.cell 0 _ rfl]
  simp
theorem Keeps.but1 {S : Nat → Prop} {U W : World} (h : Keeps S U W) : Keeps S U W.drew := h.drew
/-- Both, what is boxed besides (fx), and what lay there. -/
structure Two (w : World) (r : Nat) (fx : List (Nat × List Value)) (W : World) (b : Bk) (v : Value) (b' : Bk) (v' : Value) (s s' : An) : Prop where
  a : AnAt hdA w.heap.size W b v s
  x : AnAt hdR w.heap.size W b' v' s'
  ra : An.Reach r s
  rx : An.Reach r s'
  dis : ∀ y ∈ feet b v, y ∉ feet b' v'
  fix : ∀ p ∈ fx, Row W p.1 p.2 ∧ p.1 ∉ feet b v ∧ p.1 ∉ feet b' v'
  below : Below w.heap.size w W
section
variable {w W W' : World} {r : Nat} {fx : List (Nat × List Value)} {b b' : Bk} {v v' v2 : Value} {s s' t : An}
theorem Two.on (h : Two w r fx W b v b' v' s s') (hb : Below W.heap.size W W') : Two w r fx W' b v b' v' s s' :=
  ⟨h.a.on hb, h.x.on hb, h.ra, h.rx, h.dis, fun p hp => ⟨(h.fix p hp).1.on' hb, (h.fix p hp).2⟩, Below.trans h.below (hb.mono h.below.size)⟩
theorem Two.drew (h : Two w r fx W b v b' v' s s') : Two w r fx W.drew b v b' v' s s' := h.on (Below.refl _ _).drew
theorem Two.drewN (h : Two w r fx W b v b' v' s s') (n : Nat) : Two w r fx (W.drewN n) b v b' v' s s' := h.on (below_drewN (Below.refl _ _) n)
theorem Two.wentA (h : Two w r fx W b v b' v' s s') (hA : AnAt hdA w.heap.size W' b v2 t) (hw : Went W W' b v v2) (hR : An.Reach r t) : Two w r fx W' b v2 b' v' t s' := by
  refine ⟨hA, h.x.but hw.but fun y hy hy' => h.dis y hy' hy, hR, h.rx, fun y hy hy' => ?_, fun p hp => ?_, hw.below h.below h.a (Nat.le_refl _)⟩
  · rcases hw.feet y hy with h' | h'
    · exact h.dis y h' hy'
    · have := (h.x.lt y hy').2; omega
  · obtain ⟨h1, h2, h3⟩ := h.fix p hp
    refine ⟨h1.but hw.but h2, fun hx => ?_, h3⟩
    rcases hw.feet p.1 hx with h' | h'
    · exact h2 h'
    · have := h1.lt; omega
theorem Two.wentR (h : Two w r fx W b v b' v' s s') (hA : AnAt hdR w.heap.size W' b' v2 t) (hw : Went W W' b' v' v2) (hR : An.Reach r t) : Two w r fx W' b v b' v2 s t := by
  refine ⟨h.a.but hw.but fun y hy hy' => h.dis y hy hy', hA, h.ra, hR, fun y hy hy' => ?_, fun p hp => ?_, hw.below h.below h.x (Nat.le_refl _)⟩
  · rcases hw.feet y hy' with h' | h'
    · exact h.dis y hy h'
    · have := (h.a.lt y hy).2; omega
  · obtain ⟨h1, h2, h3⟩ := h.fix p hp
    refine ⟨h1.but hw.but h3, h2, fun hx => ?_⟩
    rcases hw.feet p.1 hx with h' | h'
    · exact h3 h'
    · have := h1.lt; omega
/-- One more is boxed. -/
theorem Two.box (h : Two w r fx W b v b' v' s s') (l : List Value) (ty : TypeId) : Two w r ((W.heap.size, l) :: fx) (W.alloc (.cells l.toArray ty)) b v b' v' s s' := by
  have h2 := h.on (W' := W.alloc (.cells l.toArray ty)) ((Below.refl _ _).alloc (Nat.le_refl _) _)
  refine ⟨h2.a, h2.x, h2.ra, h2.rx, h2.dis, fun p hp => ?_, h2.below⟩
  rcases List.mem_cons.1 hp with rfl | hp
  · exact ⟨row_new W l ty, fun hx => by have := (h.a.lt _ hx).2; simp at this, fun hx => by have := (h.x.lt _ hx).2; simp at this⟩
  · exact h2.fix p hp
theorem Two.less (h : Two w r fx W b v b' v' s s') {gx : List (Nat × List Value)} (hg : ∀ p ∈ gx, p ∈ fx) : Two w r gx W b v b' v' s s' := ⟨h.a, h.x, h.ra, h.rx, h.dis, fun p hp => h.fix p (hg p hp), h.below⟩
theorem Two.other (h : Two w r fx W b v b' v' s s') {B : Nat} (h1 : ∀ y ∈ feet b v, y < B) (h2 : ∀ y ∈ feet b' v', y < B) (h3 : ∀ p ∈ fx, p.1 < B) (hw : w.heap.size ≤ B) (i : Nat) (u : Value) : Two w r fx (W.setCell ⟨B, i, none⟩ u) b v b' v' s s' := by
  have e : ∀ y, y < B → (W.setCell ⟨B, i, none⟩ u).heap[y]? = W.heap[y]? := fun y hy => Below.heap_setCell _ _ _ _ (by show y ≠ B; omega)
  exact ⟨h.a.of_blocks fun y hy => e y (h1 y hy), h.x.of_blocks fun y hy => e y (h2 y hy), h.ra, h.rx, h.dis, fun p hp => ⟨(h.fix p hp).1.of_block (e _ (h3 p hp)), (h.fix p hp).2⟩, h.below.setCell (p := ⟨B, i, none⟩) hw u⟩
theorem Two.lt (h : Two w r fx W b v b' v' s s') : (∀ y ∈ feet b v, y < W.heap.size) ∧ (∀ y ∈ feet b' v', y < W.heap.size) ∧ ∀ p ∈ fx, p.1 < W.heap.size := ⟨fun y hy => (h.a.lt y hy).2, fun y hy => (h.x.lt y hy).2, fun p hp => (h.fix p hp).1.lt⟩
theorem Two.keep (h : Two w r fx W b v b' v' s s') {B : Nat} (h1 : ∀ y ∈ feet b v, y < B) (h2 : ∀ y ∈ feet b' v', y < B) (h3 : ∀ p ∈ fx, p.1 < B) (hw : w.heap.size ≤ B) (hb : Below B W W') : Two w r fx W' b v b' v' s s' :=
  ⟨h.a.of_blocks fun y hy => hb.block y (h1 y hy), h.x.of_blocks fun y hy => hb.block y (h2 y hy), h.ra, h.rx, h.dis, fun p hp => ⟨(h.fix p hp).1.of_block (hb.block _ (h3 p hp)), (h.fix p hp).2⟩, Below.trans h.below (hb.mono hw)⟩
/-- Both are made, one behind the other. -/
theorem two_start {W2 W3 : World} {X Y : Nat} {lx ly : List Value} (hX : Row W X lx) (hY : Row W Y ly) (hW : Below w.heap.size w W) (hA : AnAt hdA W.heap.size W2 b v s) (hb : Below W.heap.size W W2) (hx : AnAt hdR W2.heap.size W3 b' v' s') (hb' : Below W2.heap.size W2 W3) (hr : An.Reach r s) (hr' : An.Reach r s') :
    Two w r [(X, lx), (Y, ly)] W3 b v b' v' s s' := by
  have s1 := hW.size
  have s2 := hb.size
  have hx3 := (hX.on' hb).on' hb'
  have hy3 := (hY.on' hb).on' hb'
  have lX := hX.lt
  have lY := hY.lt
  refine ⟨(hA.on hb').weaken s1, hx.weaken (Nat.le_trans s1 s2), hr, hr', fun y hy hy' => by have := (hA.lt y hy).2; have := (hx.lt y hy').1; omega, fun p hp => ?_, Below.trans (Below.trans hW (hb.mono s1)) (hb'.mono (Nat.le_trans s1 s2))⟩
  rcases List.mem_cons.1 hp with rfl | hp
  · exact ⟨hx3, fun hx' => by have := (hA.lt _ hx').1; simp only at this; omega, fun hx' => by have := (hx.lt _ hx').1; simp only at this; omega⟩
  · rcases List.mem_cons.1 hp with rfl | hp
    · exact ⟨hy3, fun hx' => by have := (hA.lt _ hx').1; simp only at this; omega, fun hx' => by have := (hx.lt _ hx').1; simp only at this; omega⟩
    · cases hp
end
end Go.Proofs.Ytmmaglhilghofaa
