/- New of the reference of chapter 12. -/
import Derived.Test.YtckkdgifjgkoaaaAnNew
namespace Go.Proofs.Ytckkdgifjgkoaaa
open Go.ChangeShapes Go.WideShapes Go.ChangeAt Go.RowKit An

set_option maxHeartbeats 400000 in
theorem rnew_bad (r n : Int) (h : r < 1 ∨ (¬ r < 1 ∧ 65536 < r) ∨ (¬ r < 1 ∧ ¬ 65536 < r ∧ n < 1) ∨ (¬ r < 1 ∧ ¬ 65536 < r ∧ ¬ n < 1 ∧ r < n)) (w : World) :
    Calls Try.prog 24 #[.int .i64 r, .int .i64 n] w fun e w' => e = .returned (.pointer none) ∧ w' = w := by
  rcases h with h | ⟨h1, h⟩ | ⟨h1, h2, h⟩ | ⟨h1, h2, h3, h⟩
  all_goals
    go_enter Try.func24, Try.ntmps24
    go_wp2_with fail
    go_ret
    exact ⟨rfl, rfl⟩

def nums (k : Nat) : List Value := (List.range k).map fun (i : Nat) => Value.int .i64 (i : Int)
theorem nums_succ (k : Nat) : nums (k + 1) = nums k ++ [.int .i64 (k : Int)] := by simp [nums, List.range_succ]
theorem nums_length (k : Nat) : (nums k).length = k := by simp [nums]
/-- While the lists W, L, K grow. -/
structure Build (base : Nat) (W : World) (p a r n k1 k2 k3 : Nat) (v1 v2 v3 : Value) : Prop where
  head : Row W p [.slice (some ⟨a, 0, none⟩) r r, v1, v2, v3, .slice none 0 0, .int .i64 (n : Int)]
  la : Lst W a r fun _ => 0
  o1 : W.ownsRow base 3 1 v1 k1 (nums k1)
  o2 : W.ownsRow base 3 1 v2 k2 (nums k2)
  o3 : W.ownsRow base 3 1 v3 k3 (nums k3)
  pa : p ≠ a
  gp : base ≤ p
  ga : base ≤ a
  p1 : v1.ownBlock ≠ some p
  p2 : v2.ownBlock ≠ some p
  p3 : v3.ownBlock ≠ some p
  a1 : v1.ownBlock ≠ some a
  a2 : v2.ownBlock ≠ some a
  a3 : v3.ownBlock ≠ some a
  e12 : ∀ x, v1.ownBlock = some x → v2.ownBlock ≠ some x
  e13 : ∀ x, v1.ownBlock = some x → v3.ownBlock ≠ some x
  e23 : ∀ x, v2.ownBlock = some x → v3.ownBlock ≠ some x
section
variable {base : Nat} {V W' : World} {p a r n k1 k2 k3 : Nat} {v1 v2 v3 : Value}
theorem Build.on (h : Build base V p a r n k1 k2 k3 v1 v2 v3) (hb : Below V.heap.size V W') : Build base W' p a r n k1 k2 k3 v1 v2 v3 :=
  ⟨h.head.on' hb, h.la.on hb, own_of_block h.o1 fun g hg => hb.block g (h.o1.lt g hg).2, own_of_block h.o2 fun g hg => hb.block g (h.o2.lt g hg).2, own_of_block h.o3 fun g hg => hb.block g (h.o3.lt g hg).2, h.pa, h.gp, h.ga, h.p1, h.p2, h.p3, h.a1, h.a2, h.a3, h.e12, h.e13, h.e23⟩
theorem Build.push1 (h : Build base V p a r n k1 k2 k3 v1 v2 v3) {v' : Value} (hg : V.grownBy W' v1.ownBlock) (ho : W'.ownsRow base 3 1 v' (k1 + 1) (nums k1 ++ [.int .i64 (k1 : Int)])) (hv : v'.ownBlock = v1.ownBlock ∨ v'.ownBlock = some V.heap.size) :
    Build base (W'.setCell ⟨p, 1, none⟩ v') p a r n (k1 + 1) k2 k3 v' v2 v3 := by
  have new : ∀ x, x < V.heap.size → v1.ownBlock ≠ some x → v'.ownBlock ≠ some x := fun x hx hn e => by
    rcases hv with hv | hv
    · exact hn (hv.symm.trans e)
    · have := Option.some.inj (hv.symm.trans e); omega
  have bp : W'.heap[p]? = V.heap[p]? := hg.block p h.head.lt fun e => h.p1 e.symm
  have ba : W'.heap[a]? = V.heap[a]? := hg.block a h.la.lt fun e => h.a1 e.symm
  have hb2 : ∀ x, v2.ownBlock = some x → W'.heap[x]? = V.heap[x]? := fun x hx => hg.block x (h.o2.lt x hx).2 fun e => h.e12 x e.symm hx
  have hb3 : ∀ x, v3.ownBlock = some x → W'.heap[x]? = V.heap[x]? := fun x hx => hg.block x (h.o3.lt x hx).2 fun e => h.e13 x e.symm hx
  have np := new p h.head.lt h.p1
  have na := new a h.la.lt h.a1
  have st : ∀ {v : Value} {m : Nat} {xs : List Value}, W'.ownsRow base 3 1 v m xs → v.ownBlock ≠ some p → (W'.setCell ⟨p, 1, none⟩ v').ownsRow base 3 1 v m xs := fun h hp => own_of_block h fun g hg => Below.heap_setCell _ _ _ _ fun e => hp (by rw [hg]; exact congrArg some e)
  have c2 : ∀ x, v'.ownBlock = some x → v2.ownBlock ≠ some x := fun x hx e => new x (h.o2.lt x e).2 (fun e2 => h.e12 x e2 e) hx
  have c3 : ∀ x, v'.ownBlock = some x → v3.ownBlock ≠ some x := fun x hx e => new x (h.o3.lt x e).2 (fun e2 => h.e13 x e2 e) hx
  refine ⟨(h.head.of_block bp).set 1 v', (h.la.of_block ba).other (fun e => h.pa e.symm) _ _, st (by rw [nums_succ]; exact ho) np, st (own_of_block h.o2 hb2) h.p2, st (own_of_block h.o3 hb3) h.p3, h.pa, h.gp, h.ga, np, h.p2, h.p3, na, h.a2, h.a3, c2, c3, h.e23⟩
theorem Build.push2 (h : Build base V p a r n k1 k2 k3 v1 v2 v3) {v' : Value} (hg : V.grownBy W' v2.ownBlock) (ho : W'.ownsRow base 3 1 v' (k2 + 1) (nums k2 ++ [.int .i64 (k2 : Int)])) (hv : v'.ownBlock = v2.ownBlock ∨ v'.ownBlock = some V.heap.size) :
    Build base (W'.setCell ⟨p, 2, none⟩ v') p a r n k1 (k2 + 1) k3 v1 v' v3 := by
  have new : ∀ x, x < V.heap.size → v2.ownBlock ≠ some x → v'.ownBlock ≠ some x := fun x hx hn e => by
    rcases hv with hv | hv
    · exact hn (hv.symm.trans e)
    · have := Option.some.inj (hv.symm.trans e); omega
  have bp : W'.heap[p]? = V.heap[p]? := hg.block p h.head.lt fun e => h.p2 e.symm
  have ba : W'.heap[a]? = V.heap[a]? := hg.block a h.la.lt fun e => h.a2 e.symm
  have hb1 : ∀ x, v1.ownBlock = some x → W'.heap[x]? = V.heap[x]? := fun x hx => hg.block x (h.o1.lt x hx).2 fun e => h.e12 x hx e.symm
  have hb3 : ∀ x, v3.ownBlock = some x → W'.heap[x]? = V.heap[x]? := fun x hx => hg.block x (h.o3.lt x hx).2 fun e => h.e23 x e.symm hx
  have np := new p h.head.lt h.p2
  have na := new a h.la.lt h.a2
  have st : ∀ {v : Value} {m : Nat} {xs : List Value}, W'.ownsRow base 3 1 v m xs → v.ownBlock ≠ some p → (W'.setCell ⟨p, 2, none⟩ v').ownsRow base 3 1 v m xs := fun h hp => own_of_block h fun g hg => Below.heap_setCell _ _ _ _ fun e => hp (by rw [hg]; exact congrArg some e)
  have c1 : ∀ x, v'.ownBlock = some x → v1.ownBlock ≠ some x := fun x hx e => new x (h.o1.lt x e).2 (fun e2 => h.e12 x e e2) hx
  have c3 : ∀ x, v'.ownBlock = some x → v3.ownBlock ≠ some x := fun x hx e => new x (h.o3.lt x e).2 (fun e2 => h.e23 x e2 e) hx
  refine ⟨(h.head.of_block bp).set 2 v', (h.la.of_block ba).other (fun e => h.pa e.symm) _ _, st (own_of_block h.o1 hb1) h.p1, st (by rw [nums_succ]; exact ho) np, st (own_of_block h.o3 hb3) h.p3, h.pa, h.gp, h.ga, h.p1, np, h.p3, h.a1, na, h.a3, fun x hx hy => c1 x hy hx, h.e13, c3⟩
theorem Build.push3 (h : Build base V p a r n k1 k2 k3 v1 v2 v3) {v' : Value} (hg : V.grownBy W' v3.ownBlock) (ho : W'.ownsRow base 3 1 v' (k3 + 1) (nums k3 ++ [.int .i64 (k3 : Int)])) (hv : v'.ownBlock = v3.ownBlock ∨ v'.ownBlock = some V.heap.size) :
    Build base (W'.setCell ⟨p, 3, none⟩ v') p a r n k1 k2 (k3 + 1) v1 v2 v' := by
  have new : ∀ x, x < V.heap.size → v3.ownBlock ≠ some x → v'.ownBlock ≠ some x := fun x hx hn e => by
    rcases hv with hv | hv
    · exact hn (hv.symm.trans e)
    · have := Option.some.inj (hv.symm.trans e); omega
  have bp : W'.heap[p]? = V.heap[p]? := hg.block p h.head.lt fun e => h.p3 e.symm
  have ba : W'.heap[a]? = V.heap[a]? := hg.block a h.la.lt fun e => h.a3 e.symm
  have hb1 : ∀ x, v1.ownBlock = some x → W'.heap[x]? = V.heap[x]? := fun x hx => hg.block x (h.o1.lt x hx).2 fun e => h.e13 x hx e.symm
  have hb2 : ∀ x, v2.ownBlock = some x → W'.heap[x]? = V.heap[x]? := fun x hx => hg.block x (h.o2.lt x hx).2 fun e => h.e23 x hx e.symm
  have np := new p h.head.lt h.p3
  have na := new a h.la.lt h.a3
  have st : ∀ {v : Value} {m : Nat} {xs : List Value}, W'.ownsRow base 3 1 v m xs → v.ownBlock ≠ some p → (W'.setCell ⟨p, 3, none⟩ v').ownsRow base 3 1 v m xs := fun h hp => own_of_block h fun g hg => Below.heap_setCell _ _ _ _ fun e => hp (by rw [hg]; exact congrArg some e)
  have c1 : ∀ x, v'.ownBlock = some x → v1.ownBlock ≠ some x := fun x hx e => new x (h.o1.lt x e).2 (fun e2 => h.e13 x e e2) hx
  have c2 : ∀ x, v'.ownBlock = some x → v2.ownBlock ≠ some x := fun x hx e => new x (h.o2.lt x e).2 (fun e2 => h.e23 x e e2) hx
  refine ⟨(h.head.of_block bp).set 3 v', (h.la.of_block ba).other (fun e => h.pa e.symm) _ _, st (own_of_block h.o1 hb1) h.p1, st (own_of_block h.o2 hb2) h.p2, st (by rw [nums_succ]; exact ho) np, h.pa, h.gp, h.ga, h.p1, h.p2, np, h.a1, h.a2, na, h.e12, fun x hx hy => c1 x hy hx, fun x hx hy => c2 x hy hx⟩
theorem Build.step1 (h : Build base V p a r n k1 k2 k3 v1 v2 v3) {w0 : World} (hb : Below base w0 V) {v' : Value} (hg : (V.alloc (.cells #[.int .i64 (k1 : Int)] 3)).grownBy W' v1.ownBlock) (ho : W'.ownsRow base 3 1 v' (k1 + 1) (nums k1 ++ [.int .i64 (k1 : Int)])) (hv : v'.ownBlock = v1.ownBlock ∨ v'.ownBlock = some (V.heap.size + 1)) :
    Build base (W'.setCell ⟨p, 1, none⟩ v') p a r n (k1 + 1) k2 k3 v' v2 v3 ∧ Below base w0 (W'.setCell ⟨p, 1, none⟩ v') ∧ Row W' p [.slice (some ⟨a, 0, none⟩) r r, v1, v2, v3, .slice none 0 0, .int .i64 (n : Int)] := by
  have hB : Below V.heap.size V (V.alloc (.cells #[.int .i64 (k1 : Int)] 3)) := (Below.refl _ _).alloc (Nat.le_refl _) _
  have h1 := h.on hB
  have hp := h.head.lt
  have hs : base ≤ V.heap.size := by have := h.gp; omega
  refine ⟨h1.push1 hg ho (by rw [World.size_alloc]; exact hv), ?_, h1.head.of_block (hg.block p h1.head.lt fun e => h.p1 e.symm)⟩
  exact ((hb.alloc hs _).grown hg (by rw [World.size_alloc]; omega) (fun j e => (h.o1.lt j e).1)).setCell (p := ⟨p, 1, none⟩) h.gp v'
theorem Build.step2 (h : Build base V p a r n k1 k2 k3 v1 v2 v3) {w0 : World} (hb : Below base w0 V) {v' : Value} (hg : (V.alloc (.cells #[.int .i64 (k2 : Int)] 3)).grownBy W' v2.ownBlock) (ho : W'.ownsRow base 3 1 v' (k2 + 1) (nums k2 ++ [.int .i64 (k2 : Int)])) (hv : v'.ownBlock = v2.ownBlock ∨ v'.ownBlock = some (V.heap.size + 1)) :
    Build base (W'.setCell ⟨p, 2, none⟩ v') p a r n k1 (k2 + 1) k3 v1 v' v3 ∧ Below base w0 (W'.setCell ⟨p, 2, none⟩ v') ∧ Row W' p [.slice (some ⟨a, 0, none⟩) r r, v1, v2, v3, .slice none 0 0, .int .i64 (n : Int)] := by
  have hB : Below V.heap.size V (V.alloc (.cells #[.int .i64 (k2 : Int)] 3)) := (Below.refl _ _).alloc (Nat.le_refl _) _
  have h1 := h.on hB
  have hp := h.head.lt
  have hs : base ≤ V.heap.size := by have := h.gp; omega
  refine ⟨h1.push2 hg ho (by rw [World.size_alloc]; exact hv), ?_, h1.head.of_block (hg.block p h1.head.lt fun e => h.p2 e.symm)⟩
  exact ((hb.alloc hs _).grown hg (by rw [World.size_alloc]; omega) (fun j e => (h.o2.lt j e).1)).setCell (p := ⟨p, 2, none⟩) h.gp v'
theorem Build.step3 (h : Build base V p a r n k1 k2 k3 v1 v2 v3) {w0 : World} (hb : Below base w0 V) {v' : Value} (hg : (V.alloc (.cells #[.int .i64 (k3 : Int)] 3)).grownBy W' v3.ownBlock) (ho : W'.ownsRow base 3 1 v' (k3 + 1) (nums k3 ++ [.int .i64 (k3 : Int)])) (hv : v'.ownBlock = v3.ownBlock ∨ v'.ownBlock = some (V.heap.size + 1)) :
    Build base (W'.setCell ⟨p, 3, none⟩ v') p a r n k1 k2 (k3 + 1) v1 v2 v' ∧ Below base w0 (W'.setCell ⟨p, 3, none⟩ v') ∧ Row W' p [.slice (some ⟨a, 0, none⟩) r r, v1, v2, v3, .slice none 0 0, .int .i64 (n : Int)] := by
  have hB : Below V.heap.size V (V.alloc (.cells #[.int .i64 (k3 : Int)] 3)) := (Below.refl _ _).alloc (Nat.le_refl _) _
  have h1 := h.on hB
  have hp := h.head.lt
  have hs : base ≤ V.heap.size := by have := h.gp; omega
  refine ⟨h1.push3 hg ho (by rw [World.size_alloc]; exact hv), ?_, h1.head.of_block (hg.block p h1.head.lt fun e => h.p3 e.symm)⟩
  exact ((hb.alloc hs _).grown hg (by rw [World.size_alloc]; omega) (fun j e => (h.o3.lt j e).1)).setCell (p := ⟨p, 3, none⟩) h.gp v'
theorem lst_own {W : World} {v : Value} {k : Nat} (h : W.ownsRow base 3 1 v (k + 1) (nums (k + 1))) : ∃ g c, v = .slice (some ⟨g, 0, none⟩) (k + 1) c ∧ Lst W g (k + 1) id ∧ base ≤ g := by
  rcases h.2 with ⟨_, h⟩ | ⟨g, cap, cur, h1, h2, h3, h4, h5, h6, h7⟩
  · omega
  · refine ⟨g, cap, h1, ⟨cur, _, h3, fun i hi => ?_⟩, h2⟩
    have e := congrArg (fun l => l[i]?) h7
    simp only [List.getElem?_take, Nat.mul_one, if_pos hi] at e
    rw [← Array.getElem?_toList, e, nums, List.getElem?_map, List.getElem?_range hi]
    rfl
theorem Build.done (h : Build base V p a (r + 1) n (r + 1) (r + 1) (r + 1) v1 v2 v3) : ∃ bk : Bk, bk.p = p ∧ AnAt hdR base V bk (.slice none 0 0) ⟨r + 1, n, fun _ => 0, id, id, id, []⟩ := by
  obtain ⟨g1, c1, rfl, l1, b1⟩ := lst_own h.o1
  obtain ⟨g2, c2, rfl, l2, b2⟩ := lst_own h.o2
  obtain ⟨g3, c3, rfl, l3, b3⟩ := lst_own h.o3
  refine ⟨⟨p, a, g1, g2, g3, r + 1, c1, c2, c3⟩, rfl, h.head, h.la, l1, l2, l3, World.ownsRow_nil _ _ _ _, ?_, ?_, fun x _ h => by cases h⟩
  · have q1 : ¬ p = g1 := fun e => h.p1 (congrArg some e.symm)
    have q2 : ¬ p = g2 := fun e => h.p2 (congrArg some e.symm)
    have q3 : ¬ p = g3 := fun e => h.p3 (congrArg some e.symm)
    have q4 : ¬ a = g1 := fun e => h.a1 (congrArg some e.symm)
    have q5 : ¬ a = g2 := fun e => h.a2 (congrArg some e.symm)
    have q6 : ¬ a = g3 := fun e => h.a3 (congrArg some e.symm)
    have q7 : ¬ g1 = g2 := fun e => h.e12 g1 rfl (congrArg some e.symm)
    have q8 : ¬ g1 = g3 := fun e => h.e13 g1 rfl (congrArg some e.symm)
    have q9 : ¬ g2 = g3 := fun e => h.e23 g2 rfl (congrArg some e.symm)
    have := h.pa
    simp only [Bk.five, List.nodup_cons, List.mem_cons, List.not_mem_nil, or_false, not_or, List.nodup_nil, not_false_eq_true, and_true]
    omega
  · intro x hx
    have := h.gp
    have := h.ga
    simp only [Bk.five, List.mem_cons, List.not_mem_nil, or_false] at hx
    omega
theorem Build.done' (h : Build base V p a r n r r r v1 v2 v3) (h1 : 1 ≤ r) : ∃ bk : Bk, bk.p = p ∧ AnAt hdR base V bk (.slice none 0 0) ⟨r, n, fun _ => 0, id, id, id, []⟩ := by
  obtain ⟨q, rfl⟩ : ∃ q, r = q + 1 := ⟨r - 1, by omega⟩
  exact h.done
end
end Go.Proofs.Ytckkdgifjgkoaaa
