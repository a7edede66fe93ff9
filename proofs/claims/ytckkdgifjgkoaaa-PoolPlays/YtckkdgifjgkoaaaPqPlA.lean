/- The law on deeds, where the room is refused; and the marks of loops that have ended. -/
import Derived.Test.YtckkdgifjgkoaaaPqDeed
namespace Go.Proofs.Ytckkdgifjgkoaaa
open Go.ChangeShapes Go.WideShapes Go.ChangeAt Go.RowKit Go.Maps Go.Shelf An Sp
attribute [local go_sem] Oper.semAt_some
set_option linter.unusedVariables false
theorem results_cell {P : Program} {fn : Func} {p : Tmp} {ty : TypeId} (h : fn.results = #[.cell p ty]) (tmps : Array Value) (w : World) (ad : Addr) (v : Value) (hp : tmps.getD p undef = .pointer (some ad)) (hl : (loadVar ty ad).run P w = .ok v w) :
    (results fn tmps).run P w = .ok v w := by
  have hp' : tmps[p]?.getD undef = .pointer (some ad) := by simpa using hp
  simp [results, h, hp', asAddr, hl]
theorem load_bool {W : World} {ad : Addr} {x : Bool} (hc : W.cell? ad = some (.bool x)) : (loadVar 4 ad).run Try.prog W = .ok (.bool x) W := by
  simp [go_sem, hc]
/-- A mark for each loop that has ended. -/
def marks (Ds : List Nat) : List Deferred := Ds.map fun D => { target := .collected D, args := #[] }
theorem leaves_marks {fn : Func} {tmps : Array Value} {w : World} {Y : Nat} (hres : fn.results = #[.cell 4 4]) (hp : tmps.getD 4 undef = .pointer (some ⟨Y, 0, none⟩)) : ∀ (Ds : List Nat) (W : World), Ds.Nodup → (∀ D ∈ Ds, W.heap[D]? = some (.deferred (some [])) ∧ w.heap.size ≤ D ∧ D ≠ Y) → W.cell? ⟨Y, 0, none⟩ = some (.bool true) → Below w.heap.size w W →
    LeavesInM Fence.wide 0 Try.prog fn tmps (fun e w' => e = .returned (.bool true) ∧ Below w.heap.size w w') (marks Ds) .returning W
  | [], W, _, _, hy, hb => ⟨_, results_cell hres _ _ _ _ hp (load_bool hy), rfl, hb⟩
  | D :: Ds, W, hn, hd, hy, hb => by
    obtain ⟨h1, h2, h3⟩ := hd D List.mem_cons_self
    have hn' := List.nodup_cons.1 hn
    refine ⟨by simp, .inl ⟨D, _, rfl, run_takeDeferred h1, ?_⟩⟩
    refine leaves_marks hres hp Ds _ hn'.2 (fun E hE => ?_) (cell_put hy fun e => h3 e.symm) (below_put hb h2 _)
    obtain ⟨k1, k2, k3⟩ := hd E (List.mem_cons_of_mem _ hE)
    exact ⟨(World.putObj_heap_other fun e : E = D => hn'.1 (e ▸ hE)).trans k1, k2, k3⟩
set_option maxRecDepth 100000 in
set_option maxHeartbeats 1000000 in
theorem plays_bad1 (a0 R : Int) (a : Option Addr) (len cap : Nat) (h1 : 12 < a0) (h2 : a0 ≤ 65536) (h3 : a0.tmod 13 = R) (hr : R < 1 ∨ 65536 < R) (w : World) :
    Calls Try.prog 3 #[.int .i64 a0, .slice a len cap] w fun e w' => e = .returned (.bool true) ∧ Below w.heap.size w w' := by
  have hnew := fun u => qmake_room R key0 key0_size hr u
  have hrnew := fun u => rmake_bad R key0 (hr.elim (fun h => .inl h) (fun h => .inr (.inl h))) u
  clear hr
  refine (callsIn_wide (n := 0)).1 ?_
  refine callsIn_of_wp_marks Try.func3 rfl trivial ?_ rfl
  simp only [Try.ntmps3, List.size_toArray, List.length_cons, List.length_nil, Nat.reduceAdd, Nat.reduceSub, Array.replicate_succ, Array.replicate_zero, List.push_toArray, List.append_toArray, List.nil_append, List.cons_append]
  refine wpIn_wide.2 ?_
  go_wp2_with fail
  refine (examples_any _).mono ?_
  rintro e w1 ⟨rfl, hb1⟩
  have HY : Shut (Row w1 w.heap.size [.bool false]) := ⟨(row_new w [.bool false] 4).on' hb1⟩
  have HYo : Shut (w1.heap[w.heap.size]? = some (.cells #[.bool false] 4 (0, 0))) := ⟨(hb1.block _ (by simp)).trans (World.alloc_heap_new w _)⟩
  have HW : Shut (Below w.heap.size w w1) := ⟨Below.then (alloc_on w (.cells #[.bool false] 4)) hb1⟩
  clear hb1
  have hY0 := HY.out
  have cy := hY0.cell 0 _ rfl
  have gy := hY0.free 0
  clear hY0
  go_wp2_with fail
  refine (hnew _).mono ?_
  rintro e w2 ⟨rfl, hb2⟩
  have HY2 : Shut _ := ⟨HY.out.on' hb2⟩
  have HW2 : Shut _ := ⟨Below.then HW.out hb2⟩
  clear hb2 HY HW HYo cy gy
  go_wp2_with fail
  refine (hrnew _).mono ?_
  rintro e w3 ⟨rfl, hw⟩
  obtain rfl := hw.symm
  clear hw
  have hY3 := HY2.out.on' (alloc_on w2 (.cells #[.pointer none] 28))
  have cy := hY3.cell 0 _ rfl
  have gy := hY3.free 0
  have HYs : Shut _ := ⟨hY3.set 0 (.bool true)⟩
  have hbl : Below w.heap.size w ((w2.alloc (.cells #[.pointer none] 28)).setCell ⟨w.heap.size, 0, none⟩ (.bool true)) := (Below.then HW2.out (alloc_on w2 _)).setCell (p := ⟨w.heap.size, 0, none⟩) (Nat.le_refl _) _
  have HBl : Shut _ := ⟨hbl⟩
  clear hY3 hbl HY2 HW2
  go_wp2_with fail
  exact ⟨_, results_cell rfl _ _ _ _ rfl (load_bool (HYs.out.cell 0 _ rfl)), rfl, HBl.out⟩
set_option maxRecDepth 100000 in
set_option maxHeartbeats 1000000 in
theorem plays_bad2 (a0 : Int) (a : Option Addr) (len cap : Nat) (h1 : ¬ 12 < a0) (hr : a0 < 1 ∨ 65536 < a0) (w : World) :
    Calls Try.prog 3 #[.int .i64 a0, .slice a len cap] w fun e w' => e = .returned (.bool true) ∧ Below w.heap.size w w' := by
  have hnew := fun u => qmake_room a0 key0 key0_size hr u
  have hrnew := fun u => rmake_bad a0 key0 (hr.elim (fun h => .inl h) (fun h => .inr (.inl h))) u
  clear hr
  refine (callsIn_wide (n := 0)).1 ?_
  refine callsIn_of_wp_marks Try.func3 rfl trivial ?_ rfl
  simp only [Try.ntmps3, List.size_toArray, List.length_cons, List.length_nil, Nat.reduceAdd, Nat.reduceSub, Array.replicate_succ, Array.replicate_zero, List.push_toArray, List.append_toArray, List.nil_append, List.cons_append]
  refine wpIn_wide.2 ?_
  go_wp2_with fail
  refine (examples_any _).mono ?_
  rintro e w1 ⟨rfl, hb1⟩
  have HY : Shut (Row w1 w.heap.size [.bool false]) := ⟨(row_new w [.bool false] 4).on' hb1⟩
  have HYo : Shut (w1.heap[w.heap.size]? = some (.cells #[.bool false] 4 (0, 0))) := ⟨(hb1.block _ (by simp)).trans (World.alloc_heap_new w _)⟩
  have HW : Shut (Below w.heap.size w w1) := ⟨Below.then (alloc_on w (.cells #[.bool false] 4)) hb1⟩
  clear hb1
  have hY0 := HY.out
  have cy := hY0.cell 0 _ rfl
  have gy := hY0.free 0
  clear hY0
  go_wp2_with fail
  refine (hnew _).mono ?_
  rintro e w2 ⟨rfl, hb2⟩
  have HY2 : Shut _ := ⟨HY.out.on' hb2⟩
  have HW2 : Shut _ := ⟨Below.then HW.out hb2⟩
  clear hb2 HY HW HYo cy gy
  go_wp2_with fail
  refine (hrnew _).mono ?_
  rintro e w3 ⟨rfl, hw⟩
  obtain rfl := hw.symm
  clear hw
  have hY3 := HY2.out.on' (alloc_on w2 (.cells #[.pointer none] 28))
  have cy := hY3.cell 0 _ rfl
  have gy := hY3.free 0
  have HYs : Shut _ := ⟨hY3.set 0 (.bool true)⟩
  have hbl : Below w.heap.size w ((w2.alloc (.cells #[.pointer none] 28)).setCell ⟨w.heap.size, 0, none⟩ (.bool true)) := (Below.then HW2.out (alloc_on w2 _)).setCell (p := ⟨w.heap.size, 0, none⟩) (Nat.le_refl _) _
  have HBl : Shut _ := ⟨hbl⟩
  clear hY3 hbl HY2 HW2
  go_wp2_with fail
  exact ⟨_, results_cell rfl _ _ _ _ rfl (load_bool (HYs.out.cell 0 _ rfl)), rfl, HBl.out⟩
set_option maxRecDepth 100000 in
set_option maxHeartbeats 1000000 in
theorem plays_bad3 (a0 : Int) (a : Option Addr) (len cap : Nat) (h1 : 12 < a0) (h2 : ¬ a0 ≤ 65536) (hr : a0 < 1 ∨ 65536 < a0) (w : World) :
    Calls Try.prog 3 #[.int .i64 a0, .slice a len cap] w fun e w' => e = .returned (.bool true) ∧ Below w.heap.size w w' := by
  have hnew := fun u => qmake_room a0 key0 key0_size hr u
  have hrnew := fun u => rmake_bad a0 key0 (hr.elim (fun h => .inl h) (fun h => .inr (.inl h))) u
  clear hr
  refine (callsIn_wide (n := 0)).1 ?_
  refine callsIn_of_wp_marks Try.func3 rfl trivial ?_ rfl
  simp only [Try.ntmps3, List.size_toArray, List.length_cons, List.length_nil, Nat.reduceAdd, Nat.reduceSub, Array.replicate_succ, Array.replicate_zero, List.push_toArray, List.append_toArray, List.nil_append, List.cons_append]
  refine wpIn_wide.2 ?_
  go_wp2_with fail
  refine (examples_any _).mono ?_
  rintro e w1 ⟨rfl, hb1⟩
  have HY : Shut (Row w1 w.heap.size [.bool false]) := ⟨(row_new w [.bool false] 4).on' hb1⟩
  have HYo : Shut (w1.heap[w.heap.size]? = some (.cells #[.bool false] 4 (0, 0))) := ⟨(hb1.block _ (by simp)).trans (World.alloc_heap_new w _)⟩
  have HW : Shut (Below w.heap.size w w1) := ⟨Below.then (alloc_on w (.cells #[.bool false] 4)) hb1⟩
  clear hb1
  have hY0 := HY.out
  have cy := hY0.cell 0 _ rfl
  have gy := hY0.free 0
  clear hY0
  go_wp2_with fail
  refine (hnew _).mono ?_
  rintro e w2 ⟨rfl, hb2⟩
  have HY2 : Shut _ := ⟨HY.out.on' hb2⟩
  have HW2 : Shut _ := ⟨Below.then HW.out hb2⟩
  clear hb2 HY HW HYo cy gy
  go_wp2_with fail
  refine (hrnew _).mono ?_
  rintro e w3 ⟨rfl, hw⟩
  obtain rfl := hw.symm
  clear hw
  have hY3 := HY2.out.on' (alloc_on w2 (.cells #[.pointer none] 28))
  have cy := hY3.cell 0 _ rfl
  have gy := hY3.free 0
  have HYs : Shut _ := ⟨hY3.set 0 (.bool true)⟩
  have hbl : Below w.heap.size w ((w2.alloc (.cells #[.pointer none] 28)).setCell ⟨w.heap.size, 0, none⟩ (.bool true)) := (Below.then HW2.out (alloc_on w2 _)).setCell (p := ⟨w.heap.size, 0, none⟩) (Nat.le_refl _) _
  have HBl : Shut _ := ⟨hbl⟩
  clear hY3 hbl HY2 HW2
  go_wp2_with fail
  exact ⟨_, results_cell rfl _ _ _ _ rfl (load_bool (HYs.out.cell 0 _ rfl)), rfl, HBl.out⟩
/-- What is boxed besides the marks: the reference's pool, the result. -/
def fxs (X Y : Nat) (c : RBk) (Ds : List Nat) : List (Nat × Obj) := (X, Obj.cells #[.pointer (some ⟨c.p, 0, none⟩)] 28 (0, 0)) :: (Y, Obj.cells #[.bool false] 4 (0, 0)) :: Ds.map fun D => (D, Obj.deferred (some []))
theorem fxs_x (X Y : Nat) (c : RBk) (Ds : List Nat) : (X, Obj.cells #[.pointer (some ⟨c.p, 0, none⟩)] 28 (0, 0)) ∈ fxs X Y c Ds := List.mem_cons_self
theorem fxs_y (X Y : Nat) (c : RBk) (Ds : List Nat) : (Y, Obj.cells #[.bool false] 4 (0, 0)) ∈ fxs X Y c Ds := List.mem_cons_of_mem _ List.mem_cons_self
theorem fxs_d (X Y : Nat) (c : RBk) {Ds : List Nat} {D : Nat} (h : D ∈ Ds) : (D, Obj.deferred (some [])) ∈ fxs X Y c Ds := List.mem_cons_of_mem _ (List.mem_cons_of_mem _ (List.mem_map.2 ⟨D, h, rfl⟩))
theorem pair_start {w W W2 W3 : World} {room Y : Nat} {b : QBk} {v : Value} {c : RBk} {u uL : Value} {p : Pl} (hY : W.heap[Y]? = some (.cells #[.bool false] 4 (0, 0))) (hR : Run w W.heap.size key0 room W2 b v p) (hb : Below W.heap.size W W2) (hr : RAt W2.heap.size W3 key0 room c u uL p.a p.L p.own) (hb' : Below W2.heap.size W2 W3) :
    Pair w W.heap.size W2.heap.size room (fxs W3.heap.size Y c []) (W3.alloc (.cells #[.pointer (some ⟨c.p, 0, none⟩)] 28)) b v c u uL p p := by
  have lY := obj_lt hY
  have s2 := hb.size
  have h0 : Pair w W.heap.size W2.heap.size room [(Y, Obj.cells #[.bool false] 4 (0, 0))] W3 b v c u uL p p := by
    refine ⟨hR.on hb', hr, hR.inv, Nat.le_trans hR.wb s2, fun x hx hx' => by have := (hR.lt x hx).2; have := (hr.lt x hx').1; omega, fun f hf => ?_⟩
    rcases List.mem_cons.1 hf with rfl | hf
    · refine ⟨(hb'.block _ (by show Y < _; omega)).trans ((hb.block _ lY).trans hY), hR.old lY, fun hx => ?_⟩
      have := (hr.lt _ hx).1
      have : W2.heap.size ≤ Y := this
      omega
    · cases hf
  exact h0.box [.pointer (some ⟨c.p, 0, none⟩)] 28
end Go.Proofs.Ytckkdgifjgkoaaa
