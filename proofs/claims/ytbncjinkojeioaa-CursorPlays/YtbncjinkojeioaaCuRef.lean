/- The cursor of the reference in memory: a list of ones and zeros, where it stands. -/
import Derived.Test.YtbncjinkojeioaaCuFree
namespace Go.Proofs.Ytbncjinkojeioaa
open Go.ChangeShapes Go.WideShapes Go.ChangeAt Go.RowKit Sp Cu

def upd (f : Nat → Nat) (i v : Nat) : Nat → Nat := fun j => if j = i then v else f j
theorem upd_same (f : Nat → Nat) (i v : Nat) : upd f i v i = v := if_pos rfl
theorem upd_other (f : Nat → Nat) (i v j : Nat) (h : j ≠ i) : upd f i v j = f j := if_neg h
/-- The first r cells of block g are these numbers. -/
def Lst (W : World) (g r : Nat) (f : Nat → Nat) : Prop := ∃ cur t, W.heap[g]? = some (.cells cur t (0, 0)) ∧ ∀ i, i < r → cur[i]? = some (.int .i64 (f i : Int))
section
variable {W W' : World} {g r : Nat} {f : Nat → Nat}
theorem Lst.lt (h : Lst W g r f) : g < W.heap.size := by
  obtain ⟨cur, t, h, _⟩ := h
  exact (Array.getElem?_eq_some_iff.1 h).1
theorem Lst.cell (h : Lst W g r f) (i : Nat) (hi : i < r) : W.cell? ⟨g, i, none⟩ = some (.int .i64 (f i : Int)) := by
  obtain ⟨cur, t, h, hc⟩ := h
  unfold World.cell?
  simp only [h]
  simpa using hc i hi
theorem Lst.free (h : Lst W g r f) (j : Nat) : W.frozen? ⟨g, j, none⟩ = false := by
  obtain ⟨cur, t, h, _⟩ := h
  unfold World.frozen?
  simp only [h]
  simp
theorem Lst.of_block (h : Lst W g r f) (e : W'.heap[g]? = W.heap[g]?) : Lst W' g r f := by
  obtain ⟨cur, t, h, hc⟩ := h
  exact ⟨cur, t, e.trans h, hc⟩
theorem Lst.set (h : Lst W g r f) (i v : Nat) (hi : i < r) : Lst (W.setCell ⟨g, i, none⟩ (.int .i64 (v : Int))) g r (upd f i v) := by
  obtain ⟨cur, t, h, hc⟩ := h
  refine ⟨cur.setIfInBounds i (.int .i64 (v : Int)), t, ?_, fun j hj => ?_⟩
  · simp only [World.setCell, Array.getElem?_modify]
    simp [h]
  · by_cases e : j = i
    · subst e
      have hs : j < cur.size := (Array.getElem?_eq_some_iff.1 (hc j hj)).1
      rw [upd_same, Array.getElem?_setIfInBounds_self_of_lt hs]
    · rw [upd_other _ _ _ _ e, Array.getElem?_setIfInBounds_ne (fun h => e h.symm)]
      exact hc j hj
theorem Lst.other (h : Lst W g r f) {b : Nat} (hb : g ≠ b) (i : Nat) (v : Value) : Lst (W.setCell ⟨b, i, none⟩ v) g r f := h.of_block (Below.heap_setCell _ _ _ _ hb)
theorem Lst.congr {f' : Nat → Nat} (h : Lst W g r f) (e : ∀ i, i < r → f i = f' i) : Lst W g r f' := by
  obtain ⟨cur, t, h, hc⟩ := h
  exact ⟨cur, t, h, fun i hi => by rw [← e i hi]; exact hc i hi⟩
end


def ones (u : Nat → Bool) : Nat → Nat := fun i => (u i).toNat
theorem ones_set (u : Nat → Bool) (i : Nat) (b : Bool) (j : Nat) : upd (ones u) i b.toNat j = ones (updB u i b) j := by
  unfold upd ones updB
  by_cases e : j = i
  · rw [if_pos e, if_pos e]
  · rw [if_neg e, if_neg e]
/-- The reference's struct in block q, its list in block g. -/
structure RefAt (base : Nat) (W : World) (q g n a : Nat) (u : Nat → Bool) : Prop where
  head : Row W q [.slice (some ⟨g, 0, none⟩) n n, .int .i64 (a : Int)]
  list : Lst W g n (ones u)
  ne : q ≠ g
  geq : base ≤ q
  geg : base ≤ g
def RefP (base : Nat) (W : World) (q g : Nat) (s : Cu) : Prop := RefAt base W q g s.n s.at_ s.u
section
variable {base : Nat} {W W' : World} {q g n a : Nat} {u : Nat → Bool}
theorem RefAt.of_blocks (h : RefAt base W q g n a u) (e1 : W'.heap[q]? = W.heap[q]?) (e2 : W'.heap[g]? = W.heap[g]?) : RefAt base W' q g n a u :=
  ⟨h.head.of_block e1, h.list.of_block e2, h.ne, h.geq, h.geg⟩
theorem RefAt.but {T : List Nat} (h : RefAt base W q g n a u) (hb : But T W W') (h1 : q ∉ T) (h2 : g ∉ T) : RefAt base W' q g n a u := h.of_blocks (hb.block q h.head.lt h1) (hb.block g h.list.lt h2)
theorem RefAt.on (h : RefAt base W q g n a u) (hb : Below W.heap.size W W') : RefAt base W' q g n a u := h.of_blocks (hb.block q h.head.lt) (hb.block g h.list.lt)
theorem RefAt.drew (h : RefAt base W q g n a u) : RefAt base W.drew q g n a u := h.of_blocks rfl rfl
theorem RefAt.cells (h : RefAt base W q g n a u) : W.cell? ⟨q, 0, none⟩ = some (.slice (some ⟨g, 0, none⟩) n n) ∧ W.cell? ⟨q, 1, none⟩ = some (.int .i64 (a : Int)) := ⟨h.head.cell 0 _ rfl, h.head.cell 1 _ rfl⟩
theorem RefAt.setA (h : RefAt base W q g n a u) (x : Nat) : RefAt base (W.setCell ⟨q, 1, none⟩ (.int .i64 (x : Int))) q g n x u := ⟨h.head.set 1 _, h.list.other h.ne.symm _ _, h.ne, h.geq, h.geg⟩
theorem RefAt.setU (h : RefAt base W q g n a u) (i : Nat) (b : Bool) (hi : i < n) : RefAt base (W.setCell ⟨g, i, none⟩ (.int .i64 ((b.toNat : Nat) : Int))) q g n a (updB u i b) :=
  ⟨h.head.other h.ne _ _, (h.list.set i b.toNat hi).congr fun j _ => ones_set u i b j, h.ne, h.geq, h.geg⟩
theorem RefAt.at1 (h : RefAt base W q g n a u) {i : Nat} (hi : i < n) (hu : u i = true) : W.cell? ⟨g, i, none⟩ = some (.int .i64 1) := by
  have := h.list.cell i hi
  unfold ones at this
  rw [hu] at this
  exact this
theorem RefAt.at0 (h : RefAt base W q g n a u) {i : Nat} (hi : i < n) (hu : u i = false) : W.cell? ⟨g, i, none⟩ = some (.int .i64 0) := by
  have := h.list.cell i hi
  unfold ones at this
  rw [hu] at this
  exact this
end
theorem info_int : (Try.prog.info? 3).map (fun i => (i.zero, i.size, i.bytes)) = some (some (.int .i64 0), 1, 8) := by kernel_rfl
theorem make_run (r : Nat) (hr : r ≤ 100000) (W : World) : (Instr.makeSlice 46 (.int .i64 (r : Int)) (.int .i64 (r : Int))).run Try.prog W = .ok (.slice (some ⟨W.heap.size, 0, none⟩) r r) (W.alloc (.cells (madeCells #[.int .i64 0] r) 3)) := by
  obtain ⟨i0, hi, hz0, hz1, hz2⟩ := info_parts info_int
  have h := run_make (P := Try.prog) W 46 3 i0 (.int .i64 0) Try.underlying46 hi hz0 .i64 .i64 (r : Int) (r : Int) (by omega) (Int.le_refl _) (by rw [hz2]; omega) (by omega)
  rw [hz1, Nat.mul_one] at h
  exact h
theorem made_lst (W : World) (r : Nat) : Lst (W.alloc (.cells (madeCells #[.int .i64 0] r) 3)) W.heap.size r fun _ => 0 := by
  refine ⟨_, _, heap_alloc_new _ _, fun i hi => ?_⟩
  rw [← Array.getElem?_toList, toList_madeCells_one, List.getElem?_replicate, if_pos hi]; rfl
section
variable {base : Nat} {w : World} {q g : Nat} {s : Cu}
set_option maxHeartbeats 400000 in
theorem rhas_any (h : RefP base w q g s) (wf : WF s) (x : Int) :
    Calls Try.prog 13 #[.pointer (some ⟨q, 0, none⟩), .int .i64 x] w fun e w' => e = .returned (.bool (s.has x)) ∧ w' = w := by
  obtain ⟨c0, c1⟩ := h.cells
  by_cases h0 : x < 0
  · rw [has_neg s h0]
    have h0' : ¬ 0 ≤ x := by omega
    clear h0 h wf
    go_enter Try.func13, Try.ntmps13
    go_wp2_with fail
    go_ret
    exact ⟨rfl, rfl⟩
  · have h0' : 0 ≤ x := by omega
    by_cases h1 : (s.n : Int) ≤ x
    · rw [has_out s h1]
      have h1' : ¬ x < s.n := by omega
      clear h0 h1 h wf
      go_enter Try.func13, Try.ntmps13
      go_wp2_with fail
      go_ret
      exact ⟨rfl, rfl⟩
    · obtain ⟨i, rfl⟩ := Int.eq_ofNat_of_zero_le h0'
      rw [wf.has]
      have h1' : (i : Int) < s.n := by omega
      have h2' : i < s.n := by omega
      have HU : Shut (s.u i = s.u i) := ⟨rfl⟩
      cases hu : s.u i with
      | true =>
        have cw := h.at1 h2' hu
        clear h0 h1 hu h wf
        go_enter Try.func13, Try.ntmps13
        go_wp2_with fail
        go_ret
        exact ⟨rfl, rfl⟩
      | false =>
        have cw := h.at0 h2' hu
        clear h0 h1 hu h wf
        go_enter Try.func13, Try.ntmps13
        go_wp2_with fail
        go_ret
        exact ⟨rfl, rfl⟩
set_option maxHeartbeats 400000 in
theorem rfree_no (h : RefP base w q g s) (wf : WF s) (x : Int) (hx : s.has x = false) :
    Calls Try.prog 11 #[.pointer (some ⟨q, 0, none⟩), .int .i64 x] w fun e w' => e = .returned (.bool false) ∧ w' = w := by
  have hu := rhas_any h wf x
  rw [hx] at hu
  clear hx h wf
  go_enter Try.func11, Try.ntmps11
  go_wp2_with fail
  refine hu.mono ?_
  rintro e w1 ⟨rfl, rfl⟩
  go_wp2_with fail
  go_ret
  exact ⟨rfl, rfl⟩
set_option maxHeartbeats 400000 in
theorem rfree_yes (h : RefP base w q g s) (wf : WF s) (i : Nat) (hi : i < s.n) (hu : s.u i = true) :
    Calls Try.prog 11 #[.pointer (some ⟨q, 0, none⟩), .int .i64 (i : Int)] w fun e w' => e = .returned (.bool true) ∧ RefP base w' q g (s.cut i) ∧ But [q, g] w w' := by
  have cu := rhas_any h wf (i : Int)
  rw [wf.has, hu] at cu
  have HC : Shut _ := ⟨h⟩
  have c0 := h.cells.1
  have cw := h.at1 hi hu
  have gw := h.list.free i
  have hi2 : (i : Int) < s.n := by omega
  clear hu h wf
  go_enter Try.func11, Try.ntmps11
  go_wp2_with fail
  refine cu.mono ?_
  rintro e w1 ⟨rfl, hw1⟩
  obtain rfl := hw1.symm
  clear hw1
  go_wp2_with fail
  go_ret
  exact ⟨rfl, HC.out.setU i false hi, (But.refl _ _).setCell (by simp) _ _⟩
set_option maxHeartbeats 400000 in
theorem rlen_any (h : RefP base w q g s) (wf : WF s) :
    Calls Try.prog 17 #[.pointer (some ⟨q, 0, none⟩)] w fun e w' => e = .returned (.int .i64 (s.many : Int)) ∧ w' = w := by
  obtain ⟨c0, c1⟩ := h.cells
  have HC : Shut _ := ⟨h⟩
  have HT : Shut (s.n ≤ 65536) := ⟨wf.top⟩
  clear h wf
  go_enter Try.func17, Try.ntmps17
  go_wp2_with fail
  go_loop [3, 4] (fun x t => ∃ (i m : Nat), i ≤ s.n ∧ t = .int .i64 (i : Int) ∧ x = .int .i64 (m : Int) ∧ Shut (m = cnt s.u i)) (fun _ t => s.n - (intOf t).toNat)
  case atStart => exact ⟨0, 0, Nat.zero_le _, rfl, rfl, ⟨rfl⟩⟩
  case round =>
    obtain ⟨i, m, hi, rfl, rfl, HM⟩ := hrel
    have hmb : (m : Int) ≤ 100000 := by have := cnt_le s.u i; have := HM.out; have := HT.out; omega
    have hib : (i : Int) ≤ 100000 := by have := HT.out; omega
    by_cases hlt : i < s.n
    · have hlt1 : (i : Int) < s.n := by omega
      have cw := HC.out.list.cell i hlt
      obtain ⟨o, ho⟩ : ∃ o, ones s.u i = o := ⟨_, rfl⟩
      rw [ho] at cw
      have hob : (o : Int) ≤ 1 := by
        have : (s.u i).toNat ≤ 1 := Bool.toNat_le _
        unfold ones at ho
        omega
      have HO : Shut (m + o = cnt s.u (i + 1)) := ⟨by rw [← ho, HM.out]; rfl⟩
      clear ho hi
      go_wp2_with fail
      go_round
      case rel => exact ⟨i + 1, m + o, hlt, by go_num, by go_num, HO⟩
      case measure => simp only [intOf]; omega
    · have hlt1 : ¬ (i : Int) < s.n := by omega
      have HE : Shut (m = s.many) := ⟨by rw [HM.out, show i = s.n by omega]; rfl⟩
      clear hi hlt
      go_wp2_with fail
      go_ret
      exact ⟨by rw [← HE.out]; rfl, rfl⟩
end
end Go.Proofs.Ytbncjinkojeioaa
