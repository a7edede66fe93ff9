/- Free and New of package cursor. -/
import Derived.Test.YtbncjinkojeioaaCuTake
namespace Go.Proofs.Ytbncjinkojeioaa
open Go.ChangeShapes Go.WideShapes Go.ChangeAt Go.RowKit Sp Cu

theorem says_cut {ws : List B} {s : Cu} (h : Says ws s) {i : Nat} (hl : i / 64 < ws.length) : Says (ws.set (i / 64) (wd ws (i / 64) &&& ~~~(1#64 <<< (i % 64)))) (s.cut i) := by
  refine ⟨fun j => ?_, ?_, by rw [List.length_set]; exact h.few⟩
  · rw [bit_off hl]
    show updB _ _ _ _ = updB _ _ _ _
    unfold updB
    rw [h.bits]
  · rw [List.length_set]
    exact h.near
section
variable {base : Nat} {w : World} {p : Nat} {v : Value} {ws : List B} {s : Cu}
theorem used_has (h : CurP base w p v ws s) (x : Int) :
    Calls Try.prog 12 #[.pointer (some ⟨p, 0, none⟩), .int .i64 x] w fun e w' => e = .returned (.bool (s.has x)) ∧ w' = w := used_any h.lies h.wf.top s.u h.says.bits x
set_option maxHeartbeats 400000 in
theorem free_no (h : CurP base w p v ws s) (x : Int) (hx : s.has x = false) :
    Calls Try.prog 10 #[.pointer (some ⟨p, 0, none⟩), .int .i64 x] w fun e w' => e = .returned (.bool false) ∧ w' = w := by
  have hu := used_has h x
  rw [hx] at hu
  clear hx h
  go_enter Try.func10, Try.ntmps10
  go_wp2_with fail
  refine hu.mono ?_
  rintro e w1 ⟨rfl, rfl⟩
  go_wp2_with fail
  go_ret
  exact ⟨rfl, rfl⟩
set_option maxHeartbeats 2000000 in
theorem free_yes (h : CurP base w p v ws s) (i : Nat) (hi : i < s.n) (hu : s.u i = true) :
    Calls Try.prog 10 #[.pointer (some ⟨p, 0, none⟩), .int .i64 (i : Int)] w fun e w' => e = .returned (.bool true) ∧ ∃ ws', CurP base w' p v ws' (s.cut i) ∧ Went w w' p v v := by
  have cu := used_has h (i : Int)
  rw [h.wf.has, hu] at cu
  have hq2 : i / 64 < ws.length := Classical.byContradiction fun hc => by
    have := bit_out (ws := ws) (i := i) (by omega)
    rw [h.says.bits, hu] at this
    cases this
  have HI : Shut (i < s.n) := ⟨hi⟩
  have HU : Shut _ := ⟨hu⟩
  have HW : Shut _ := ⟨h.wf⟩
  have HS : Shut _ := ⟨h.says⟩
  have HM : Shut _ := ⟨many_cut hi hu⟩
  have HC2 : Shut _ := ⟨h.lies⟩
  obtain ⟨ad, cap, rfl, hs⟩ := own_shape h.lies.own
  obtain ⟨g, rfl⟩ := hs (by omega)
  have HW2 : Shut _ := ⟨Went.refl w p (.slice (some ⟨g, 0, none⟩) ws.length cap)⟩
  have hlimI : (i : Int) ≤ 100000 := by have := h.wf.top; omega
  obtain ⟨q, hq⟩ : ∃ q, i / 64 = q := ⟨_, rfl⟩
  obtain ⟨r, hr⟩ : ∃ r, i % 64 = r := ⟨_, rfl⟩
  have hq1 : (i : Int) / 64 = (q : Int) := by omega
  have hr1 : (i : Int) % 64 = (r : Int) := by omega
  have hr2 : (r : Int) < 64 := by omega
  have hqb : (q : Int) ≤ 2000 := by omega
  obtain ⟨y, hy, hy2⟩ : ∃ y, IntKind.u64.wrap ((2 : Int) ^ r) = nn y ∧ y = 1#64 <<< r := ⟨_, one_shl r, rfl⟩
  have HY : Shut _ := ⟨hy2⟩
  have HQ : Shut _ := ⟨hq⟩
  have HR : Shut _ := ⟨hr⟩
  rw [hq] at hq2
  clear hq hr hy2 hs h hi hu
  go_enter Try.func10, Try.ntmps10
  go_wp2_with fail
  refine cu.mono ?_
  rintro e w1 ⟨rfl, hw1⟩
  obtain rfl := hw1.symm
  clear hw1
  go_wp2_with fail
  have c2 := HC2.out.cells.2.2.1
  have c3 := HC2.out.cells.2.2.2
  have cw : w.cell? ⟨g, q, none⟩ = some (.int .u64 (nn (wd ws q))) := (HC2.out.own.cellAt q (by omega)).trans (words_at hq2)
  have gw := HC2.out.own.frozenAt q
  have hlt : (q : Int) < ((ws.length : Nat) : Int) := by omega
  obtain ⟨x, hx⟩ : ∃ x, wd ws q = x := ⟨_, rfl⟩
  rw [hx] at cw
  have HX : Shut _ := ⟨hx⟩
  obtain ⟨z, ho, hz⟩ : ∃ z, bits .andNot .u64 (nn x) (nn y) = nn z ∧ z = x &&& ~~~y := ⟨_, andNot_nn x y, rfl⟩
  have HZ : Shut _ := ⟨hz⟩
  have HQ2 : Shut _ := ⟨hq2⟩
  clear hx hz hq2
  go_region
  have HC3 : Shut _ := ⟨(HC2.out.setW q z).drew⟩
  have HW3 : Shut _ := ⟨(HW2.out.cell2 (x := g) (by simp [feet, Value.ownBlock]) q (.int .u64 (nn z))).drew⟩
  obtain ⟨V, hV⟩ : ∃ V, (w.setCell ⟨g, q, none⟩ (.int .u64 (nn z))).drew = V := ⟨_, rfl⟩
  rw [hV] at HC3 HW3 ⊢
  clear hV c2 c3 cw gw HC2 HW2
  obtain ⟨m, hm⟩ : ∃ m, s.many = m + 1 := ⟨_, HM.out.symm⟩
  have c2 : V.cell? ⟨p, 2, none⟩ = some (.int .i64 ((m + 1 : Nat) : Int)) := by rw [← hm]; exact HC3.out.cells.2.2.1
  have gp2 := HC3.out.head.free 2
  have HC4 : Shut _ := ⟨HC3.out.setM m⟩
  have HW4 : Shut _ := ⟨HW3.out.cellP 2 (.int .i64 (m : Int))⟩
  have hmany : (m : Int) ≤ 100000 := by have := many_le s; have := HW.out.top; omega
  have HE : Shut _ := ⟨hm⟩
  clear hm
  go_wp2_with fail
  go_ret
  refine ⟨rfl, ws.set q z, ⟨?_, ?_, HW.out.cut i⟩, HW4.out⟩
  · rw [show (s.cut i).many = m by have := HM.out; have := HE.out; omega]
    have := HC4.out
    rw [List.length_set] at this
    exact this
  · have e := says_cut HS.out (by rw [HQ.out]; exact HQ2.out)
    rw [HQ.out, HR.out, HX.out, ← HY.out, ← HZ.out] at e
    exact e
end
set_option maxHeartbeats 400000 in
theorem new_bad (n : Int) (h : n < 1 ∨ (¬ n < 1 ∧ 65536 < n)) (w : World) :
    Calls Try.prog 8 #[.int .i64 n] w fun e w' => e = .returned (.tuple #[.pointer none, .int .i64 1]) ∧ w' = w := by
  rcases h with h | ⟨h1, h⟩
  all_goals
    go_enter Try.func8, Try.ntmps8
    go_wp2_with fail
    go_ret2
    exact ⟨rfl, rfl⟩
set_option maxHeartbeats 400000 in
theorem new_ok (n : Nat) (h1 : 1 ≤ n) (h2 : n ≤ 65536) (w : World) :
    Calls Try.prog 8 #[.int .i64 (n : Int)] w fun e w' => ∃ p, e = .returned (.tuple #[.pointer (some ⟨p, 0, none⟩), .int .i64 0]) ∧ w.heap.size ≤ p ∧ CurP w.heap.size w' p (.slice none 0 0) [] (newCu n) ∧ Below w.heap.size w w' := by
  have g1 : ¬ (n : Int) < 1 := by omega
  have g2 : ¬ (65536 : Int) < n := by omega
  have H1 : Shut _ := ⟨h1⟩
  have H2 : Shut _ := ⟨h2⟩
  clear h1 h2
  go_enter Try.func8, Try.ntmps8
  go_wp2_with fail
  go_ret2
  have hlies : CurAt w.heap.size (w.alloc (.cells (hdC (.slice none 0 0) n 0 0).toArray 45)) w.heap.size (.slice none 0 0) [] n 0 0 :=
    ⟨row_new w _ _, World.ownsRow_nil _ _ _ _, Nat.le_refl _, fun h => by cases h⟩
  refine ⟨w.heap.size, rfl, Nat.le_refl _, ⟨?_, ⟨fun i => bit_out (Nat.zero_le _), Nat.zero_le _, Nat.zero_le _⟩, wf_new H1.out H2.out⟩, (Below.refl _ _).alloc (Nat.le_refl _) _⟩
  rw [many_new]
  exact hlies
end Go.Proofs.Ytbncjinkojeioaa
