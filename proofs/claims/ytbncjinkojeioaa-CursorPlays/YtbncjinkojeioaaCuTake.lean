/- Take of package cursor. -/
import Derived.Test.YtbncjinkojeioaaCuSeek
namespace Go.Proofs.Ytbncjinkojeioaa
open Go.ChangeShapes Go.WideShapes Go.ChangeAt Go.RowKit Sp Cu

theorem info_word : (Try.prog.info? 49).map (fun i => (i.zero, i.size, i.bytes)) = some (some (.int .u64 0), 1, 8) := by kernel_rfl
theorem cell_one {w : World} {x : Value} {t : TypeId} : ∀ (j : Nat) (u : Value), [x][j]? = some u → (w.alloc (.cells #[x] t)).cell? ((⟨w.heap.size, 0, none⟩ : Addr).add j) = some u := cell_one_new w x t
theorem one_shl (r : Nat) : IntKind.u64.wrap ((2 : Int) ^ r) = nn (1#64 <<< r) := by
  rw [← shl_nn]
  show IntKind.u64.wrap _ = IntKind.u64.wrap (1 * _)
  rw [Int.one_mul]
  congr 1
theorem says_put {ws : List B} {s : Cu} (h : Says ws s) {i : Nat} (hl : i / 64 < ws.length) : Says (ws.set (i / 64) (wd ws (i / 64) ||| 1#64 <<< (i % 64))) (s.put i) := by
  refine ⟨fun j => ?_, ?_, by rw [List.length_set]; exact h.few⟩
  · rw [bit_on hl]
    show updB _ _ _ _ = updB _ _ _ _
    unfold updB
    rw [h.bits]
  · rw [List.length_set]
    show (i + 1) % s.n ≤ _
    have := Nat.mod_le (i + 1) s.n
    omega
theorem says_push {ws : List B} {s : Cu} (h : Says ws s) (hl : ws.length < 1024) : Says (ws ++ [0#64]) s :=
  ⟨fun j => by rw [bit_push, h.bits], by rw [List.length_append]; have := h.near; omega, by rw [List.length_append]; show ws.length + 1 ≤ _; omega⟩
theorem sought_near {ws : List B} {s : Cu} (h : Says ws s) {i : Nat} (hi : Sought s i) : i / 64 ≤ ws.length := by
  have h1 := h.near
  refine Classical.byContradiction fun hc => ?_
  have h2 : s.u (64 * ws.length) = false := by rw [← h.bits]; exact bit_out (by omega)
  rcases hi.2.2 with ⟨h3, h4⟩ | ⟨h3, h4, h5⟩
  · rw [h4 _ h1 (by omega)] at h2; cases h2
  · rw [h5 _ (by omega)] at h2; cases h2

/-- A cursor of package cursor in block p. -/
structure CurP (base : Nat) (W : World) (p : Nat) (v : Value) (ws : List B) (s : Cu) : Prop where
  lies : CurAt base W p v ws s.n s.at_ s.many
  says : Says ws s
  wf : WF s
section
variable {base : Nat} {w : World} {p : Nat} {v : Value} {ws : List B} {s : Cu}
set_option maxHeartbeats 400000 in
theorem take_none (h : CurP base w p v ws s) (hf : Full s) :
    Calls Try.prog 14 #[.pointer (some ⟨p, 0, none⟩)] w fun e w' => e = .returned (.tuple #[.int .i64 0, .bool false]) ∧ Below w.heap.size w w' := by
  obtain ⟨c0, _, c2, _⟩ := h.lies.cells
  rw [hf.many] at c2
  clear hf h
  go_enter Try.func14, Try.ntmps14
  go_wp2_with fail
  go_region
  go_wp2_with fail
  go_ret2
  exact ⟨rfl, (Below.refl _ _).drew⟩
set_option maxHeartbeats 2000000 in
theorem take_one (h : CurP base w p v ws s) {i : Nat} (hi : Sought s i) :
    Calls Try.prog 14 #[.pointer (some ⟨p, 0, none⟩)] w fun e w' => e = .returned (.tuple #[.int .i64 (i : Int), .bool true]) ∧ ∃ v' ws', CurP base w' p v' ws' (s.put i) ∧ Went w w' p v v' := by
  obtain ⟨i0, hinf, hz0, hz1, hz2⟩ := info_parts info_word
  obtain ⟨c0, _, c2, _⟩ := h.lies.cells
  have hm : ((s.many : Nat) : Int) ≠ (s.n : Int) := by have := hi.many; omega
  have hm1 : ((s.many : Int) == (s.n : Int)) = false := beq_eq_false_iff_ne.2 hm
  have HI : Shut _ := ⟨hi⟩
  have HW : Shut _ := ⟨h.wf⟩
  have HS : Shut _ := ⟨h.says⟩
  have HC : Shut _ := ⟨h.lies⟩
  have hs := search_any (h.lies.drew) h.wf.top s rfl h.says.bits i hi h.wf.at_
  clear h hi hm
  go_enter Try.func14, Try.ntmps14
  go_wp2_with fail
  go_region
  go_wp2_with fail
  refine hs.mono ?_
  rintro e w1 ⟨rfl, hw1⟩
  have HW1 : Shut (Went w w1 p v v) := ⟨by rw [hw1]; exact (Went.refl w p v).drew⟩
  have HC1 : Shut (CurAt base w1 p v ws s.n s.at_ s.many) := ⟨by rw [hw1]; exact HC.out.drew⟩
  clear hs hw1 c0 c2
  obtain ⟨c0, c1, c2, c3⟩ := HC1.out.cells
  have hnear := sought_near HS.out HI.out
  have hlim : i < 65536 := by have := HI.out.1; have := HW.out.top; omega
  have hlimI : (i : Int) ≤ 100000 := by omega
  obtain ⟨q, hq⟩ : ∃ q, i / 64 = q := ⟨_, rfl⟩
  obtain ⟨r, hr⟩ : ∃ r, i % 64 = r := ⟨_, rfl⟩
  have hq1 : (i : Int) / 64 = (q : Int) := by omega
  have hr1 : (i : Int) % 64 = (r : Int) := by omega
  have hr2 : (r : Int) < 64 := by omega
  have hqb : (q : Int) ≤ 1023 := by omega
  obtain ⟨y, hy, hy2⟩ : ∃ y, IntKind.u64.wrap ((2 : Int) ^ r) = nn y ∧ y = 1#64 <<< r := ⟨_, one_shl r, rfl⟩
  have HY : Shut _ := ⟨hy2⟩
  have HQ : Shut _ := ⟨hq⟩
  have HR : Shut _ := ⟨hr⟩
  rw [hq] at hnear
  clear hq hr hy2 hlim
  by_cases hl : q = ws.length
  · have hl1 : ((q : Int) == ((ws.length : Nat) : Int)) = true := by rw [beq_iff_eq]; omega
    have hown := HC1.out.own
    have HL : Shut _ := ⟨hl⟩
    have HN : Shut _ := ⟨hnear⟩
    obtain ⟨ad, cap0, rfl, _⟩ := own_shape hown
    clear hl hnear c1 c2
    go_wp2_with (at_builtin; refine wpList_append_own_at _ rfl _ _ 43 rfl base 49 i0 (.int .u64 0) 1 8 Try.underlying43 hinf hz0 hz1 hz2 rfl (by decide) _ _ _ rfl (hown.alloc _) ⟨w1.heap.size, 0, none⟩ 1 1 [.int .u64 0] rfl rfl cell_one ?c2 ?c3 ?c4 ?c5 ?_)
    case c2 => intro u hu; rw [List.mem_singleton] at hu; rw [hu]; rfl
    case c3 => have := HL.out; unfold maxLen; omega
    case c4 => have := HL.out; omega
    case c5 => have := (HC1.out.lt p (by simp [feet])).1; have := HC1.out.head.lt; rw [World.size_alloc]; omega
    intro v' w2 hown' hgrow _ hor
    have hB0 : Below w1.heap.size w1 (w1.alloc (.cells #[.int .u64 0] 49)) := (Below.refl _ _).alloc (Nat.le_refl _) _
    have hA0 := HC1.out.on hB0
    obtain ⟨g, cap, rfl⟩ := own_succ hown'
    have hown2 : w2.ownsRow base 49 1 (.slice (some ⟨g, 0, none⟩) (ws ++ [0#64]).length cap) (ws ++ [0#64]).length (words (ws ++ [0#64])) := by
      rw [← words_push, List.length_append]; exact hown'
    have hor' : (Value.slice (some ⟨g, 0, none⟩) (ws.length + 1) cap).ownBlock = (Value.slice ad ws.length cap0).ownBlock ∨ (Value.slice (some ⟨g, 0, none⟩) (ws.length + 1) cap).ownBlock = some (w1.alloc (.cells #[.int .u64 0] 49)).heap.size := by rw [World.size_alloc]; exact hor
    have elen : (ws ++ [0#64]).length = ws.length + 1 := by rw [List.length_append]; rfl
    have HC2 : Shut (CurAt base (w2.setCell ⟨p, 3, none⟩ (.slice (some ⟨g, 0, none⟩) (ws.length + 1) cap)) p (.slice (some ⟨g, 0, none⟩) (ws ++ [0#64]).length cap) (ws ++ [0#64]) s.n s.at_ s.many) := ⟨by
      have := hA0.push hgrow hown2 hor'
      rwa [elen] at this ⊢⟩
    have HW2 : Shut (Went w (w2.setCell ⟨p, 3, none⟩ (.slice (some ⟨g, 0, none⟩) (ws.length + 1) cap)) p (.slice ad ws.length cap0) (.slice (some ⟨g, 0, none⟩) (ws ++ [0#64]).length cap)) := ⟨by rw [elen]; exact HW1.out.trans ((Went.push (p := p) hB0 hgrow hor').cellP 3 (.slice (some ⟨g, 0, none⟩) (ws.length + 1) cap))⟩
    have HS2 : Shut (Says (ws ++ [0#64]) s) := ⟨says_push HS.out (by have := HL.out; omega)⟩
    have g3 := (hA0.head_grown hgrow).free 3
    have d3 : w2.cell? ⟨p, 3, none⟩ = some (.slice ad ws.length cap0) := (hA0.head_grown hgrow).cell 3 _ rfl
    clear hB0 hA0 hown' hown2 hgrow hor hor' hown c0 c3
    go_wp2_with fail
    obtain ⟨w3, hw3⟩ : ∃ w3, w2.setCell ⟨p, 3, none⟩ (.slice (some ⟨g, 0, none⟩) (ws.length + 1) cap) = w3 := ⟨_, rfl⟩
    rw [hw3] at HC2 HW2 ⊢
    rw [← elen]
    clear hw3 g3 d3
    obtain ⟨ws2, hws2⟩ : ∃ ws2, ws ++ [0#64] = ws2 := ⟨_, rfl⟩
    rw [hws2] at HC2 HW2 HS2 elen ⊢
    have hq2 : q < ws2.length := by have := HL.out; omega
    clear hws2 elen
    have c0 := HC2.out.cells.1
    have c2 := HC2.out.cells.2.2.1
    have c3 := HC2.out.cells.2.2.2
    have cw : w3.cell? ⟨g, q, none⟩ = some (.int .u64 (nn (wd ws2 q))) := (HC2.out.own.cellAt q (by omega)).trans (words_at hq2)
    have gw := HC2.out.own.frozenAt q
    have hlt : (q : Int) < ((ws2.length : Nat) : Int) := by omega
    obtain ⟨x, hx⟩ : ∃ x, wd ws2 q = x := ⟨_, rfl⟩
    rw [hx] at cw
    have HX : Shut _ := ⟨hx⟩
    obtain ⟨z, ho, hz⟩ : ∃ z, bits .or .u64 (nn x) (nn y) = nn z ∧ z = x ||| y := ⟨_, or_nn x y, rfl⟩
    have HZ : Shut _ := ⟨hz⟩
    have HQ2 : Shut _ := ⟨hq2⟩
    clear hx hz hq2
    go_region
    have HC3 : Shut _ := ⟨(HC2.out.setW q z).drew⟩
    have HW3 : Shut _ := ⟨(HW2.out.cell2 (x := g) (by simp [feet, Value.ownBlock]) q (.int .u64 (nn z))).drew⟩
    obtain ⟨V, hV⟩ : ∃ V, (w3.setCell ⟨g, q, none⟩ (.int .u64 (nn z))).drew = V := ⟨_, rfl⟩
    rw [hV] at HC3 HW3 ⊢
    clear hV c0 c2 c3 cw gw HC2 HW2
    have c0 := HC3.out.cells.1
    have c1 := HC3.out.cells.2.1
    have c2 := HC3.out.cells.2.2.1
    have gp := HC3.out.head.free 1
    have gp2 := HC3.out.head.free 2
    obtain ⟨R, hR, hR2⟩ : ∃ R : Nat, ((i : Int) + 1) % (s.n : Int) = (R : Int) ∧ (i + 1) % s.n = R := ⟨_, by rw [← Int.natCast_one, ← Int.natCast_add, ← Int.natCast_emod], rfl⟩
    have HR2 : Shut _ := ⟨hR2⟩
    clear hR2
    have HC4 : Shut _ := ⟨(HC3.out.setA R).setM (s.many + 1)⟩
    have HW4 : Shut _ := ⟨(HW3.out.cellP 1 (.int .i64 (R : Int))).cellP 2 (.int .i64 ((s.many + 1 : Nat) : Int))⟩
    have hmany : (s.many : Int) ≤ 100000 := by have := HI.out.many; have := HW.out.top; omega
    have hn0 : ((s.n : Int) == 0) = false := beq_eq_false_iff_ne.2 (by have := HW.out.pos; omega)
    have hn1 : ¬ ((s.n : Int) = 0) := by have := HW.out.pos; omega
    go_wp2_with fail
    go_ret2
    refine ⟨rfl, .slice (some ⟨g, 0, none⟩) ws2.length cap, ws2.set q z, ⟨?_, ?_, HW.out.put HI.out.1⟩, HW4.out⟩
    · have h4 := HC4.out
      rw [List.length_set] at h4
      rw [many_put HI.out, show (s.put i).at_ = R from HR2.out]
      exact h4
    · have e := says_put HS2.out (by rw [HQ.out]; exact HQ2.out)
      rw [HQ.out, HR.out, HX.out, ← HY.out, ← HZ.out] at e
      exact e
  · have hq2 : q < ws.length := by omega
    have hl1 : ((q : Int) == ((ws.length : Nat) : Int)) = false := beq_eq_false_iff_ne.2 (by omega)
    obtain ⟨ad, cap, rfl, hs⟩ := own_shape HC1.out.own
    obtain ⟨g, rfl⟩ := hs (by omega)
    have HC2 : Shut _ := ⟨HC1.out⟩
    have HW2 : Shut _ := ⟨HW1.out⟩
    clear hl hs hnear c0 c2
    go_wp2_with fail
    clear c3
    have c0 := HC2.out.cells.1
    have c2 := HC2.out.cells.2.2.1
    have c3 := HC2.out.cells.2.2.2
    have cw : w1.cell? ⟨g, q, none⟩ = some (.int .u64 (nn (wd ws q))) := (HC2.out.own.cellAt q (by omega)).trans (words_at hq2)
    have gw := HC2.out.own.frozenAt q
    have hlt : (q : Int) < ((ws.length : Nat) : Int) := by omega
    obtain ⟨x, hx⟩ : ∃ x, wd ws q = x := ⟨_, rfl⟩
    rw [hx] at cw
    have HX : Shut _ := ⟨hx⟩
    obtain ⟨z, ho, hz⟩ : ∃ z, bits .or .u64 (nn x) (nn y) = nn z ∧ z = x ||| y := ⟨_, or_nn x y, rfl⟩
    have HZ : Shut _ := ⟨hz⟩
    have HQ2 : Shut _ := ⟨hq2⟩
    clear hx hz hq2
    go_region
    have HC3 : Shut _ := ⟨(HC2.out.setW q z).drew⟩
    have HW3 : Shut _ := ⟨(HW2.out.cell2 (x := g) (by simp [feet, Value.ownBlock]) q (.int .u64 (nn z))).drew⟩
    obtain ⟨V, hV⟩ : ∃ V, (w1.setCell ⟨g, q, none⟩ (.int .u64 (nn z))).drew = V := ⟨_, rfl⟩
    rw [hV] at HC3 HW3 ⊢
    clear hV c0 c2 c3 cw gw HC2 HW2
    have c0 := HC3.out.cells.1
    have c1 := HC3.out.cells.2.1
    have c2 := HC3.out.cells.2.2.1
    have gp := HC3.out.head.free 1
    have gp2 := HC3.out.head.free 2
    obtain ⟨R, hR, hR2⟩ : ∃ R : Nat, ((i : Int) + 1) % (s.n : Int) = (R : Int) ∧ (i + 1) % s.n = R := ⟨_, by rw [← Int.natCast_one, ← Int.natCast_add, ← Int.natCast_emod], rfl⟩
    have HR2 : Shut _ := ⟨hR2⟩
    clear hR2
    have HC4 : Shut _ := ⟨(HC3.out.setA R).setM (s.many + 1)⟩
    have HW4 : Shut _ := ⟨(HW3.out.cellP 1 (.int .i64 (R : Int))).cellP 2 (.int .i64 ((s.many + 1 : Nat) : Int))⟩
    have hmany : (s.many : Int) ≤ 100000 := by have := HI.out.many; have := HW.out.top; omega
    have hn0 : ((s.n : Int) == 0) = false := beq_eq_false_iff_ne.2 (by have := HW.out.pos; omega)
    have hn1 : ¬ ((s.n : Int) = 0) := by have := HW.out.pos; omega
    go_wp2_with fail
    go_ret2
    refine ⟨rfl, .slice (some ⟨g, 0, none⟩) ws.length cap, ws.set q z, ⟨?_, ?_, HW.out.put HI.out.1⟩, HW4.out⟩
    · have h4 := HC4.out
      rw [List.length_set] at h4
      rw [many_put HI.out, show (s.put i).at_ = R from HR2.out]
      exact h4
    · have e := says_put HS.out (by rw [HQ.out]; exact HQ2.out)
      rw [HQ.out, HR.out, HX.out, ← HY.out, ← HZ.out] at e
      exact e
end
end Go.Proofs.Ytbncjinkojeioaa
