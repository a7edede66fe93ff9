/- works of the law's package. -/
import Derived.Test.YtmmaglhilghofaaAnWork
namespace Go.Proofs.Ytmmaglhilghofaa
open Go.ChangeShapes Go.WideShapes Go.ChangeAt Go.RowKit Go.Shelf An
attribute [local go_sem] Oper.semAt_some

theorem results_cell {P : Program} {fn : Func} {p : Tmp} {ty : TypeId} (h : fn.results = #[.cell p ty]) (tmps : Array Value) (w : World) (ad : Addr) (v : Value) (hp : tmps.getD p undef = .pointer (some ad)) (hl : (loadVar ty ad).run P w = .ok v w) :
    (results fn tmps).run P w = .ok v w := by
  have hp' : tmps[p]?.getD undef = .pointer (some ad) := by simpa using hp
  simp [results, h, hp', asAddr, hl]
theorem load_bool {W : World} {ad : Addr} {x : Bool} (hc : W.cell? ad = some (.bool x)) : (loadVar 4 ad).run Try.prog W = .ok (.bool x) W := by
  simp [go_sem, hc]
theorem cell_put {W : World} {l : Nat} {o : Obj} {ad : Addr} {v : Value} (h : W.cell? ad = some v) (hne : ad.block ≠ l) : (W.putObj l o).cell? ad = some v := by
  rw [World.cell?_of_block (w := W) (World.putObj_heap_other hne)]; exact h
/-- Block B holds just this, and none of it is frozen. -/
theorem Row.put {W : World} {b : Nat} {l : List Value} (h : Row W b l) {k : Nat} (hk : b ≠ k) (o : Obj) : Row (W.putObj k o) b l := h.of_block (World.putObj_heap_other hk)
theorem row_alloc {w : World} {x : Value} {t : TypeId} : Row (w.alloc (.cells #[x] t)) w.heap.size [x] := row_new w [x] t

section
variable {base : Nat} {w : World} {b : Bk} {v : Value} {s : An}
theorem AnAt.reads (hA : AnAt hdA base w b v s) : Reads w b.p b.a s.r b.ca s.A := ⟨hA.headA.2.1, hA.la⟩
set_option maxRecDepth 100000 in
set_option maxHeartbeats 4000000 in
theorem works_any (hA : AnAt hdA base w b v s) (hr : s.r ≤ 65536) (x : Nat) :
    Calls Try.prog 19 #[.pointer (some ⟨b.p, 0, none⟩), .int .i64 (x : Int)] w fun e w' => e = .returned (.bool (decide (Works s x))) ∧ Below w.heap.size w w' := by
  have hrd0 := hA.reads
  obtain ⟨R, hR⟩ : ∃ R, decide (Works s x) = R := ⟨_, rfl⟩
  have HR : Shut (decide (Works s x) = R) := ⟨hR⟩
  rw [hR]
  clear hR
  refine (callsIn_wide (n := 0)).1 ?_
  refine callsIn_of_wp_marks Try.func19 rfl trivial ?_ rfl
  simp only [Try.ntmps19, List.size_toArray, List.length_cons, List.length_nil, Nat.reduceAdd, Nat.reduceSub, Array.replicate_succ, Array.replicate_zero, List.push_toArray, List.append_toArray, List.nil_append, List.cons_append]
  gi_wp2
  refine ⟨trivial, rfl, (callsIn_wide.2 (working_any _ _)).mono ?_⟩
  rintro e w' ⟨rfl, rfl⟩
  gi_wp2
  obtain ⟨V0, hV0⟩ : ∃ V0, ((w.alloc (.cells #[.int .i64 (x : Int)] 3)).alloc (.cells #[.bool false] 4)).alloc (.cells #[.pointer (some ⟨b.p, 0, none⟩)] 24) = V0 := ⟨_, rfl⟩
  have hsz : V0.heap.size = w.heap.size + 3 := by rw [← hV0]; simp
  have hB : Below w.heap.size w V0 := by rw [← hV0]; exact (((Below.refl _ w).alloc (Nat.le_refl _) _).alloc (by simp) _).alloc (by simp; omega) _
  have hX : Row V0 w.heap.size [.int .i64 (x : Int)] := by
    rw [← hV0]
    exact (row_alloc.on' ((Below.refl _ _).alloc (Nat.le_refl _) _)).on' ((Below.refl _ _).alloc (Nat.le_refl _) _)
  have hY : Row V0 (w.heap.size + 1) [.bool false] := by
    rw [← hV0]
    have h := row_alloc (w := w.alloc (.cells #[.int .i64 (x : Int)] 3)) (x := .bool false) (t := 4)
    rw [World.size_alloc] at h
    exact h.on' ((Below.refl _ _).alloc (Nat.le_refl _) _)
  have hZ : V0.cell? ⟨w.heap.size + 1 + 1, 0, none⟩ = some (.pointer (some ⟨b.p, 0, none⟩)) := by rw [← hV0]; simp [go_sem]
  have hrd := hrd0.on hB
  rw [hV0]
  clear hV0 hrd0
  refine wpIn_gives (gf := 24) (lb := #[.pointer (some ⟨w.heap.size + 1 + 1, 0, none⟩)]) (on := fun k => decide (s.A k = 0)) (enc := fun k => #[.int .i64 (k : Int)]) (N := s.r) (S := fun _ => True) rfl (enters_of Try.func24 (by kernel_rfl) rfl)
    (fun W1 hb1 _ => working1_gives b.p b.a s.r b.ca s.A hr (w.heap.size + 1 + 1) _ W1 (fun _ _ => trivial) trivial ((hb1.cell (p := ⟨w.heap.size + 1 + 1, 0, none⟩) (by simp; omega)).trans hZ) (hrd.on hb1)) (fun _ _ => trivial) (fun _ => rfl)
    (fun k W => Row W w.heap.size [.int .i64 (x : Int)] ∧ Row W (w.heap.size + 1) [.bool false] ∧ Below w.heap.size w W ∧ ∀ j, j < k → Works s j → j ≠ x) (fun c _ W => c = .ret ∧ Row W (w.heap.size + 1) [.bool true] ∧ Below w.heap.size w W ∧ Works s x)
    (fun k W W' h hb => ⟨h.1.on hb (by omega), h.2.1.on hb (by omega), h.2.2.1.trans (hb.mono (by omega)), h.2.2.2⟩) (fun c k W W' h hb => ⟨h.1, h.2.1.on hb (by omega), h.2.2.1.trans (hb.mono (by omega)), h.2.2.2⟩)
    ⟨hX, hY, hB, fun j hj => by omega⟩
    (fun k W _ ho h => ⟨h.1, h.2.1, h.2.2.1, fun j hj hw => by
      rcases Nat.lt_or_ge j k with h' | h'
      · exact h.2.2.2 j h' hw
      · obtain rfl : j = k := by omega
        exact absurd hw.2 (of_decide_eq_false ho)⟩)
    (fun k => { tmps := #[.pointer (some ⟨b.p, 0, none⟩), .int .i64 (x : Int), undef, .pointer (some ⟨w.heap.size, 0, none⟩), .pointer (some ⟨w.heap.size + 1, 0, none⟩), .int .i64 (k : Int), .pointer (some ⟨b.p, 0, none⟩), .func (.func 24) #[] #[.pointer (some ⟨w.heap.size + 1 + 1, 0, none⟩)], .int .i64 (k : Int), undef, undef, undef], defers := [] })
    ?assign ?body ?done ?stop
  case assign =>
    intro l' k W K hK
    gi_wp2
    exact hK
  case body =>
    rintro l' k W hk ho ⟨h1, h2, h3, h4⟩
    have c1 := h1.cell 0 _ rfl
    have c2 := h2.cell 0 _ rfl
    have g2 := h2.free 0
    have H1 : Shut _ := ⟨h1⟩
    have H2 : Shut _ := ⟨h2⟩
    have H3 : Shut _ := ⟨h3⟩
    have HO : Shut (s.A k = 0) := ⟨of_decide_eq_true ho⟩
    have HK : Shut (k < s.r) := ⟨hk⟩
    have H4 : Shut _ := ⟨h4⟩
    clear h1 h2 h3 h4 ho hk
    by_cases e : k = x
    · subst e
      gi_wp2
      exact ⟨(Above.refl _ _).setCell (p := ⟨w.heap.size + 1, 0, none⟩) (by simp; omega) _, rfl, H2.out.set 0 (.bool true), H3.out.setCell (p := ⟨w.heap.size + 1, 0, none⟩) (by simp) _, HK.out, HO.out⟩
    · have e1 : ((k : Int) == (x : Int)) = false := by rw [beq_eq_false_iff_ne]; omega
      gi_wp2
      refine ⟨Keeps.refl _ _, H1.out, H2.out, H3.out, fun j hj hw => ?_⟩
      rcases Nat.lt_or_ge j k with h' | h'
      · exact H4.out j h' hw
      · obtain rfl : j = k := by omega
        exact e
  case done =>
    rintro W ⟨_, h2, h3, h4⟩ hK
    have hno : ¬ Works s x := fun hw => h4 x hw.1 hw rfl
    have c2 := h2.cell 0 _ rfl
    have g2 := h2.free 0
    have h5 := h2.set 0 (.bool false)
    have h6 := h3.setCell (p := ⟨w.heap.size + 1, 0, none⟩) (Nat.le_succ _) (.bool false)
    have hK' : (W.setCell ⟨w.heap.size + 1, 0, none⟩ (.bool false)).heap[V0.heap.size]? = some (.deferred (some [])) := (Below.heap_setCell _ _ _ _ (by rw [hsz]; show w.heap.size + 3 ≠ w.heap.size + 1; omega)).trans hK
    have HE : R = false := by rw [← HR.out, decide_eq_false hno]
    gi_wp2
    refine ⟨by simp, .inl ⟨_, _, rfl, run_takeDeferred hK', ?_⟩⟩
    exact ⟨_, results_cell rfl _ _ _ _ rfl (load_bool (cell_put (h5.cell 0 _ rfl) (by simp; omega))), by rw [HE], below_put h6 (by omega) _⟩
  case stop =>
    rintro c k W hk ⟨rfl, h2, h3, h4⟩ hK
    have HE : R = true := by rw [← HR.out, decide_eq_true h4]
    gi_wp2
    refine ⟨by simp, .inl ⟨_, _, rfl, run_takeDeferred hK, ?_⟩⟩
    exact ⟨_, results_cell rfl _ _ _ _ rfl (load_bool (cell_put (h2.cell 0 _ rfl) (by simp; omega))), by rw [HE], below_put h3 (by omega) _⟩
end
end Go.Proofs.Ytmmaglhilghofaa
